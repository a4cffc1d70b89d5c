import PyProof.Rows.All
import KE.KDictSum
import KE.KLam
import OpenK.AllK
import PyProof.CompMap
import PyProof.EnumFor
import PyProof.EnumMake
import PyProof.EqAt
import PyProof.EqKinds
import PyProof.ExcBaseAll.ValueError
import PyProof.InstStoreFacts
import PyProof.ListMulRoad
import PyProof.ListRange
import PyProof.ListStr
import PyProof.Rows.SetFrom
import PyProof.StationsW
import PyProof.TupleCall
import PyProof.WalksMore
import PySem.Syntax
import Wide.All
import Wide.FinOn
import Lean
import PySem.Challenge.RW_kinddeeds_k10_rows_checked
set_option Elab.async false
set_option linter.all false
set_option compiler.extract_closed false
set_option genSizeOf false
set_option bootstrap.genMatcherCode false
set_option maxRecDepth 100000
set_option maxHeartbeats 4000000
noncomputable section
structure PySem.W.Fast:Prop where(tw13416044212300007443 tw15283632238962511206 tw16068680120577487880 tw4056263886135741364 tw5752765341892813291 tw3278540709100449151 tw12367357053435517240 tw9093996814644780123 tw5208473552333598028 tw14276743515471238538 tw17860579761181267643 tw9495527071264273439 tw9107628412570116823 tw9783931139391881382 tw3982926448072856766 tw15541239532433349316 tw193293081275004467 tw62673763762802978 tw9496366607331791546 tw8932157343055991203 tw14970737025371300128 tw17116068731970810395 tw11440926671553290743 tw2888539354600908776 tw6080873438860823006 tw5392179390883242105 tw5733490317086935403 tw1070268937482325947 tw7641760155973640054 tw12425896729294478634 tw9097545625671403106 tw4462034351157464098 tw4038030874826965397 tw16120426216414561082 tw11620550287008418934 tw5214811218172633062 tw1833175279708994929 tw11990759113205006972 tw13153636581146255578 tw318983893205611709 tw11084210917363854946 tw17880497732603619894 tw6929333294653659532 tw34142279865352258 tw16190281712485523167 tw14788625039845443727 tw6830380261100869296 tw5827503094580659270 tw12608235795529396343 tw7768433467366855488 tw2975869748093067752 tw6497212701826176592 tw5907706460366653622 tw11086894937229893499 tw17715350553066739929 tw6866458490722445840 tw1327166673795467025 tw17449326799163394698 tw996319482660818438 tw14375464880321508496 tw7787049198360412104 tw8090030071497662106 tw15190338020689770572 tw11893399274606922123 tw4298876383426388611 tw1679750372497728101 tw936244869500918995 tw15189174181648863148 tw12887947610766801400 tw17980241698677931896 tw2049284833328504615 tw18355812122214763392 tw10543661394424359556 tw4415216677392572647 tw5689992627061263207 tw14817427248142516136 tw11013649844815442796 tw14267899406236037040 tw8083404573473547387 tw894252436430641839 tw5346564955621385381 tw10718737632177197798 tw10914860321108371383 tw9745471827860917784 tw13522928082707280487 tw7660837413933883291 tw7096970070641549482 tw80511358550381005 tw3765669091488222556 tw17206425735733222746 tw8986696398134981854 tw8704380031837348184 tw2046680098978968360 tw4560162955865079646 tw3968338344338093747 tw14244701905803502902 tw420372179936163721 tw10546255636855398547 tw4978307617276035453 tw15237606559438099107 tw1939009714458705753 tw7673153270147788813 tw4963788306200513095 tw3846369637571302531 tw13259413410056185856 tw4878506297919538590 tw15871464080312954305 tw18091052764086072770 tw10389513192901954953 tw8156088465311077778 tw15460285775100048363 tw13805209786260403074 tw2450513805109500541 tw14814542773443860301 tw2490946771885755986 tw1726925764426587566 tw16516032748022536695 tw3543716508949880827 tw9415921388875316409 tw16540260815411557031 tw17685445551860980582 tw930137562626338701 tw4087003844605212713 tw7203194012816911556 tw3989612347093650098 tw8064936328658887650 tw12528610953210400162 tw14408051096455678669 tw2209653754869144167 tw16775392033484432564 tw13710755634552631038 tw10006894989170618713 tw13740954309006432090 tw17405678967762433021 tw7363781436350078985 tw17811053631072022759 tw266601603480038950 tw6301366368153286672 tw6357677593292810897 tw12424288660624946416 tw7595146578554336504 tw13712615613585538891 tw9030378705366708902 tw14061814339494537957 tw288118606068175271 tw10812435466807825576 tw11700832036984169627 tw9586441674093650015 tw5166351981830144224 tw16740909554786161772 tw14424539891294624013 tw11338610319642869835 tw6010417468246874258 tw15912736683230408186 tw9143949711889388859 tw3272898314237614331 tw12366006255920085239 tw11786026408388272743 tw13775992383380453942 tw4858720024532190214 tw154568025226968832 tw8564150655629180827 tw16934381708972697818 tw15068504784249859498 tw3481808638190148632 tw7817449812943288155 tw17896438526371397099 tw6957619286138339869 tw7485243695837018222 tw8633428619092185131 tw10793404649856156682 tw7517812543606177147 tw8558958549318897036 tw3251196176392483765 tw17876499076888368533 tw15813696516072255189 tw6076852034637491815 tw9046749078063601171 tw15725826239517443171 tw9869044990426776349 tw14533320376407436770 tw14815083311722441662 tw607061014336436501 tw7112771081674925764 tw3447910812271108743 tw15061142659515541568 tw1032667437932241151 tw16658487128595933509 tw3423752004189101529 tw9350889961804692212 tw4570338901119227256 tw11578325112301480378 tw16438036295666716224 tw15112873011630544510 tw1607501635958808262 tw6452209712012365861 tw8972602140060544187 tw16901323572484244468 tw8962728585616597016 tw8752758364500539691 tw13273535859708745044 tw11939966419923109883 tw4979173999494835978 tw16122995823495685106 tw8399254624616802578 tw12289237635186545505 tw12649022711447200305 tw12704637865938412402 tw746002338820257317 tw7050943533538517688 tw8237563964219280641 tw406381076370231509 tw1754601128449725132 tw16025227379992166243 tw3398775881939314487 tw15549092510969929358 tw14731228602018375833 tw5002803784016997205 tw15126675087348162698 tw11677477809308580069 tw2632415578614719834 tw10594795747766416167 tw14989707704505311576 tw12302007084415661622 tw12839285101704115212 tw15701265697619019407 tw8062046152303708349 tw11979680986264159985 tw8284055893057888244 tw12323253363367896273 tw3897863071960837986 tw13773313742087905572 tw17320028388939806326 tw3374945525323018124 tw7824174828940474483 tw17037702966761401702 tw4370311008699512659 tw15016928614132843718 tw15001441937874787875 tw13645023645238736671 tw17022240210699555573 tw9177671233018708730 tw8268787489048963972 tw3680324969060081377 tw13164388167275658994 tw14062963570016590661 tw3416078464674475035 tw10028196526380929120 tw9580428597290755836 tw10241815493350495474 tw8795873634436953392 tw11234104344010868130 tw4227004898068590695 tw17498355571116705748 tw6467733348613977332 tw3050535768985639225 tw3466289569111029616 tw9119668697287068903 tw5713672976206954344 tw12941086241259134051 tw4159084535834213112 tw17995659916007380308 tw1142365882534191355 tw11457002438411452808 tw15759891437545511934 tw8644909365070086121 tw6723520596624641410 tw16958380252107004254 tw9598117972521561497 tw12913556126306577170 tw13840712200429337389 tw9465835304186417176 tw11514635646239416205 tw2108059482805886002 tw14558242503810800025 tw15910876828970460381 tw14377737509841058087 tw3107863557627650934 tw4161724382103702179 tw15583987951672725369 tw9051513892520342995 tw5840801234765546782 tw10678551823134868729 tw6759925852909026036 tw2108439345171224404 tw12154893678577672532 tw9387650382546346385 tw16442292319192213104 tw2295156613905181521 tw1555155076119316933 tw15080929975177141583 tw12550665006905890627 tw1140820977092940400 tw12552864162213982669 tw16942558348185876174 tw16756867172964327643 tw3533981863543815291 tw10779843755393638125 tw76021143757221302 tw6805338433451566402 tw5634121297629135066 tw12560880085524399277 tw863770422242330071 tw14748827940192643130 tw3425208731028881699 tw5424408741539509338 tw12417813118872955562 tw15363001223374630963 tw1654122913156930938 tw2746555111705178339 tw9489567735582688973 tw8276626564167863254 tw15341863756337447290 tw10406504783509314436 tw9738609164446585956 tw8235721724720049198 tw14185476799285667207 tw8084330628127923048 tw6355636206745278269 tw15268825656765836736 tw14460343088564427165 tw18014592902711095142 tw1532837310653904412 tw15913411955961113437:True)
open List (mem_singleton mem_append mem_cons isEmpty_iff mem_filter mem_range filterMap_cons mem_filterMap size_toArray append_nil nodup_cons of_mem_zip length_take mem_of_getElem? length_replicate length_drop length_set reverse_cons replicate_succ flatten_cons append_assoc nil_append map_nil map_cons lookup_cons all_eq_true not_mem_nil ext_getElem? getElem_mem contains_cons set_set mem_map_of_mem mem_map take_of_length_le all_cons all_map not_lt map_append take_add_one length_range getElem_map map_map any_eq_true cons_append all_append getD_eq_getElem?_getD mem_of_mem_drop mem_of_mem_take findIdx_cons)
open PySem.W (methodObj hideAll hideAll_size hideAll_get of_hideAll hideAll_none Frag lookIn hasDictIn findIn cellsFrom_some fnOf codeIn codeRec_of keepIn typeIn looks_findIn Looks clsIn takerIn InstAt looks_mroIn mroIn check_slot looks_clsIn osa_eq isFn handedIn handed_on notCls specialIn takesIn KitX CodeHd kla_fn tabObj envX codeHdIn codeHd_of_K kitOne KdlSrc kia_one kitx_list kitx_dict subIn kitCls nsIn mg_of)
abbrev _root_.Va:=PySem.Value->PySem.Shared->Prop
abbrev _root_.Oa:=List (PySem.Addr×PySem.Obj)
abbrev _root_.ng(x:PySem.Str):Prop:=(x == ("__debug__":PySem.Str))=false
local macro_rules
|`($k^^^$n&&&$e)=>`($k == PySem.NameKind.free && ($e).scope.kind == .function && ($e).kindOf $n == some .cell)
|`($x|||$m)=>`(PySem.wpAny (PySem.model ($x).prog ($x).w) ($x).A $m)
theorem mS{α:Type}{a:α}{l:List α}:a∈a::l:=List.mem_cons_self
theorem mC{α:Type}{a b:α}{l:List α}(h:b∈l):b∈a::l:=List.mem_cons_of_mem a h
theorem mL{α:Type}{a:α}{l m:List α}(h:a∈l):a∈l++m:=List.mem_append_left m h
theorem mR{α:Type}{a:α}{l m:List α}(h:a∈m):a∈l++m:=List.mem_append_right l h
theorem mE{α:Type}{a b:α}(h:a∈[b]):a=b:=mem_singleton.mp h
theorem mZ{α:Type}{a:α}{l m:List α}(h:a∈l++m):a∈l\/a∈m:=mem_append.mp h
theorem mK{α:Type}{a b:α}{l:List α}(h:a∈b::l):a=b\/a∈l:=mem_cons.mp h
theorem dF{p:Prop}[Decidable p](h:¬p):decide p=false:=decide_eq_false h
theorem dZ{p:Prop}[Decidable p](h:p):decide p=true:=decide_eq_true h
theorem oM{α β:Type}{x:Option α}{f:α->β}{b:β}(h:x.map f=some b):∃a,x=some a/\f a=b:=Option.map_eq_some_iff.mp h
theorem lR{n:Nat}:n<=n:=Nat.le_refl n
theorem lA{α:Type}{a b:List α}:(a++b).length=a.length+b.length:=List.length_append
theorem lS{α:Type}{a:α}:[a].length=1:=rfl
theorem lC{α:Type}{a:α}{l:List α}:(a::l).length=l.length+1:=rfl
theorem lM{α β:Type}{f:α->β}{l:List α}:(l.map f).length=l.length:=List.length_map f
theorem bA(a b:Bool):((a&&b)=true)=(a=true/\b=true):=Bool.and_eq_true a b
theorem PySem.wB{α β:Type}{M:PySem.Model}{A:PySem.Around}{E:PySem.Value->PySem.Shared->Prop}{s:PySem.Shared}{m:PySem.Sem α}{f:α->PySem.Sem β}{Q:β->PySem.Shared->Prop}(h:PySem.wpAny M A m (λa s'=>PySem.wpAny M A (f a) Q E s') E s):PySem.wpAny M A (m>>=f) Q E s:=PySem.wpAny_bind h
theorem PySem.wP{α:Type}{M:PySem.Model}{A:PySem.Around}{E:PySem.Value->PySem.Shared->Prop}{s:PySem.Shared}{a:α}{Q:α->PySem.Shared->Prop}(h:Q a s):PySem.wpAny M A (pure a) Q E s:=PySem.wpAny_pure h
theorem PySem.gP{h:PySem.Heap}{b:PySem.Addr}{o u:PySem.Obj}(e:h.get? b=some u):(h.push o).get? b=some u:=PySem.Heap.get?_push_of_some o e
theorem iP{c:Prop}{i:Decidable c}(h:c){α:Type}{t e:α}:(@ite α c i t e)=t:=if_pos h
theorem iN{c:Prop}{i:Decidable c}(h:¬c){α:Type}{t e:α}:(@ite α c i t e)=e:=if_neg h
namespace Nv
open PySem
inductive P where
 |A8|bl (b:Bool)|int (i:Int)|str (x:Str)|tup (ps:List P)|fn (i:Nat)(c:List P)|box (t:Nat)(ps:List P)
 deriving Inhabited
inductive C where
 |p (x:P)|lst (o:Bool)(ps:List P)|BC (o:Bool)(kvs:List (P×P))|exc (x:Nat)(p:P)
 deriving Inhabited
abbrev Env:=List (Option C)
def Ap(ρ:Env)(i:Nat):Option C:=(ρ[i]?).getD none
def C.bor:C->C
 |.p x=>.p x
 |.lst _ ps=>.lst false ps
 |.BC _ kvs=>.BC false kvs
 |.exc x q=>.exc x q
inductive Res(α:Type) where
 |stuck|ok (a:α)|err (x:Nat)(p:P)
def Res.bind{α β:Type}(r:Res α)(f:α->Res β):Res β:=match r with
 |.stuck=>.stuck
 |.ok a=>f a
 |.err x p=>.err x p
def Res.of{α:Type}:Option α->Res α
 |some a=>.ok a
 |none=>.stuck
def C.Dz:C->Option P
 |.p x=>some x
 |.lst o ps=>if o then some (.box 0 ps)else none
 |.BC o kvs=>if o && kvs.isEmpty then some (.box 1 [])else none
 |.exc _ _=>none
inductive Tg where
 |nm (i:Nat)|tup (is:List Nat)
def Tg.slots:Tg->List Nat
 |.nm i=>[i]
 |.tup is=>is
abbrev Sq:=C->Option (List P)
inductive T where
 |cst (c:C)|var (i:Nat)
 |Ai (f:C->Option C)(a:T)|A1 (f:C->C->Option C)(a b:T)|Wi (f:C->C->C->Option C)(a b c:T)
 |NI (f g:C->C->Option C)(a b c:T)
 |tup (ts:List T)|lst (ts:List T)
 |and (a b:T)|or (a b:T)|not (a:T)|ite (c a b:T)
 |call (f:Nat)(ts:List T)|app (i:Nat)(ts:List T)|L6 (f:Nat)(a:T)(l:Nat)(G9:List Nat)
 |comp (g:Tg)(k:Sq)(it:T)(cond:List T)(elt:T)(fr:List (Option Nat))
mutual
def T.calm:T->Bool
 |.cst _=>true
 |.var _=>true
 |.Ai _ a=>a.calm
 |.A1 _ a b=>a.calm && b.calm
 |_=>false
end
inductive S where
 |asg (g:Tg)(t:T)|Bu (i:Nat)(b:Bool)(f:C->List C->Option C)(ts:List T)|pop (d:Option Nat)(i:Nat)|expr (t:T)
 |ret (t:T)|DI (i:Nat)|ifs (c:T)(a b:List S)|WI (c:T)(b:List S)|Be (g:Tg)(k:Sq)(it:T)(b:List S)
 |pass|brk|cnt|raise (x:Nat)(t:T)|WV (b:List S)(hs:List (List Nat×Option Nat×List S))
abbrev CF:=Nat->List C->Res C
def Gd:C->Option Bool
 |.p .A8=>some false
 |.p (.bl b)=>some b
 |.p (.int i)=>some (i != 0)
 |.p (.str x)=>if x.length<=100000 then some (x.length != 0)else none
 |.p (.tup ps)=>some (!ps.isEmpty)
 |.lst _ ps=>some (!ps.isEmpty)
 |_=>none
def C.Fj :C->Option Bool
 |.p (.bl b)=>some b
 |_=>none
def C.cE :C->Option (Nat×List P)
 |.p (.fn i c)=>some (i,c)
 |_=>none
def C.GZ :C->Option P
 |.p x=>some x
 |_=>none
def C.jW :C->Option Int
 |.p (.int i)=>some i
 |_=>none
def P.CV :P->Option (List P)
 |.tup ps=>some ps
 |_=>none
def IX(g:Tg)(v:P)(ρ:Env):Option Env:=match g with
 |.nm i=>some (ρ.set i (some (.p v)))
 |.tup is=>v.CV.bind λvs=>if is.length=vs.length then some ((is.zip vs).foldl (λr q=>r.set q.1 (some (.p q.2))) ρ)else none
def AE(fr:List (Option Nat))(ρ:Env):Env:=fr.map λo=>o.bind λi=>(Ap ρ i).map C.bor
def Res.ne{α:Type}:Res α->Res α
 |.ok a=>.ok a
 |_=>.stuck
noncomputable def Bj(g:Tg)(cond:Env->Res Bool)(elt:Env->Res C)(β:Env):List P->Res (List P)
 |[]=>.ok []
 |x::xs=>(Res.of (IX g x β)).bind λβ1=>(cond β1).ne.bind λb=>if b then(elt β1).ne.bind λc=>(Res.of c.GZ).bind λy=>(Bj g cond elt β xs).bind λys=>.ok (y::ys)else Bj g cond elt β xs
structure Sm where
 v:Env->Res C
 b:Env->Res Bool
def Sm.of(v:Env->Res C):Sm:=⟨v,λρ=>(v ρ).bind λc=>Res.of (Gd c)⟩
def OY(ρ:Env):List Nat->Option (List P)
 |[]=>some []
 |i::is=>((Ap ρ i).bind C.jW).bind λx=>(OY ρ is).map (.int x::·)
def big:Nat:=100000
mutual
noncomputable def den (cf:CF):T->Sm
 |.cst c=>.of λ_=>.ok c.bor
 |.var i=>.of λρ=>Res.of ((Ap ρ i).map C.bor)
 |.Ai f a=>.of λρ=>((den cf a).v ρ).bind λx=>Res.of (f x)
 |.A1 f a b=>.of λρ=>((den cf a).v ρ).bind λx=>((den cf b).v ρ).bind λy=>Res.of (f x y)
 |.Wi f a b c=>.of λρ=>((den cf a).v ρ).bind λx=>((den cf b).v ρ).bind λy=>((den cf c).v ρ).bind λz=>Res.of (f x y z)
 |.NI f g a b c=>.of λρ=>((den cf a).v ρ).bind λx=>((den cf b).v ρ).bind λy=>(Res.of ((f x y).bind C.Fj)).bind λk=>if k then((den cf c).v ρ).bind λz=>Res.of (g y z)else .ok (.p (.bl false))
 |.tup ts=>.of λρ=>(FN cf ts ρ).bind λps=>if ps.length<=1000 then .ok (.p (.tup ps))else .stuck
 |.lst ts=>.of λρ=>(FN cf ts ρ).bind λps=>if ps.length<=1000 then .ok (.lst true ps)else .stuck
 |.and a b=>⟨λρ=>((den cf a).v ρ).bind λc=>(Res.of c.Fj).bind λk=>if k then(den cf b).v ρ else .ok (.p (.bl false)),λρ=>((den cf a).b ρ).bind λk=>if k then(den cf b).b ρ else .ok false⟩
 |.or a b=>⟨λρ=>((den cf a).v ρ).bind λc=>(Res.of c.Fj).bind λk=>if k then .ok (.p (.bl true))else(den cf b).v ρ,λρ=>((den cf a).b ρ).bind λk=>if k then .ok true else(den cf b).b ρ⟩
 |.not a=>⟨λρ=>((den cf a).v ρ).bind λc=>(Res.of c.Fj).bind λk=>.ok (.p (.bl (!k))),λρ=>((den cf a).b ρ).bind λk=>.ok (!k)⟩
 |.ite c a b=>⟨λρ=>((den cf c).b ρ).bind λk=>if k then(den cf a).v ρ else(den cf b).v ρ,λ_=>.stuck⟩
 |.call f ts=>.of λρ=>(FO cf ts ρ).bind λcs=>cf f cs
 |.app i ts=>.of λρ=>(Res.of ((Ap ρ i).bind C.cE)).bind λq=>(FO cf ts ρ).bind λcs=>cf q.1 (cs++q.2.map .p)
 |.L6 f a l G9=>.of λρ=>((den cf a).v ρ).bind λx=>(Res.of (OY ρ G9)).bind λps=>(cf f [x,.p (.fn l ps)]).ne.bind λc=>(Res.of c.Fj).bind λb=>.ok (.p (.bl b))
 |.comp g k it cond elt fr=>.of λρ=>((den cf it).v ρ).bind λc=>(Res.of (k c)).bind λxs=>if xs.length<=big then(Bj g (Mq cf cond) (den cf elt).v (AE fr ρ) xs).bind λys=>.ok (.lst true ys)else .stuck
noncomputable def FO (cf:CF):List T->Env->Res (List C)
 |[],_=>.ok []
 |t::ts,ρ=>((den cf t).v ρ).bind λc=>(FO cf ts ρ).bind λcs=>.ok (c::cs)
noncomputable def FN (cf:CF):List T->Env->Res (List P)
 |[],_=>.ok []
 |t::ts,ρ=>((den cf t).v ρ).bind λc=>(Res.of c.Dz).bind λx=>(FN cf ts ρ).bind λxs=>.ok (x::xs)
noncomputable def Mq (cf:CF):List T->Env->Res Bool
 |[],_=>.ok true
 |t::_,ρ=>(den cf t).b ρ
end
abbrev ev(cf:CF)(t:T):Env->Res C:=(den cf t).v
abbrev tv(cf:CF)(t:T):Env->Res Bool:=(den cf t).b
inductive Fl where
 |nx (ρ:Env)|brk (ρ:Env)|cnt (ρ:Env)|ret (c:C)|err (x:Nat)(p:P)(ρ:Env)|stuck
def Res.fl{α:Type}(r:Res α)(ρ:Env)(f:α->Fl):Fl:=match r with
 |.stuck=>.stuck
 |.ok a=>f a
 |.err x p=>.err x p ρ
def C.own:C->Bool
 |.p _=>true
 |.lst o _=>o
 |.BC o _=>o
 |.exc _ _=>false
def Fl.then(r:Fl)(f:Env->Fl):Fl:=match r with
 |.nx ρ=>f ρ
 |r=>r
def Fl.turn(r:Fl)(f:Env->Fl):Fl:=match r with
 |.nx ρ=>f ρ
 |.cnt ρ=>f ρ
 |.brk ρ=>.nx ρ
 |r=>r
abbrev WH:=(Env->Res Bool)->(Env->Fl)->Env->Fl
def As(c:Env->Res Bool)(b:Env->Fl):Nat->Env->Fl
 |0,_=>.stuck
 |n+1,ρ=>(c ρ).fl ρ λx=>if x then(b ρ).turn (As c b n)else .nx ρ
open Classical in
noncomputable def AW:WH:=λc b ρ=>if h:∃n,As c b n ρ≠.stuck then As c b h.choose ρ else .stuck
def forL(g:Tg)(b:Env->Fl):List P->Env->Fl
 |[],ρ=>.nx ρ
 | x::xs,ρ=>match IX g x ρ with
   |some ρ1=>(b ρ1).turn (forL g b xs)
   |none=>.stuck
def ER:T->Option Nat
 |.var i=>some i
 |_=>none
def C.Ew:C->Bool
 |.lst o _=>o
 |_=>false
def C.iD:C->C
 |.lst _ ps=>.lst true ps
 |c=>c
def VN(c0:Option C)(i:Nat)(ρ:Env):Env:=if c0.any C.Ew then ρ.set i ((Ap ρ i).map C.iD)else ρ
def Fl.fin(r:Fl)(f:Env->Env):Fl:=match r with
 |.nx ρ=>.nx (f ρ)
 |.err x p ρ=>.err x p (f ρ)
 |.ret c=>.ret c
 |_=>.stuck
def GR(g:Tg)(c:C)(ρ:Env):Option Env:=match g with
 |.nm i=>if c.own then some (ρ.set i (some c))else none
 |.tup is=>(match c with| .lst _ ps=>some ps| .p x=>x.CV |_=>none).bind λps=>IX (.tup is) (.tup ps) ρ
def J9:C->Option (P×C)
 |.lst o ps=>if o then ps.getLast?.map λx=>(x,.lst true ps.dropLast)else none
 |_=>none
mutual
def cS:S->List Nat
 |.asg g _=>g.slots
 |.pop d _=>d.toList
 |.ifs _ a b=>CT a++CT b
 |.WI _ b=>CT b
 |.Be g _ _ b=>g.slots++CT b
 |.WV b hs=>CT b++WB hs
 |_=>[]
def CT:List S->List Nat
 |[]=>[]
 |s::ss=>cS s++CT ss
def WB:List (List Nat×Option Nat×List S)->List Nat
 |[]=>[]
 |(_,o,b)::hs=>o.toList++CT b++WB hs
end
mutual
noncomputable def exec (cf:CF) (wh:WH):S->Env->Fl
 | .asg g t,ρ=>(ev cf t ρ).fl ρ λc=>match GR g c ρ with
   |some ρ'=>.nx ρ'
   |none=>.stuck
 | .Bu i b f ts,ρ=>if !(Ap ρ i).any (cond b C.Ew λ_=>true)then .stuck else(FO cf ts ρ).fl ρ λcs=>match(Ap ρ i).bind λc=>f c cs with
   |some c'=>.nx (ρ.set i (some c'))
   |none=>.stuck
 | .pop d i,ρ=>match(Ap ρ i).bind J9 with
   | some q=>match d with
     |some j=>if j=i then .stuck else .nx ((ρ.set i (some q.2)).set j (some (.p q.1)))
     |none=>.nx (ρ.set i (some q.2))
   |none=>.stuck
 |.expr t,ρ=>(ev cf t ρ).fl ρ λ_=>.nx ρ
 |.ret t,ρ=>(ev cf t ρ).fl ρ λc=>if c.own then .ret c else .stuck
 | .DI i,ρ=>match Ap ρ i with
   |some c=>if c.own then .ret c else .stuck
   |none=>.stuck
 |.ifs c a b,ρ=>(tv cf c ρ).fl ρ λx=>if x then execs cf wh a ρ else execs cf wh b ρ
 |.WI c b,ρ=>wh (tv cf c) (execs cf wh b) ρ
 | .Be g k it b,ρ=>match ER it with
   | some i=>match(Ap ρ i).bind λc=>k c.bor with
     |some xs=>if(g.slots++CT b).contains i then .stuck else(forL g (execs cf wh b) xs (ρ.set i ((Ap ρ i).map C.bor))).fin (VN (Ap ρ i) i)
     |none=>.stuck
   | none=>(ev cf it ρ).fl ρ λc=>match k c with
     |some xs=>if c.own then(forL g (execs cf wh b) xs ρ).fin id else .stuck
     |none=>.stuck
 |.pass,ρ=>.nx ρ
 |.brk,ρ=>.brk ρ
 |.cnt,ρ=>.cnt ρ
 | .raise x t,ρ=>(ev cf t ρ).fl ρ λc=>match c.GZ with
   |some p=>.err x p ρ
   |none=>.stuck
 | .WV b hs,ρ=>match execs cf wh b ρ with
   |.err x p ρ'=>hand cf wh x p hs ρ'
   |r=>r
noncomputable def execs (cf:CF) (wh:WH):List S->Env->Fl
 |[],ρ=>.nx ρ
 |s::ss,ρ=>(exec cf wh s ρ).then (execs cf wh ss)
noncomputable def hand (cf:CF) (wh:WH) (x:Nat) (p:P):List (List Nat×Option Nat×List S)->Env->Fl
 |[],_=>.stuck
 |(cs,o,b)::hs,ρ=>if cs.contains x then(match o with
     |some i=>(execs cf wh b (ρ.set i (some (.exc x p)))).then λρ'=>.nx (ρ'.set i none)
     |none=>execs cf wh b ρ)else hand cf wh x p hs ρ
end
structure P7 where
 np:Nat
 nl:Nat
 body:List S
def DH(cf:CF)(wh:WH)(fi:P7)(args:List C):Res C:=
 if args.length=fi.np then match execs cf wh fi.body (args.map some++List.replicate (fi.nl - fi.np) none)with
  |.nx _=>.ok (.p .A8)
  |.ret c=>.ok c
  |.err x p _=>.err x p
  |_=>.stuck
 else .stuck
def AR(fns:List P7)(wh:WH):Nat->CF
 |0,_,_=>.stuck
 | k + 1,f,args=>match fns[f]? with
   |some fi=>DH (AR fns wh k) wh fi args
   |none=>.stuck
end Nv
namespace Nv
open PySem
def P.int? :P->Option Int
 |.int i=>some i
 |_=>none
def P.BZ :P->Option Str
 |.str i=>some i
 |_=>none
def P.Fj :P->Option Bool
 |.bl i=>some i
 |_=>none
def P.cE :P->Option (Nat×List P)
 |.fn i c=>some (i,c)
 |_=>none
def P.Sb :P->Option (Nat×List P)
 |.box i c=>some (i,c)
 |_=>none
def P.tag:P->Nat
 |.A8=>0| .bl _=>1| .int _=>2| .str _=>3| .tup _=>4| .fn _ _=>5| .box _ _=>6
mutual
def Dt:P->P->Bool
 |.A8,q=>q.tag == 0
 |.bl b,q=>q.Fj == some b
 |.int i,q=>q.int? == some i
 |.str x,q=>q.BZ == some x
 |.tup ps,q=>q.CV.any (De ps)
 |.fn i c,q=>q.cE.any λr=>i == r.1 && De c r.2
 |.box i c,q=>q.Sb.any λr=>i == r.1 && De c r.2
def De:List P->List P->Bool
 |[],qs=>qs.isEmpty
 |p::ps,qs=>qs.head?.any (Dt p) && De ps qs.tail
end
theorem any_some{α:Type}{o:Option α}{f:α->Bool}(h:o.any f=true):∃a,o=some a/\f a=true:=by
 cases o with
 |none=>cases h
 |some a=>exact⟨a,rfl,h⟩
theorem P.Bh{q:P}{i:Int}(h:q.int? =some i):q= .int i:=by cases q<;>cases h;rfl
theorem P.BE{q:P}{i:Str}(h:q.BZ =some i):q= .str i:=by cases q<;>cases h;rfl
theorem P.Fc{q:P}{i:Bool}(h:q.Fj =some i):q= .bl i:=by cases q<;>cases h;rfl
theorem P.Bx{q:P}{i:List P}(h:q.CV =some i):q= .tup i:=by cases q<;>cases h;rfl
theorem P.Ry{q:P}{i:Nat×List P}(h:q.cE =some i):q= .fn i.1 i.2:=by cases q<;>cases h;rfl
theorem P.Sa{q:P}{i:Nat×List P}(h:q.Sb =some i):q= .box i.1 i.2:=by cases q<;>cases h;rfl
mutual
theorem NM:∀{p q:P},Dt p q=true->p=q
 |.A8,q,h=>by unfold Dt at h;cases q<;>first|rfl|cases h
 |.bl b,q,h=>by unfold Dt at h;exact(P.Fc (eq_of_beq h)).symm
 |.int b,q,h=>by unfold Dt at h;exact(P.Bh (eq_of_beq h)).symm
 |.str b,q,h=>by unfold Dt at h;exact(P.BE (eq_of_beq h)).symm
 | .tup ps,q,h=>by
   unfold Dt at h;obtain⟨a,h1,h2⟩:=any_some h;rw[P.Bx h1,Fd h2]
 | .fn i c,q,h=>by
   unfold Dt at h;obtain⟨a,h1,h2⟩:=any_some h;rw[bA]at h2;rw[P.Ry h1,eq_of_beq h2.1,Fd h2.2]
 | .box i c,q,h=>by
   unfold Dt at h;obtain⟨a,h1,h2⟩:=any_some h;rw[bA]at h2;rw[P.Sa h1,eq_of_beq h2.1,Fd h2.2]
theorem Fd:∀{ps qs:List P},De ps qs=true->ps=qs
 |[],qs,h=>by unfold De at h;exact(isEmpty_iff.mp h).symm
 |p::ps,[],h=>by unfold De at h;cases h
 | p::ps,q::qs,h=>by
   unfold De at h;rw[bA]at h;have h1:Dt p q=true:=h.1;rw[NM h1,Fd (ps:=ps) (qs:=qs) h.2]
end
mutual
theorem IH:∀(p:P),Dt p p=true
 |.A8=>rfl
 |.bl b=>by unfold Dt;exact beq_self_eq_true _
 |.int b=>by unfold Dt;exact beq_self_eq_true _
 |.str b=>by unfold Dt;exact beq_self_eq_true _
 |.tup ps=>by unfold Dt;exact Ds ps
 |.fn i c=>by unfold Dt;show(i == i && De c c)=true;rw[beq_self_eq_true,Ds c];rfl
 |.box i c=>by unfold Dt;show(i == i && De c c)=true;rw[beq_self_eq_true,Ds c];rfl
theorem Ds:∀(p:List P),De p p=true
 |[]=>rfl
 |p::ps=>by unfold De;show(Dt p p && De ps ps)=true;rw[IH p,Ds ps];rfl
end
instance:DecidableEq P:=λp q=>decidable_of_bool (Dt p q) ⟨NM,λh=>h▸IH p⟩
mutual
def CM:P->P->Bool
 |.tup a,q=>q.tag < 4 || q.CV.any (C9 a)
 |.A8,q=>q.tag < 5
 |.bl _,q=>q.tag < 5 && q.tag != 2
 |.int _,q=>q.tag < 5 && q.tag != 1
 |.str _,q=>q.tag < 5
 |_,_=>false
def C9:List P->List P->Bool
 |[],_=>true
 |p::ps,qs=>(match qs with|[]=>true|q::qs=>CM p q && C9 ps qs)
end
def C.int?(c:C):Option Int:=c.GZ.bind P.int?
def C.BZ(c:C):Option Str:=c.GZ.bind P.BZ
def C.CV(c:C):Option (List P):=c.GZ.bind P.CV
def P.Il(p:P):Option (List P):=p.Sb.bind λr=>if r.1=0 then some r.2 else none
def C.Gg :C->Option (List P)
 |.lst _ ps=>some ps
 |.p x=>x.Il
 |_=>none
def C.seq?(c:C):Option (List P):=c.Gg <|> c.CV
def GI{α:Type}(xs:List α):Option (List α):=if xs.length<=big then some xs else none
abbrev nw(ps:List P):C:=.lst true ps
def A3(f:Int->Int->Option Int)(a b:C):Option C:=a.int?.bind λi=>b.int?.bind λj=>(f i j).map λk=>.p (.int k)
def gq(i j:Int):Option Int:=some (i+j)
def Et(i j:Int):Option Int:=some (i-j)
def UC(i j:Int):Option Int:=if(-(2 ^ 64) < i/\i < 2 ^ 64)\/(-(2 ^ 64) < j/\j < 2 ^ 64)then some (i*j)else none
def Ab(i j:Int):Option Int:=if 0 < j then some (i%j)else none
def A7(i j:Int):Option Int:=if 0 < j/\j < 1073741824 then some (i/j)else none
def Ge(i j:Int):Option Int:=if 0<=j/\j<=1000/\i.natAbs < 2 ^ 64 then some (i ^ j.toNat)else none
def gn(a b:C):Option C:=a.BZ.bind λi=>b.BZ.bind λj=>if i.length+j.length<=big then some (.p (.str (i++j)))else none
def gm(a b:C):Option C:=a.CV.bind λi=>b.CV.bind λj=>if i.isEmpty then none else(GI (i++j)).map λz=>.p (.tup z)
def gp(a b:C):Option C:=a.Gg.bind λi=>b.Gg.bind λj=>(GI (i++j)).map nw
def A5(a b:C):Option C:=A3 gq a b <|> gn a b <|> gm a b <|> gp a b
def bQ(a b:C):Option C:=a.CV.bind λx=>b.int?.bind λj=>if x.length=1/\2<=j/\j<=1000 then some (.p (.tup (List.replicate j.toNat x).flatten))else none
def mulL(a b:C):Option C:=a.Gg.bind λx=>b.int?.bind λj=>if x.length=1/\-1000<=j/\j<=1000 then some (nw (List.replicate j.toNat x).flatten)else none
def mulC(a b:C):Option C:=A3 UC a b <|> bQ a b <|> mulL a b
abbrev bC(b:Bool):C:=.p (.bl b)
mutual
def P.depth:P->Nat
 |.tup ps=>P.AO ps+1
 |_=>0
def P.AO:List P->Nat
 |[]=>0
 |p::ps=>max p.depth (P.AO ps)
end
def Z1(p q:P):Option Bool:=if CM p q=true/\p.depth<=90 then some (decide (p=q))else none
def SS(a b:C):Option Bool:=(a.GZ.bind λp=>b.GZ.bind λq=>Z1 p q) <|> (a.Gg.bind λp=>b.Gg.bind λq=>if C9 p q=true/\P.AO p<=90 then some (decide (p=q))else none)
def Bq(a b:C):Option C:=(SS a b).map bC
def JU(a b:C):Option C:=(SS a b).map λk=>bC (!k)
def Jm(a b:C):Option C:=a.int?.bind λi=>b.int?.map λj=>bC (decide (i < j))
def Hq(a b:C):Option C:=a.int?.bind λi=>b.int?.map λj=>bC (decide (j < i))
def dM(a b:C):Option C:=a.int?.bind λi=>b.int?.map λj=>bC (decide (j<=i))
def jS(a b:C):Option C:=a.int?.bind λi=>b.int?.map λj=>bC (decide (i<=j))
def jR(a b:C):Option C:=a.BZ.bind λi=>b.BZ.map λj=>bC (decide (i.cps.toList<=j.cps.toList))
def HN(a b:C):Option C:=jS a b <|> jR a b
def C.Yk:C->Bool
 |.p x=>decide (x= .A8)
 |_=>false
def ZQ(a b:C):Option C:=b.GZ.bind λq=>if q= .A8 then some (bC a.Yk)else none
def cn(a b:C):Option C:=b.GZ.bind λq=>if q= .A8 then some (bC (!a.Yk))else none
def DT{α:Type}(f:P->Option α):List P->Option (List α)
 |[]=>some []
 |p::ps=>(f p).bind λx=>(DT f ps).map (x::·)
def fT(a b:C):Option Bool:=a.BZ.bind λx=>b.seq?.bind λps=>(DT P.BZ ps).map λxs=>xs.contains x
def Gi(kvs:List (P×P))(k:P):Option P:=(kvs.find? λq=>decide (q.1=k)).map (·.2)
def dput(kvs:List (P×P))(k v:P):List (P×P):=if(kvs.any λq=>decide (q.1=k))=true then kvs.map λq=>if q.1=k then(q.1,v)else q else kvs++[(k,v)]
def keyOk:P->Bool
 |.int _=>true
 |.str _=>true
 |_=>false
def D6(kvs:List (P×P))(k:P):Bool:=keyOk k && kvs.all λq=>q.1.tag == k.tag
def C.Z8 :C->Option (List (P×P))
 |.BC _ kvs=>some kvs
 |_=>none
def Rl(a b:C):Option C:=(fT a b).map bC
def bO(a b:C):Option C:=(fT a b).map λk=>bC (!k)
def G5(n:Nat)(i:Int):Option Nat:=if 0<=i then(if i < n then some i.toNat else none)else(if -(n:Int)<=i then some (i+n).toNat else none)
def sign(c:Nat):P:=.str ⟨#[c]⟩
def signs(x:Str):List P:=x.cps.toList.map sign
def C.O0(c:C):Option (List P):=c.BZ.bind λx=>if x.length<=big then some (signs x)else none
def A2(c i:C):Option C:=(c.seq? <|> c.O0).bind λps=>i.int?.bind λi=>(G5 ps.length i).bind λk=>(ps[k]?).map .p
def Mf(c k:C):Option C:=c.Z8.bind λkvs=>k.GZ.bind λk=>if D6 kvs k then some (.p ((Gi kvs k).getD .A8))else none
def Cd(n d:Nat):Option Int->Nat
 |none=>d
 |some v=>if v < 0 then(v+n).toNat else min v.toNat n
def cut{α:Type}(xs:List α)(lo hi:Option Int):List α:=(xs.drop (Cd xs.length 0 lo)).take (Cd xs.length xs.length hi-Cd xs.length 0 lo)
def jJ(lo hi:Option Int)(x:C):Option C:=x.Gg.map λps=>nw (cut ps lo hi)
def jH(lo hi:Option Int)(x:C):Option C:=x.CV.map λps=>.p (.tup (cut ps lo hi))
def jI(lo hi:Option Int)(x:C):Option C:=x.BZ.bind λx=>if(lo.all (0<=·) && hi.all (0<=·))/\x.length<=big then some (.p (.str ⟨(cut x.cps.toList lo hi).toArray⟩))else none
def K6(lo hi:Option Int)(x:C):Option C:=jJ lo hi x <|> jH lo hi x <|> jI lo hi x
def Fu(x lo:C):Option C:=lo.int?.bind λl=>K6 (some l) none x
def DC(x hi:C):Option C:=hi.int?.bind λh=>K6 none (some h) x
def SO(x lo hi:C):Option C:=lo.int?.bind λl=>hi.int?.bind λh=>K6 (some l) (some h) x
def Av(c:C):Option C:=(c.seq? <|> c.O0).map λps=>.p (.int ps.length)
def DD(f:Int->Option P)(c:C):Option C:=c.int?.bind λi=>(f i).map .p
def EM(i:Int):Option P:=some (.int (-i))
def VB(i:Int):Option P:=some (.int (if i < 0 then -i else i))
def fS(c:C):Option C:=c.Fj.map λb=>.p (.int (if b then 1 else 0))
def V0(c:C):Option C:=fS c
def CL(c:C):Option C:=(c.seq?.map nw) <|> (c.O0.bind λps=>if(c.BZ.any λx=>x.cps.all λk=>decide (k < 128))then some (nw ps)else none) <|> (c.Z8.map λkvs=>nw (kvs.map (·.1)))
def Ks(c:C):Option C:=c.CV.map λps=>nw ps.reverse
def Eh(c:C):Option C:=c.seq?.map λps=>.p (.tup ps)
def FW(c:C):Option C:=c.Gg.bind λps=>(DT P.Fj ps).map λbs=>bC (bs.all id)
def AN:List Str->Nat
 |[]=>0
 |x::r=>if r.contains x then AN r else AN r+1
def Jo(c:C):Option C:=c.CV.bind λps=>(DT P.BZ ps).bind λxs=>if xs.length < 4000 then some (.p (.int (AN xs)))else none
def GJ(c:C):Option C:=c.BZ.bind λx=>if x="abcdefghijklmnopqrstuvwxyz" then some (.p (.str "ABCDEFGHIJKLMNOPQRSTUVWXYZ"))else none
def D2(c x:C):Option C:=c.Gg.bind λps=>(DT P.BZ ps).bind λxs=>x.BZ.bind λx=>(xs.idxOf? x).map λ(k:Nat)=>.p (.int (k:Int))
inductive Ty where
 |int|bool|str|tuple|list
def C.ty:C->Nat
 |.p x=>if x.Sb.isSome then(if x.Il.isSome then 7 else 8)else x.tag
 |.lst _ _=>7
 |.BC _ _=>8
 |.exc _ _=>9
def Ty.has:Ty->Nat->Bool
 |.int,n=>n == 1 || n == 2
 |.bool,n=>n == 1
 |.str,n=>n == 3
 |.tuple,n=>n == 4
 |.list,n=>n == 7
def Dq(t:Ty)(c:C):Option C:=if c.ty=5\/c.ty=9 then none else some (bC (t.has c.ty))
def EK:C->Option C
 |.exc _ p=>some (.p p)
 |_=>none
def dJ(cs:List Nat):C->Option C
 |.exc x _=>some (bC (cs.contains x))
 |_=>none
def C.OA:C->Option (List P)
 |.lst o ps=>if o then some ps else none
 |_=>none
def BY(g:C->C->Option C)(c:C)(cs:List C):Option C:=match cs with
 |[a]=>g c a
 |_=>none
def G1(g:C->C->C->Option C)(c:C)(cs:List C):Option C:=match cs with
 |[a,b]=>g c a b
 |_=>none
def AL(c x:C):Option C:=c.OA.bind λps=>x.GZ.bind λx=>if ps.length < big then some (nw (ps++[x]))else none
def HQ(c x:C):Option C:=c.OA.bind λps=>x.seq?.bind λqs=>(GI (ps++qs)).map nw
def RY(c:C)(cs:List C):Option C:=c.OA.bind λ_=>if cs.isEmpty then some (nw [])else none
def KA(c i x:C):Option C:=c.OA.bind λps=>i.int?.bind λi=>x.GZ.bind λx=>if 0<=i/\i<=ps.length/\ps.length < big then some (nw (ps.take i.toNat++x::ps.drop i.toNat))else none
def putL(c i x:C):Option C:=c.OA.bind λps=>i.int?.bind λi=>x.GZ.bind λx=>(G5 ps.length i).map λk=>nw (ps.set k x)
def putD(c i x:C):Option C:=match c with
 |.BC o kvs=>if o then i.GZ.bind λk=>x.GZ.bind λv=>if D6 kvs k/\kvs.length < big then some (.BC true (dput kvs k v))else none else none
 |_=>none
def Ei(c i x:C):Option C:=putL c i x <|> putD c i x
def Ar(c:C):Option (List P):=c.seq? <|> (c.O0.bind λps=>if(c.BZ.any λx=>x.cps.all λk=>decide (k < 128))then some ps else none)
def BP(lo hi:Int):List P:=(List.range (hi-lo).toNat).map λk=>.int (lo+(k:Nat))
def AM(c:C):Option (List P):=c.int?.bind λn=>if n.natAbs < 2 ^ 61 then some (BP 0 n)else none
def Iy(ps:List P):List P:=ps.zipIdx.map λq=>.tup [.int (q.2:Nat),q.1]
def Mo(c:C):Option (List P):=c.Gg.map Iy
def E8(c:C):Option C:=(AM c).bind λps=>if ps.length<=big then some (nw ps)else none
variable{cf:CF}{wh:WH}{α β:Type}
theorem iw(ρ:Env):execs cf wh [] ρ= .nx ρ:=rfl
theorem Ak(s:S)(ss:List S)(ρ:Env):execs cf wh (s::ss) ρ=(exec cf wh s ρ).then (execs cf wh ss):=rfl
theorem Pc(g:Tg)(t:T)(ρ:Env):exec cf wh (.asg g t) ρ=((den cf t).v ρ).fl ρ λc=>match GR g c ρ with|some ρ'=>.nx ρ'|none=>.stuck:=rfl
theorem ZW(t:T)(ρ:Env):exec cf wh (.ret t) ρ=((den cf t).v ρ).fl ρ λc=>if c.own then .ret c else .stuck:=rfl
theorem eM(i:Nat)(ρ:Env):exec cf wh (.DI i) ρ=match Ap ρ i with|some c=>if c.own then .ret c else .stuck|none=>.stuck:=rfl
theorem VJ(c:T)(a b:List S)(ρ:Env):exec cf wh (.ifs c a b) ρ=((den cf c).b ρ).fl ρ λx=>if x then execs cf wh a ρ else execs cf wh b ρ:=rfl
theorem eN(t:T)(ρ:Env):exec cf wh (.expr t) ρ=((den cf t).v ρ).fl ρ λ_=>.nx ρ:=rfl
theorem Pb(c:T)(b:List S)(ρ:Env):exec cf wh (.WI c b) ρ=wh (den cf c).b (execs cf wh b) ρ:=rfl
theorem iy(i:Nat)(b:Bool)(f:C->List C->Option C)(ts:List T)(ρ:Env):exec cf wh (.Bu i b f ts) ρ=if !(Ap ρ i).any (cond b C.Ew λ_=>true)then .stuck else(FO cf ts ρ).fl ρ λcs=>match(Ap ρ i).bind λc=>f c cs with|some c'=>.nx (ρ.set i (some c'))|none=>.stuck:=rfl
theorem iu(d:Option Nat)(i:Nat)(ρ:Env):exec cf wh (.pop d i) ρ=match(Ap ρ i).bind J9 with|some q=>(match d with|some j=>if j=i then .stuck else .nx ((ρ.set i (some q.2)).set j (some (.p q.1)))|none=>.nx (ρ.set i (some q.2)))|none=>.stuck:=rfl
theorem x_raise(x:Nat)(t:T)(ρ:Env):exec cf wh (.raise x t) ρ=((den cf t).v ρ).fl ρ λc=>match c.GZ with|some p=>.err x p ρ|none=>.stuck:=rfl
theorem Fm(g:Tg)(k:Sq)(i:Nat)(b:List S)(ρ:Env):exec cf wh (.Be g k (.var i) b) ρ=match(Ap ρ i).bind λc=>k c.bor with|some xs=>if(g.slots++CT b).contains i then .stuck else(forL g (execs cf wh b) xs (ρ.set i ((Ap ρ i).map C.bor))).fin (VN (Ap ρ i) i)|none=>.stuck:=rfl
theorem iA(c:C)(ρ:Env):(den cf (.cst c)).v ρ= .ok c.bor:=rfl
theorem v_var(i:Nat)(ρ:Env):(den cf (.var i)).v ρ=Res.of ((Ap ρ i).map C.bor):=rfl
theorem ZZ(f:C->Option C)(a:T)(ρ:Env):(den cf (.Ai f a)).v ρ=((den cf a).v ρ).bind λx=>Res.of (f x):=rfl
theorem Pj(f:C->C->Option C)(a b:T)(ρ:Env):(den cf (.A1 f a b)).v ρ=((den cf a).v ρ).bind λx=>((den cf b).v ρ).bind λy=>Res.of (f x y):=rfl
theorem iz(f:C->C->C->Option C)(a b c:T)(ρ:Env):(den cf (.Wi f a b c)).v ρ=((den cf a).v ρ).bind λx=>((den cf b).v ρ).bind λy=>((den cf c).v ρ).bind λz=>Res.of (f x y z):=rfl
theorem iB(f g:C->C->Option C)(a b c:T)(ρ:Env):(den cf (.NI f g a b c)).v ρ=((den cf a).v ρ).bind λx=>((den cf b).v ρ).bind λy=>(Res.of ((f x y).bind C.Fj)).bind λk=>if k then((den cf c).v ρ).bind λz=>Res.of (g y z)else .ok (.p (.bl false)):=rfl
theorem ZY(ts:List T)(ρ:Env):(den cf (.tup ts)).v ρ=(FN cf ts ρ).bind λps=>if ps.length<=1000 then .ok (.p (.tup ps))else .stuck:=rfl
theorem a9(ts:List T)(ρ:Env):(den cf (.lst ts)).v ρ=(FN cf ts ρ).bind λps=>if ps.length<=1000 then .ok (.lst true ps)else .stuck:=rfl
theorem v_and(a b:T)(ρ:Env):(den cf (.and a b)).v ρ=((den cf a).v ρ).bind λc=>(Res.of c.Fj).bind λk=>if k then(den cf b).v ρ else .ok (.p (.bl false)):=rfl
theorem v_or(a b:T)(ρ:Env):(den cf (.or a b)).v ρ=((den cf a).v ρ).bind λc=>(Res.of c.Fj).bind λk=>if k then .ok (.p (.bl true))else(den cf b).v ρ:=rfl
theorem v_not(a:T)(ρ:Env):(den cf (.not a)).v ρ=((den cf a).v ρ).bind λc=>(Res.of c.Fj).bind λk=>.ok (.p (.bl (!k))):=rfl
theorem Pl(f:Nat)(ts:List T)(ρ:Env):(den cf (.call f ts)).v ρ=(FO cf ts ρ).bind λcs=>cf f cs:=rfl
theorem iC(i:Nat)(ts:List T)(ρ:Env):(den cf (.app i ts)).v ρ=(Res.of ((Ap ρ i).bind C.cE)).bind λq=>(FO cf ts ρ).bind λcs=>cf q.1 (cs++q.2.map .p):=rfl
theorem dz(f:Nat)(a:T)(l:Nat)(G9:List Nat)(ρ:Env):(den cf (.L6 f a l G9)).v ρ=((den cf a).v ρ).bind λx=>(Res.of (OY ρ G9)).bind λps=>(cf f [x,.p (.fn l ps)]).ne.bind λc=>(Res.of c.Fj).bind λb=>.ok (.p (.bl b)):=rfl
theorem eO(g:Tg)(k:Sq)(it:T)(cond:List T)(elt:T)(fr:List (Option Nat))(ρ:Env):(den cf (.comp g k it cond elt fr)).v ρ=((den cf it).v ρ).bind λc=>(Res.of (k c)).bind λxs=>if xs.length<=big then(Bj g (Mq cf cond) (den cf elt).v (AE fr ρ) xs).bind λys=>.ok (.lst true ys)else .stuck:=rfl
theorem cO(a b:T)(ρ:Env):(den cf (.and a b)).b ρ=((den cf a).b ρ).bind λk=>if k then(den cf b).b ρ else .ok false:=rfl
theorem kh(a b:T)(ρ:Env):(den cf (.or a b)).b ρ=((den cf a).b ρ).bind λk=>if k then .ok true else(den cf b).b ρ:=rfl
theorem j4(a:T)(ρ:Env):(den cf (.not a)).b ρ=((den cf a).b ρ).bind λk=>.ok (!k):=rfl
theorem iY(i:Nat)(ρ:Env):(den cf (.var i)).b ρ=(Res.of ((Ap ρ i).map C.bor)).bind λc=>Res.of (Gd c):=rfl
theorem iZ(f:C->Option C)(a:T)(ρ:Env):(den cf (.Ai f a)).b ρ=((den cf (.Ai f a)).v ρ).bind λc=>Res.of (Gd c):=rfl
theorem cN(f:C->C->Option C)(a b:T)(ρ:Env):(den cf (.A1 f a b)).b ρ=((den cf (.A1 f a b)).v ρ).bind λc=>Res.of (Gd c):=rfl
theorem j6(f g:C->C->Option C)(a b c:T)(ρ:Env):(den cf (.NI f g a b c)).b ρ=((den cf (.NI f g a b c)).v ρ).bind λc=>Res.of (Gd c):=rfl
theorem gh(f:Nat)(ts:List T)(ρ:Env):(den cf (.call f ts)).b ρ=((den cf (.call f ts)).v ρ).bind λc=>Res.of (Gd c):=rfl
theorem WC(ρ:Env):FO cf [] ρ= .ok []:=rfl
theorem MD(t:T)(ts:List T)(ρ:Env):FO cf (t::ts) ρ=((den cf t).v ρ).bind λc=>(FO cf ts ρ).bind λcs=>.ok (c::cs):=rfl
theorem iT(ρ:Env):FN cf [] ρ= .ok []:=rfl
theorem YZ(t:T)(ts:List T)(ρ:Env):FN cf (t::ts) ρ=((den cf t).v ρ).bind λc=>(Res.of c.Dz).bind λx=>(FN cf ts ρ).bind λxs=>.ok (x::xs):=rfl
theorem iV:Mq cf []=λ_=>.ok true:=rfl
theorem gd(t:T)(ts:List T):Mq cf (t::ts)=(den cf t).b:=rfl
theorem Co(a:α)(f:α->Res β):(Res.ok a).bind f=f a:=rfl
theorem iM(x:Nat)(p:P)(f:α->Res β):(Res.err x p:Res α).bind f= .err x p:=rfl
theorem TZ(a:α):Res.of (some a)= .ok a:=rfl
theorem Q5(a:α)(ρ:Env)(f:α->Fl):(Res.ok a).fl ρ f=f a:=rfl
theorem iL(x:Nat)(p:P)(ρ:Env)(f:α->Fl):(Res.err x p:Res α).fl ρ f= .err x p ρ:=rfl
theorem jL(a:α):(Res.ok a).ne= .ok a:=rfl
theorem Bc(ρ:Env)(f:Env->Fl):(Fl.nx ρ).then f=f ρ:=rfl
theorem jt(c:C)(f:Env->Fl):(Fl.ret c).then f= .ret c:=rfl
theorem ju(x:Nat)(p:P)(ρ:Env)(f:Env->Fl):(Fl.err x p ρ).then f= .err x p ρ:=rfl
theorem HJ(ρ:Env)(f:Env->Fl):(Fl.nx ρ).turn f=f ρ:=rfl
theorem jo(c:C)(f:Env->Fl):(Fl.ret c).turn f= .ret c:=rfl
theorem jq(x:Nat)(p:P)(ρ:Env)(f:Env->Fl):(Fl.err x p ρ).turn f= .err x p ρ:=rfl
theorem lz(a:Option C)(r:Env):Ap (a::r) 0=a:=rfl
theorem lB(a:Option C)(r:Env)(i:Nat):Ap (a::r) (i+1)=Ap r i:=rfl
theorem HH(a b:Option C)(r:Env):List.set (a::r) 0 b=b::r:=rfl
theorem AA(a b:Option C)(r:Env)(i:Nat):List.set (a::r) (i+1) b=a::List.set r i b:=rfl
theorem ly(f:C->C)(a:C):Option.map f (some a)=some (f a):=rfl
theorem lE(x:P):C.bor (.p x)= .p x:=rfl
theorem lF(o:Bool)(ps:List P):C.bor (.lst o ps)= .lst false ps:=rfl
theorem kg(b:Bool):C.Fj (.p (.bl b))=some b:=rfl
theorem ka(b:Bool):Gd (.p (.bl b))=some b:=rfl
theorem kd(x:P):C.own (.p x)=true:=rfl
theorem ke(ps:List P):C.own (.lst true ps)=true:=rfl
theorem kc(x:P):C.GZ (.p x)=some x:=rfl
theorem kf(x:P):C.Dz (.p x)=some x:=rfl
theorem fm(i:Nat)(c:C)(ρ:Env):GR (.nm i) c ρ=if c.own then some (ρ.set i (some c))else none:=rfl
theorem iQ(c d:Bool):(if c=true then Res.ok true else Res.ok d)=Res.ok (c || d):=by cases c<;>rfl
theorem gk(c d:Bool):(if c=true then Res.ok d else Res.ok false)=Res.ok (c && d):=by cases c<;>rfl
theorem ft(c d:Bool):(if c=true then Res.ok (C.p (.bl true))else Res.ok (C.p (.bl d)))=Res.ok (C.p (.bl (c || d))):=by cases c<;>rfl
theorem eu(c d:Bool):(if c=true then Res.ok (C.p (.bl d))else Res.ok (C.p (.bl false)))=Res.ok (C.p (.bl (c && d))):=by cases c<;>rfl
variable{np nl:Nat}
theorem JH{fns:List P7}{f:Nat}{B:List S}(h:fns[f]? =some ⟨np,nl,B⟩)(k:Nat)(args:List C):AR fns wh (k + 1) f args=DH (AR fns wh k) wh ⟨np,nl,B⟩ args:=by
 show(match fns[f]? with|some fi=>DH (AR fns wh k) wh fi args|none=>.stuck)=_;rw[h]
def Fl.out:Fl->Res C
 |.nx _=>.ok (.p .A8)
 |.ret c=>.ok c
 |.err x p _=>.err x p
 |_=>.stuck
theorem run_eq(np nl:Nat)(B:List S)(args:List C)(h:args.length=np):DH cf wh ⟨np,nl,B⟩ args=(execs cf wh B (args.map some++List.replicate (nl - np) none)).out:=by
 unfold DH;rw[iP h];dsimp only;cases execs cf wh B (args.map some++List.replicate (nl-np) none)<;>rfl
theorem call_of{fns:List P7}{f k:Nat}{B:List S}{args:List C}{r:Fl}(h:fns[f]? =some ⟨np,nl,B⟩)(hl:args.length=np)(e:execs (AR fns wh k) wh B (args.map some++List.replicate (nl - np) none)=r):AR fns wh (k + 1) f args=r.out:=by
 rw[JH h,run_eq np nl B args hl,e]
end Nv
namespace L2
open PySem PySem.Spec PyProof.Rows
abbrev Key:=Sum Int Str
def Wo:Key->Value->Bool
 |.inl k,v=>Value.isInt k v
 |.inr x,v=>Value.isStrOf x v
def fL(w:World):Key->Int
 |.inl k=>hashInt k
 |.inr x=>hashStr w x
theorem AZ:∀{k:Key} {v:Value},Wo k v=true->(∃i t,k=Sum.inl i/\v=Value.int i t)\/(∃x t,k=Sum.inr x/\v=Value.str x t)
 | .inl i,v,h=>by
   obtain⟨t,e⟩:=Value.isInt_shape (k:=i) (v:=v) h;exact .inl ⟨i,t,rfl,e⟩
 | .inr x,v,h=>by
   obtain⟨t,e⟩:=Value.isStrOf_shape (x:=x) (v:=v) h;exact .inr ⟨x,t,rfl,e⟩
theorem YB(a b:Int):decide ((Sum.inl a:Key)=Sum.inl b)=(a == b):=by
 by_cases e:a=b
 .subst e;simp
 .have h:¬(Sum.inl a:Key)=Sum.inl b:=λq=>e (Sum.inl.inj q)
  rw[dF h];exact(beq_eq_false_iff_ne.mpr e).symm
theorem Yy(a b:Str):decide ((Sum.inr a:Key)=Sum.inr b)=decide (a=b):=by
 by_cases e:a=b
 .subst e;simp
 .have h:¬(Sum.inr a:Key)=Sum.inr b:=λq=>e (Sum.inr.inj q)
  rw[dF h,dF e]
theorem YA(a:Int)(b:Str):decide ((Sum.inl a:Key)=Sum.inr b)=false:=dF (λq=>nomatch q)
theorem Yz(a:Str)(b:Int):decide ((Sum.inr a:Key)=Sum.inl b)=false:=dF (λq=>nomatch q)
noncomputable def Jk(prog:Program)(w:World):PySem.KeyKind prog w Key where
 is:=Wo
 hash:=fL w
 inj :=λv a b ha hb=>by
  rcases AZ ha with⟨i,t,rfl,rfl⟩|⟨x,t,rfl,rfl⟩
  .rcases AZ hb with⟨j,u,rfl,e⟩|⟨y,u,rfl,e⟩
   .injection e with e1 _;rw[e1]
   .exact nomatch e
  .rcases AZ hb with⟨j,u,rfl,e⟩|⟨y,u,rfl,e⟩
   .exact nomatch e
   .injection e with e1 _;rw[e1]
 byValue:=λk v h=>by
  rcases AZ h with⟨i,t,rfl,rfl⟩|⟨x,t,rfl,rfl⟩<;>rfl
 pyHash:=λhv h=>by
  rcases AZ hv with⟨i,t,rfl,rfl⟩|⟨x,t,rfl,rfl⟩
  .exact wpAny_pyHash_int h
  .exact wpAny_pyHash_str h
 eqBool:=λhu hv h=>by
  rcases AZ hu with⟨i,t,rfl,rfl⟩|⟨x,t,rfl,rfl⟩
  .rcases AZ hv with⟨j,u,rfl,rfl⟩|⟨y,u,rfl,rfl⟩
   .rw[YB]at h;exact wpAny_eqBool_int h
   .rw[YA]at h;exact SeqAt.EqAt.int_str i t y u _ _ _ _ h
  .rcases AZ hv with⟨j,u,rfl,rfl⟩|⟨y,u,rfl,rfl⟩
   .rw[Yz]at h;exact SeqAt.EqAt.str_int x t j u _ _ _ _ h
   .rw[Yy]at h;exact wpAny_eqBool_str h
 «strs»:=λk x t v h=>by
  rcases AZ h with⟨i,u,rfl,e⟩|⟨y,u,rfl,e⟩
  .exact nomatch e
  .injection e with e1 _
   subst e1;cases v<;>rfl
inductive V where
 |A8|bl (b:Bool)|int (i:Int)|str (x:Str)|ZS (b:Array UInt8)|dN (b:UInt64)|ref (a:Addr)|ty (n:String)
 deriving DecidableEq
noncomputable def RelV:V->Value->Prop
 |.A8,u=>u=Value.none
 |.bl b,u=>u=Value.bool b
 |.int i,u=>∃t,u=Value.int i t
 |.str x,u=>∃t,u=Value.str x t
 |.ZS b,u=>∃t,u=Value.bytes b t
 |.dN b,u=>∃t,u=Value.float b t
 |.ref a,u=>u=Value.ref a
 |.ty n,u=>u=Value.type n
abbrev Vals:List V->List Value->Prop:=Paired RelV
variable{us:List Value}
theorem Vals.length{xs:List V}(r:Vals xs us):xs.length=us.length:=Paired.length r
theorem Vals.get:∀{xs:List V} {us:List Value} {i:Nat} {x:V},Vals xs us->xs[i]? =some x->∃u,us[i]? =some u/\RelV x u
 |_,_,_,_,.nil,e=>by simp at e
 |_,_,0,_,.cons r _,e=>by simp at e;subst e;exact⟨_,rfl,r⟩
 | _,_,i + 1,x,.cons _ t,e=>by
   obtain⟨u,h1,h2⟩:=Vals.get (i:=i) (x:=x) t (by simpa using e);exact⟨u,by simpa using h1,h2⟩
theorem Vals.set(r:RelV x u):∀{xs:List V} {us:List Value} (i:Nat),Vals xs us->Vals (xs.set i x) (us.set i u)
 |_,_,_,.nil=>.nil
 |_,_,0,.cons _ t=>.cons r t
 |_,_,i+1,.cons q t=>.cons q (Vals.set r i t)
theorem Vals.append:∀{xs ys:List V} {us ws:List Value},Vals xs us->Vals ys ws->Vals (xs++ys) (us++ws)
 |_,_,_,_,.nil,s=>s
 |_,_,_,_,.cons r t,s=>.cons r (Vals.append t s)
theorem Vals.take:∀{xs:List V} {us:List Value} (n:Nat),Vals xs us->Vals (xs.take n) (us.take n)
 |_,_,0,_=>.nil
 |_,_,_+1,.nil=>.nil
 |_,_,n+1,.cons r t=>.cons r (Vals.take n t)
theorem Vals.drop:∀{xs:List V} {us:List Value} (n:Nat),Vals xs us->Vals (xs.drop n) (us.drop n)
 |_,_,0,r=>r
 |_,_,_+1,.nil=>.nil
 |_,_,n+1,.cons _ t=>Vals.drop n t
def dc:Option V->Option Value->Prop
 |some v,some u=>RelV v u
 |none,none=>True
 |_,_=>False
def KV{κ:Type}:List (κ×V)->List (κ×Value)->Prop:=Paired λ(p:κ×V) (q:κ×Value)=>p.1=q.1/\RelV p.2 q.2
def kV:Key->V
 |.inl i=>.int i
 |.inr x=>.str x
inductive HO where
 |lst (xs:List V)
 |tup (xs:List V)
 |dK (kvs:List (Key×V))|dT (kvs:List (List Key×V))
 |set (S:Int->Bool)(n:Nat)
 |ins (C dx:Addr)(fs:List (Str×V))
 |own (x:Addr)
 |xd (fs:List (Str×V))
 |met (f x:Addr)
 |Xy (lo hi:Int)
 |Dz (o:Obj)(u:HO)
 |JS (ps:Array Value)
 |ext (φ:Heap->Prop)
abbrev Hp:=Addr->Option HO
def upd(H:Hp)(a:Addr)(o:HO):Hp:=λb=>if b=a then some o else H b
variable{H:Hp}
theorem Ag:upd H a o a=some o:=by unfold upd;rw[iP rfl]
theorem Ac{a b:Addr}(h:b≠a):upd H a o b=H b:=by unfold upd;rw[iN h]
theorem Bb{o:HO}(h:H a=some o)(h':H b=none):a≠b:=by
 intro e;subst e;rw[h]at h';cases h'
section
variable (P:Program)(w:World)
noncomputable def BD(H:Hp)(h:Heap)(a:Addr):HO->Prop
 |.lst xs=>xs.length<=sizeLine/\∃(its:List Value) (n:Nat),Vals xs its/\h.get? a=some {cls:=.type "list",data:=.seq its.toArray n}
 |.tup xs=>xs.length<=sizeLine/\∃its:List Value,Vals xs its/\IsTup h a its.toArray
 |.dK kvs=>kvs.length<=sizeLine/\(a == sysModules)=false/\∃vs,KV kvs vs/\h.DictOf (Jk P w) a vs
 | .dT kvs=>kvs.length<=sizeLine/\(a == sysModules)=false/\∃xs:List (List Key×Addr×Value),
  Paired (λ(p:List Key×V) (q:List Key×Addr×Value)=>p.1=q.1/\H q.2.1=some (.tup (p.1.map kV))/\RelV p.2 q.2.2) kvs xs/\
  ∃o es ep,h.get? a=some o/\o.ExactDict/\o.data= .dict es ep/\es.toList=xs.map (entryOfKey (tupleKind (Jk P w)))/\(xs.map (·.1)).Nodup
 |.set S n=>h.SetOf (intKind P w) a S n
 | .ins C dx fs=>H dx=some (.own a)/\fs.length<=1000/\dx≠a/\h.get? a=some (PySem.W.instObj C dx)/\
  ∃mA,h.Ns1 dx mA/\(∀f,dc (fs.lookup f) (mA f))/\PySem.Within mA (fs.map (·.1))
 |.own _=>∃o,h.get? a=some o
 |.xd fs=>∃mA,h.Ns1 a mA/\∀f,dc (fs.lookup f) (mA f)
 |.Xy lo hi=>∃t u v,h.get? a=some {cls:=.type "range",data:=.fields #[.int lo t,.int hi u,.int 1 v]}
 |.Dz o u=>h.get? a=some o/\BD H h a u
 |.JS ps=>h.get? a=some {cls:=.none,data:=.fields ps}
 |.met f x=>h.get? a=some (methodObj (.ref f) (.ref x))
 |.ext φ=>φ h/\(∃o,h.get? a=some o)/\∀h1 h2:Heap,φ h1->(∀o,h1.get? a=some o->h2.get? a=some o)->φ h2
def DV(H:Hp)(h:Heap):Prop:=∀a o,H a=some o->BD P w H h a o
end
section
variable{P:Program}{w:World}{H H':Hp}{h h':Heap}{a:Addr}{o:HO}
theorem BD.lt(x:BD P w H h a o):a < h.objs.size:=by
 cases o with
 |lst xs=>obtain⟨_,_,_,_,e⟩:=x;exact Heap.lt_size e
 |tup xs=>obtain⟨_,_,_,p⟩:=x;exact p.lt
 |dK kvs=>obtain⟨_,_,_,_,o,_,_,e,_⟩:=x;exact Heap.lt_size e
 |dT kvs=>obtain⟨_,_,_,_,o,_,_,e,_⟩:=x;exact Heap.lt_size e
 |set S n=>obtain⟨o,_,_,_,e,_⟩:=x;exact Heap.lt_size e
 |ins C dx fs=>obtain⟨_,_,_,e,_⟩:=x;exact Heap.lt_size e
 |own y=>obtain⟨_,e⟩:=x;exact Heap.lt_size e
 |xd fs=>obtain⟨_,⟨_,_,_,e,_⟩,_⟩:=x;exact Heap.lt_size e
 |Xy lo hi=>obtain⟨_,_,_,e⟩:=x;exact Heap.lt_size e
 |Dz ob u=>obtain⟨e,_⟩:=x;exact Heap.lt_size e
 |JS ps=>exact Heap.lt_size (show h.get? a=some _ from x)
 |met f y=>exact Heap.lt_size (show h.get? a=some _ from x)
 |ext φ=>obtain⟨_,⟨_,e⟩,_⟩:=x;exact Heap.lt_size e
theorem Paired.Kp{α β:Type}{F G:α->β->Prop}:∀{l₁:List α} {l₂:List β},Paired F l₁ l₂->(∀a b,F a b->G a b)->Paired G l₁ l₂
 |_,_,.nil,_=>.nil
 |_,_,.cons r t,f=>.cons (f _ _ r) (Paired.Kp t f)
theorem BD.CW(x:BD P w H h a o)(k:∀b u,(b=a\/H b=some (.own a))->h.get? b=some u->h'.get? b=some u)
 (ho:∀b,H b=some (.own a)->H' b=some (.own a))(ht:∀b xs,H b=some (.tup xs)->H' b=some (.tup xs)):BD P w H' h' a o:=by
 induction o with
 |lst xs=>obtain⟨z,its,n,r,e⟩:=x;exact⟨z,its,n,r,k _ _ (.inl rfl) e⟩
 |tup xs=>obtain⟨z,its,r,ob,e,c⟩:=x;exact⟨z,its,r,ob,k _ _ (.inl rfl) e,c⟩
 |dK kvs=>obtain⟨z,y,vs,r,ob,es,ep,e,c⟩:=x;exact⟨z,y,vs,r,ob,es,ep,k _ _ (.inl rfl) e,c⟩
 |dT kvs=>
   obtain⟨z,y,xs,r,ob,es,ep,e,c⟩:=x;exact⟨z,y,xs,Paired.Kp r λp q z=>⟨z.1,ht _ _ z.2.1,z.2.2⟩,ob,es,ep,k _ _ (.inl rfl) e,c⟩
 |set S n=>obtain⟨ob,es,ep,t,e,c⟩:=x;exact⟨ob,es,ep,t,k _ _ (.inl rfl) e,c⟩
 |ins C dx fs=>
   obtain⟨d,z,ne,e,mA,⟨od,es,ep,e2,c⟩,r⟩:=x;exact⟨ho _ d,z,ne,k _ _ (.inl rfl) e,mA,⟨od,es,ep,k _ _ (.inr d) e2,c⟩,r⟩
 |own y=>obtain⟨ob,e⟩:=x;exact⟨ob,k _ _ (.inl rfl) e⟩
 |xd fs=>obtain⟨mA,⟨od,es,ep,e,c⟩,r⟩:=x;exact⟨mA,⟨od,es,ep,k _ _ (.inl rfl) e,c⟩,r⟩
 |Xy lo hi=>obtain⟨t,u,v,e⟩:=x;exact⟨t,u,v,k _ _ (.inl rfl) e⟩
 |Dz ob u ih=>obtain⟨e,q⟩:=x;exact⟨k _ _ (.inl rfl) e,ih q⟩
 |JS ps=>
   have e:h.get? a=some {cls:=.none,data:=.fields ps}:=x;show h'.get? a=some {cls:=.none,data:=.fields ps};exact k a _ (.inl rfl) e
 |met f y=>
   have e:h.get? a=some (methodObj (.ref f) (.ref y)):=x;show h'.get? a=some (methodObj (.ref f) (.ref y));exact k a _ (.inl rfl) e
 |ext φ=>obtain⟨p,⟨o,e⟩,st⟩:=x;exact⟨st _ _ p λo q=>k _ _ (.inl rfl) q,⟨o,k _ _ (.inl rfl) e⟩,st⟩
theorem DV.lt(x:DV P w H h)(e:H a=some o):a < h.objs.size:=(x a o e).lt
theorem DV.fresh(x:DV P w H h)(e:h.objs.size<=a):H a=none:=by
 cases q:H a with
 |none=>rfl
 |some u=>exact absurd (Nat.lt_of_lt_of_le (x.lt q) e) (Nat.lt_irrefl _)
theorem DV.kept(x:DV P w H h)(k:∀b u,h.get? b=some u->h'.get? b=some u):DV P w H h':=λa o e=>
 (x a o e).CW (λb u _ q=>k b u q) (λ_ q=>q) λ_ _ q=>q
theorem DV.laid(x:DV P w H h)(k:∀b u,h.get? b=some u->h'.get? b=some u)(hp:h.objs.size<=a)(new:BD P w (upd H a o) h' a o):DV P w (upd H a o) h':=λb u e=>by
 have hn:=x.fresh hp
 by_cases hb:b=a
 .subst hb;rw[Ag]at e;cases e;exact new
 .rw[Ac hb]at e;exact(x b u e).CW (λc v _ q=>k c v q) (λc q=>by rw[Ac (Bb q hn)];exact q) λc xs q=>by rw[Ac (Bb q hn)];exact q
end
def Rd(H:Hp)(a:Addr)(u:HO):Prop:=H a=some u\/∃o,H a=some (.Dz o u)
variable{h:Heap}
theorem Rd.ok{P:Program}{w:World}(r:Rd H a u)(x:DV P w H h):BD P w H h a u:=by
 rcases r with r|⟨o,r⟩
 .exact x a u r
 .obtain⟨_,q⟩:=x a _ r;exact q
def ZV:Option HO->Prop
 |some (.lst _)=>True
 |some (.dK _)=>True
 |some (.dT _)=>True
 |some (.set _ _)=>True
 |some (.ins _ _ _)=>True
 |some (.ext _)=>True
 |_=>False
section
variable{P:Program}{w:World}{H:Hp}{h h':Heap}{x e:Addr}{o':HO}
theorem DV.write(ok:DV P w H h)(mu:ZV (H x))(he:e=x\/H e=some (.own x))(k:∀b u,b≠e->h.get? b=some u->h'.get? b=some u)(heo:∃u,h'.get? e=some u)
 (new:BD P w (upd H x o') h' x o'):DV P w (upd H x o') h':=λb u q=>by
 have nown:∀c y,H c=some (.own y)->c≠x:=λc y r z=>by subst z;rw[r]at mu;exact mu
 have ntup:∀c xs,H c=some (.tup xs)->c≠x:=λc xs r z=>by subst z;rw[r]at mu;exact mu
 by_cases hb:b=x
 .subst hb;rw[Ag]at q;cases q;exact new
 .rw [Ac hb]at q
  by_cases hbe:b=e
  .have q':H b=some (.own x):=by
    rcases he with z|z
    .exact absurd (hbe.trans z) hb
    .rw[hbe];exact z
   rw[q]at q';cases q';obtain⟨v,hv⟩:=heo;exact⟨v,by rw[hbe];exact hv⟩
  .refine(ok b u q).CW (λc v hc r=>k c v ?_ r) (λc r=>by rw[Ac (nown c b r)];exact r) λc xs r=>by rw[Ac (ntup c xs r)];exact r
   rcases hc with rfl|hc
   .exact hbe
   .rintro rfl
    rcases he with z|z
    .exact nown c b hc z
    .rw[hc]at z;cases z;exact hb rfl
end
structure Un(fs ex:List Addr)(H H':Hp)(h h':Heap):Prop where
 keep:∀b o,h.get? b=some o->H b=none->b∉fs->b∉ex->h'.get? b=some o
 slot:∀b o,h.get? b=some o->H b=none->b∈fs->b∉ex->∃sl,h'.get? b=some {o with slots:=sl}
 free:∀b o,h.get? b=some o->H b=none->b∉ex->H' b=none
 there:∀b o,h.get? b=some o->b∉ex->∃o',h'.get? b=some o'
 Fq:∀b xs,H b=some (.tup xs)->H' b=some (.tup xs)
 EW:∀b o u,H b=some (.Dz o u)->H' b=some (.Dz o u)
 EA:∀b ps,H b=some (.JS ps)->∃more,H' b=some (.JS (ps++more))
section
variable{fs fs' ex ex':List Addr}{H H1 H2:Hp}{h h1 h2 h':Heap}{a x e:Addr}{o:HO}
theorem Un.any(u:Un fs ex H H1 h h1){ob:Obj}(q:h.get? b=some ob)(n:H b=none)(hx:b∉ex):∃sl,h1.get? b=some {ob with slots:=sl}:=by
 by_cases hb:b∈fs
 .exact u.slot b ob q n hb hx
 .exact⟨ob.slots,u.keep b ob q n hb hx⟩
theorem Un.kept(k:∀b u,h.get? b=some u->h'.get? b=some u):Un fs ex H H h h':=
 ⟨λb ob q _ _ _=>k b ob q,λb ob q _ _ _=>⟨ob.slots,k b ob q⟩,λ_ _ _ n _=>n,λb ob q _=>⟨ob,k b ob q⟩,λ_ _ q=>q,λ_ _ _ q=>q,λ_ ps q=>⟨#[],by rw[q];simp⟩⟩
theorem Un.refl:Un fs ex H H h h:=Un.kept λ_ _ q=>q
theorem Un.laid(k:∀b u,h.get? b=some u->h'.get? b=some u)(hp:h.objs.size<=a)(hn:H a=none):Un fs ex H (upd H a o) h h' where
 keep:=λb u q _ _ _=>k b u q
 slot:=λb u q _ _ _=>⟨u.slots,k b u q⟩
 free:=λb u q n _=>by rw[Ac (Nat.ne_of_lt (Nat.lt_of_lt_of_le (Heap.lt_size q) hp))];exact n
 there:=λb u q _=>⟨u,k b u q⟩
 Fq:=λb xs q=>by rw[Ac (Bb q hn)];exact q
 EW:=λb u xs q=>by rw[Ac (Bb q hn)];exact q
 EA:=λb ps q=>⟨#[],by rw[Ac (Bb q hn),q];simp⟩
theorem Un.write(mu:ZV (H x))(he:e=x\/H e=some (.own x))(k:∀b u,b≠e->h.get? b=some u->h'.get? b=some u)(heo:∃u,h'.get? e=some u):Un fs ex H (upd H x o) h h':=by
 have hx:∀b,H b=none->b≠x:=λb n z=>by subst z;rw[n]at mu;exact mu
 have hb:∀b,H b=none->b≠e:=λb n z=>by
  subst z;rcases he with r|r
  .exact hx b n r
  .rw[n]at r;cases r
 have hm:∀b u,H b=some u->¬ZV (some u)->b≠x:=λb u q nm z=>by subst z;rw[q]at mu;exact nm mu
 refine⟨λb u q n _ _=>k b u (hb b n) q,λb u q n _ _=>⟨u.slots,k b u (hb b n) q⟩,λb u q n _=>by rw[Ac (hx b n)];exact n,λb u q _=>?_,
  λb xs q=>by rw[Ac (hm b _ q λz=>z)];exact q,λb u xs q=>by rw[Ac (hm b _ q λz=>z)];exact q,λb ps q=>⟨#[],by rw[Ac (hm b _ q λz=>z),q];simp⟩⟩
 by_cases hbe:b=e
 .subst hbe;exact heo
 .exact⟨u,k b u hbe q⟩
end
def dA(h:Heap)(H:Hp):List Addr:=(List.range h.objs.size).filter λa=>(H a).isSome
def HP(h:Heap)(H:Hp):Heap:=hideAll h (dA h H)
theorem OL(h:Heap)(H:Hp):(HP h H).objs.size=h.objs.size:=hideAll_size _ _
theorem Rm{o:Obj}(e:h.get? b=some o)(n:H b=none):(HP h H).get? b=some o:=
 hideAll_get _ e λhm=>by
  have q:(H b).isSome=true:=(mem_filter.mp hm).2;rw[n]at q;simp at q
theorem Up{o:Obj}(e:(HP h H).get? b=some o):h.get? b=some o/\H b=none:=by
 have e':h.get? b=some o:=of_hideAll (dA h H) e;refine⟨e',?_⟩;cases q:H b with
 |none=>rfl
 |some x=>
   have hm:b∈dA h H:=mem_filter.mpr ⟨mem_range.mpr (Heap.lt_size e'),by simp[q]⟩;have z:(HP h H).get? b=none:=hideAll_none (dA h H) hm;rw[z]at e;cases e
def VA(g h:Heap)(L:Addr):List (Addr×Obj):=(List.range h.objs.size).filterMap λa=>if a=L\/(g.get? a).isSome=true then none else(h.get? a).map λo=>(a,o)
def rest(g h:Heap)(L d:Addr):List (Addr×Obj):=(VA g h L).filter λp=>decide (p.1≠d)
structure Mod(K:Frag)(mg:Str->Option Value)(base:Heap):Prop where
 Dn:K.In base
 glob:base.Ns mainGlobals mg
 blt:∃mb,base.Ns builtinsNs mb/\∀x:Str,x≠"__name__"->mb x=bootBuiltins x
 nolimit:base.NoLimit
structure Cx where
 prog:Program
 w:World
 K:Frag
 mg:Str->Option Value
 base:Heap
 A:Around
 N:List Str
 s₀:Shared
 H₀:Hp
 env:Env
 outer:List Env
 stack:List Env
 ex:List Addr
 fn:Str->Bool
 calm:Bool
 pn:List (Addr×Obj)
 xe:Value->Shared->Prop
def CA(l:List Env):List Addr:=l.filterMap (·.frame)
abbrev Cx.fs(X:Cx):List Addr:=CA X.outer
def cV(sc:Scope)(x:Str):Prop:=sc.names.lookup x=some .local\/sc.names.lookup x=some .cell\/sc.names.lookup x=some .free
def Loc(sc:Scope)(x:Str):Prop:=sc.names.lookup x=some .local\/sc.names.lookup x=some .cell
def Look(env:Env)(h:Heap)(m:Str->Option Value)(x:Str)(u:Value):Prop:=
 (env.kindOf x=some .local/\m x=some u)\/((env.kindOf x=some .cell\/env.kindOf x=some .free)/\∃c,env.cells.lookup x=some c/\h.IsCell c (some u))
structure Cx.Ok(X:Cx):Prop where
 mod:Mod X.K X.mg X.base
 kind:X.env.scope.kind= .function
 glob:X.env.globals=mainGlobals
 blt:X.env.builtins=builtinsNs
 above:X.s₀.heap.objs.size<=X.env.locals
 inj:∀x y c,X.env.cells.lookup x=some c->X.env.cells.lookup y=some c->x=y
 has:∀x,(X.env.kindOf x=some .cell\/X.env.kindOf x=some .free)->∃c,X.env.cells.lookup x=some c
 Zh:∀x c,X.fn x=true->X.env.cells.lookup x=some c->X.s₀.heap.objs.size<=c
 hd:X.calm=true->X.A.handled=none
 frames:X.A.frames=some X.stack
 aO:X.stack=X.outer\/(X.stack=X.env::X.outer/\X.env.frame=some X.env.locals)
 cH:∀b∈X.ex,b≠X.env.locals/\∀x c,X.env.cells.lookup x=some c->c≠b
 bs:∀b o,X.base.get? b=some o->X.s₀.heap.get? b=some o/\X.H₀ b=none
 SV:X.base.objs.size<=X.s₀.heap.objs.size
 Ot:∀b o,X.base.get? b=some o->b∉X.ex
 OQ:∀b∈X.ex,b∉X.fs
 EV:X.s₀.heap.FunFrames X.base X.outer
 Wu:∀b∈X.fs,X.H₀ b=none
structure Inv(X:Cx)(pins:Oa)(σ:List (Option V))(H:Hp)(s:Shared):Prop where
 ok:X.Ok
 os:s.os=X.s₀.os
 bare:AllBare s.gens
 base:Un X.fs X.ex X.H₀ H X.s₀.heap s.heap
 loc:∃m,s.heap.Ns X.env.locals m/\∀(i:Nat) (x:Str) (v:V),X.N[i]? =some x->σ[i]? =some (some v)->cV X.env.scope x->∃u,RelV v u/\Look X.env s.heap m x u
 cell:∀x c,X.env.cells.lookup x=some c->∃v,s.heap.IsCell c v
 free:H X.env.locals=none
 CS:∀x c,X.env.cells.lookup x=some c->H c=none
 pin:∀p∈X.pn++pins,s.heap.get? p.1=some p.2/\H p.1=none/\p.1≠X.env.locals/\p.1∉X.fs/\∀v,p.2.data≠.cell v
 Aq:DV X.prog X.w H s.heap
 len:σ.length=X.N.length
section
variable{X:Cx}{pins:Oa}{σ:List (Option V)}{H H':Hp}{s:Shared}{h':Heap}
theorem Cx.Ok.fK(ok:X.Ok){o:Obj}(e:X.base.get? b=some o):b∉X.fs:=λhb=>by
 have:=(ok.EV.mem hb).1;rw[e]at this;cases this
theorem Inv.bs(I:Inv X pins σ H s):∀b o,X.base.get? b=some o->s.heap.get? b=some o/\H b=none:=λb o e=>
 ⟨I.base.keep b o (I.ok.bs b o e).1 (I.ok.bs b o e).2 (I.ok.fK e) (I.ok.Ot b o e),I.base.free b o (I.ok.bs b o e).1 (I.ok.bs b o e).2 (I.ok.Ot b o e)⟩
theorem Inv.bk(I:Inv X pins σ H s):∀b o,X.base.get? b=some o->s.heap.get? b=some o:=λb o e=>(I.bs b o e).1
theorem Inv.mod(I:Inv X pins σ H s):Mod X.K X.mg X.base:=I.ok.mod
theorem Inv.FF(I:Inv X pins σ H s):X.K.In s.heap:=I.ok.mod.Dn.keeps I.bk
theorem Inv.nolimit(I:Inv X pins σ H s):s.heap.NoLimit:=I.ok.mod.nolimit.keeps I.bk
theorem Inv.lt(I:Inv X pins σ H s):X.env.locals < s.heap.objs.size:=let⟨_,hn,_⟩:=I.loc;hn.lt
theorem Inv.sz(I:Inv X pins σ H s):X.s₀.heap.objs.size<=s.heap.objs.size:=Nat.le_trans I.ok.above (Nat.le_of_lt I.lt)
theorem Inv.Yl(I:Inv X pins σ H s){a:Addr}(h:s.heap.objs.size<=a):a∉X.fs:=λhb=>by
 obtain⟨_,o,ho,_⟩:=I.ok.EV.mem hb;exact absurd (Nat.lt_of_lt_of_le (Heap.lt_size ho) (Nat.le_trans I.sz h)) (Nat.lt_irrefl _)
theorem Inv.SU(I:Inv X pins σ H s):∀x c,X.env.cells.lookup x=some c->c≠X.env.locals:=λx c e z=>by
 obtain⟨v,o,ho,hd⟩:=I.cell x c e;obtain⟨m,⟨o',es,ep,ho',hd',_⟩,_⟩:=I.loc;rw[z,ho']at ho;cases ho;rw[hd']at hd;cases hd
theorem Inv.EV(I:Inv X pins σ H s):s.heap.FunFrames X.base X.outer:=by
 have all:∀(l:List Env),(∀b∈CA l,b∈X.fs)->X.s₀.heap.FunFrames X.base l->s.heap.FunFrames X.base l:=by
  intro l
  induction l with
  |nil=>intro _ _;trivial
  |cons env r ih=>
    intro hs hl;obtain⟨hk,⟨L,o,hf,hn,ho,hd⟩,hr⟩:=hl;have hL:L∈X.fs:=hs L (by unfold CA;rw[filterMap_cons,hf];exact mS);obtain⟨sl,e⟩:=I.base.slot L o ho (I.ok.Wu L hL) hL λz=>I.ok.OQ L z hL
    exact⟨hk,⟨L,_,hf,hn,e,hd⟩,ih (λb hb=>hs b (by unfold CA;rw[filterMap_cons,hf];exact mC hb)) hr⟩
 exact all X.outer (λ_ hb=>hb) I.ok.EV
theorem Inv.stack(I:Inv X pins σ H s):s.heap.FunFrames X.base X.stack:=by
 rcases I.ok.aO with e|⟨e,hf⟩
 .rw[e];exact I.EV
 .rw[e];obtain⟨m,hn,_⟩:=I.loc;refine .cons (by rw[I.ok.kind];decide) hf hn ?_ I.EV;exact Heap.get?_none_of_le (Nat.le_trans I.ok.SV I.ok.above)
theorem Inv.GP(I:Inv X pins σ H s):∀b∈CA X.stack,b∈X.env.locals::X.fs:=λb hb=>by
 rcases I.ok.aO with e|⟨e,hf⟩
 .rw[e]at hb;exact mC hb
 .rw[e]at hb;unfold CA at hb;rw[filterMap_cons,hf]at hb;exact hb
theorem Inv.DY(I:Inv X pins σ H s):∀b∈CA X.stack,H b=none:=λb hb=>by
 rcases mK (I.GP b hb)with e|hb
 .rw[e];exact I.free
 .obtain⟨_,o,ho,_⟩:=I.ok.EV.mem hb;exact I.base.free b o ho (I.ok.Wu b hb) λz=>I.ok.OQ b z hb
variable{g':Array GenState}{t':Nat}{d':Drawn}{ch:List Addr}
theorem Inv.step(I:Inv X pins σ H s)
 (hch:∀b∈ch,(b∈X.ex\/X.s₀.heap.objs.size<=b)/\b≠X.env.locals/\(∀x c,X.env.cells.lookup x=some c->c≠b)/\∀p∈X.pn++pins,p.1≠b)
 (keep:∀b o,b≠X.env.locals->b∉X.fs->b∉ch->s.heap.get? b=some o->H b=none->h'.get? b=some o)
 (slot:∀b o,b≠X.env.locals->b∈X.fs->b∉ch->s.heap.get? b=some o->H b=none->∃sl,h'.get? b=some {o with slots:=sl})(free:∀b o,b∉ch->s.heap.get? b=some o->H b=none->H' b=none)
 (there:∀b o,b∉ch->s.heap.get? b=some o->∃o',h'.get? b=some o')
 (Fq:∀b xs,H b=some (.tup xs)->H' b=some (.tup xs))(EW:∀b o u,H b=some (.Dz o u)->H' b=some (.Dz o u))(EA:∀b ps,H b=some (.JS ps)->∃more,H' b=some (.JS (ps++more)))
 (ns:∀m,s.heap.Ns X.env.locals m->h'.Ns X.env.locals m)(Aq:DV X.prog X.w H' h')(hg:AllBare g'):
 Inv X pins σ H' {s with heap:=h',gens:=g',drawn:=d',toks:=t'}:=by
 have neL:∀b o,X.s₀.heap.get? b=some o->b≠X.env.locals:=λb o e=>Nat.ne_of_lt (Nat.lt_of_lt_of_le (Heap.lt_size e) I.ok.above)
 have neC:∀b o,X.s₀.heap.get? b=some o->b∉X.ex->b∉ch:=λb o e hx hb=>by
  rcases(hch b hb).1 with z|z
  .exact hx z
  .exact absurd (Nat.lt_of_lt_of_le (Heap.lt_size e) z) (Nat.lt_irrefl _)
 have cellK:∀x c,X.env.cells.lookup x=some c->∀v,s.heap.IsCell c v->h'.IsCell c v:=λx c e v ⟨o,ho,hd⟩=>by
  have nch:c∉ch:=λz=>(hch c z).2.2.1 x c e rfl
  by_cases hc:c∈X.fs
  .obtain⟨sl,q⟩:=slot c o (I.SU x c e) hc nch ho (I.CS x c e);exact⟨_,q,hd⟩
  .exact⟨o,keep c o (I.SU x c e) hc nch ho (I.CS x c e),hd⟩
 refine⟨I.ok,I.os,hg,⟨λb o e n hb hx=>?_,λb o e n hb hx=>?_,λb o e n hx=>?_,λb o e hx=>?_,λb xs e=>Fq b xs (I.base.Fq b xs e),λb o xs e=>EW b o xs (I.base.EW b o xs e),λb ps e=>?_⟩,?_,λx c e=>?_,?_,λx c e=>?_,λp hp=>?_,Aq,I.len⟩
 .exact keep b o (neL b o e) hb (neC b o e hx) (I.base.keep b o e n hb hx) (I.base.free b o e n hx)
 .obtain⟨sl,e1⟩:=I.base.slot b o e n hb hx;obtain⟨sl',e2⟩:=slot b _ (neL b o e) hb (neC b o e hx) e1 (I.base.free b o e n hx);exact⟨sl',e2⟩
 .obtain⟨o',e1⟩:=I.base.there b o e hx;exact free b o' (neC b o e hx) e1 (I.base.free b o e n hx)
 .obtain⟨o',e1⟩:=I.base.there b o e hx;exact there b o' (neC b o e hx) e1
 .obtain⟨m1,e1⟩:=I.base.EA b ps e;obtain⟨m2,e2⟩:=EA b _ e1;exact⟨m1++m2,by rw[e2,Array.append_assoc]⟩
 .obtain⟨m,hn,hl⟩:=I.loc;refine⟨m,ns m hn,λi x v e1 e2 e3=>?_⟩;obtain⟨u,r,l⟩:=hl i x v e1 e2 e3;refine⟨u,r,?_⟩;rcases l with l|⟨k,c,e,z⟩
  .exact .inl l
  .exact .inr ⟨k,c,e,cellK x c e _ z⟩
 .obtain⟨v,z⟩:=I.cell x c e;exact⟨v,cellK x c e v z⟩
 .obtain⟨m,⟨o,_,_,ho,_⟩,_⟩:=I.loc;exact free _ o (λz=>(hch _ z).2.1 rfl) ho I.free
 .obtain⟨v,o,ho,hd⟩:=I.cell x c e;exact free c o (λz=>(hch c z).2.2.1 x c e rfl) ho (I.CS x c e)
 .obtain⟨e,n,ne,nf,d⟩:=I.pin p hp;have nch:p.1∉ch:=λz=>(hch p.1 z).2.2.2 p hp rfl
  exact⟨keep p.1 p.2 ne nf nch e n,free p.1 p.2 nch e n,ne,nf,d⟩
theorem Inv.un(I:Inv X pins σ H s)(u:Un X.fs [] H H' s.heap h')(Aq:DV X.prog X.w H' h'):Inv X pins σ H' {s with heap:=h',toks:=t'}:=by
 obtain⟨m,⟨o,es,ep,ho,r⟩,_⟩:=id I.loc;obtain⟨sl,hL⟩:=u.any ho I.free (by simp)
 exact I.step (g':=s.gens) (d':=s.drawn) (ch:=[]) (λ_ z=>nomatch z) (λb o _ hb _ e n=>u.keep b o e n hb (by simp)) (λb o _ hb _ e n=>u.slot b o e n hb (by simp)) (λb o _ e n=>u.free b o e n (by simp)) (λb o _ e=>u.there b o e (by simp)) u.Fq u.EW u.EA (λm' hm=>by
  obtain⟨o',es',ep',ho',r'⟩:=hm;rw[ho]at ho';cases ho'
  exact⟨_,es',ep',hL,r'⟩) Aq I.bare
theorem Inv.call(I:Inv X pins σ H s)(u:Un (CA X.stack) ch H H' s.heap h')(Aq:DV X.prog X.w H' h')(hg:AllBare g')
 (hch:∀b∈ch,(b∈X.ex\/X.s₀.heap.objs.size<=b)/\b≠X.env.locals/\(∀x c,X.env.cells.lookup x=some c->c≠b)/\∀p∈X.pn++pins,p.1≠b):
 Inv X pins σ H' {s with heap:=h',gens:=g',drawn:=d',toks:=t'}:=by
 obtain⟨m,⟨o,es,ep,ho,r⟩,_⟩:=id I.loc;obtain⟨sl,hL⟩:=u.any ho I.free λz=>(hch _ z).2.1 rfl
 exact I.step (ch:=ch) hch (λb o hL hb hc e n=>u.keep b o e n (λz=>(mK (I.GP b z)).elim hL hb) hc) (λb o _ _ hc e n=>u.any e n hc) (λb o hc e n=>u.free b o e n hc) (λb o hc e=>u.there b o e hc) u.Fq u.EW u.EA (λm' hm=>by
  obtain⟨o',es',ep',ho',r'⟩:=hm;rw[ho]at ho';cases ho'
  exact⟨_,es',ep',hL,r'⟩) Aq hg
theorem Inv.turned{it:Addr}(I:Inv X pins σ H s)(k:∀b o,b≠it->s.heap.get? b=some o->h'.get? b=some o)(hn:H it=none)(hL:it≠X.env.locals)
 (h1:it∈X.ex\/X.s₀.heap.objs.size<=it)(h2:∀x c,X.env.cells.lookup x=some c->c≠it)(h3:∀p∈X.pn++pins,p.1≠it):Inv X pins σ H {s with heap:=h',toks:=t'}:=by
 have nit:∀b u,H b=some u->b≠it:=λb u e z=>by rw[z,hn]at e;cases e
 refine I.step (g':=s.gens) (d':=s.drawn) (ch:=[it]) (λb hb=>?_) (λb o _ _ hc e _=>k b o (λz=>hc (by simp[z])) e) (λb o _ _ hc e _=>⟨o.slots,k b o (λz=>hc (by simp[z])) e⟩) (λ_ _ _ _ n=>n)
  (λb o hc e=>⟨o,k b o (λz=>hc (by simp[z])) e⟩) (λ_ _ e=>e) (λ_ _ _ e=>e) (λb ps e=>⟨#[],by rw[e];simp⟩) (λm hm=>?_) (λb u e=>?_) I.bare
 .have e:b=it:=by simpa using hb
  subst e;exact⟨h1,hL,h2,h3⟩
 .obtain⟨o,es,ep,ho,r⟩:=hm;exact⟨o,es,ep,k _ o (Ne.symm hL) ho,r⟩
 .refine(I.Aq b u e).CW (λc v hc q=>k c v ?_ q) (λ_ q=>q) λ_ _ q=>q
  rcases hc with z|z
  .rw[z];exact nit b u e
  .exact nit c _ z
theorem Inv.tok(I:Inv X pins σ H s)(t:Nat):Inv X pins σ H {s with toks:=t}:=I.un (h':=s.heap) (t':=t) Un.refl I.Aq
theorem Inv.kept(I:Inv X pins σ H s)(k:∀b u,s.heap.get? b=some u->h'.get? b=some u):Inv X pins σ H {s with heap:=h',toks:=t'}:=I.un (Un.kept k) (I.Aq.kept k)
theorem Inv.laid{a:Addr}(I:Inv X pins σ H s)(k:∀b u,s.heap.get? b=some u->h'.get? b=some u)(hp:s.heap.objs.size<=a)(new:BD X.prog X.w (upd H a o) h' a o):
 Inv X pins σ (upd H a o) {s with heap:=h',toks:=t'}:=I.un (Un.laid k hp (I.Aq.fresh hp)) (I.Aq.laid k hp new)
theorem Inv.write{e:Addr}(I:Inv X pins σ H s)(mu:ZV (H x))(he:e=x\/H e=some (.own x))(k:∀b u,b≠e->s.heap.get? b=some u->h'.get? b=some u)(heo:∃u,h'.get? e=some u)
 (new:BD X.prog X.w (upd H x o) h' x o):Inv X pins σ (upd H x o) {s with heap:=h',toks:=t'}:=I.un (Un.write mu he k heo) (I.Aq.write mu he k heo new)
theorem Inv.Dk{pins':Oa}(I:Inv X pins σ H s)(h:∀p∈pins',s.heap.get? p.1=some p.2/\H p.1=none/\p.1≠X.env.locals/\p.1∉X.fs/\∀v,p.2.data≠.cell v):Inv X pins' σ H s:=
 ⟨I.ok,I.os,I.bare,I.base,I.loc,I.cell,I.free,I.CS,λp hp=>(mZ hp).elim (λz=>I.pin p (mL z)) (h p),I.Aq,I.len⟩
theorem Hc{N:List Str}(hN:N.Nodup){i j:Nat}{x:Str}(a:N[i]? =some x)(b:N[j]? =some x):i=j:=by
 obtain⟨h1,e1⟩:=List.getElem?_eq_some_iff.mp a;obtain⟨h2,e2⟩:=List.getElem?_eq_some_iff.mp b;exact(List.getElem_inj hN).mp (e1.trans e2.symm)
variable{M:Model}{A:Around}
theorem HX{E:Va}{i:Nat}{x:Str}{Q:Unit->Shared->Prop}(I:Inv X pins σ H s)(hN:X.N.Nodup)(hi:X.N[i]? =some x)(hx:Loc X.env.scope x)(r:RelV v u)
 (h:∀s',Inv X pins (σ.set i (some v)) H s'->(∃a,Heap.SameBut a s.heap s'.heap/\(a=X.env.locals\/X.env.cells.lookup x=some a))->Q () s')(hf:X.fn x=true\/X.env.scope.names.lookup x=some .local:=by first|exact .inl rfl|exact .inr rfl|assumption):wpAny M A (storeName X.env x u) Q E s:=by
 obtain⟨m,hn,hl⟩:=id I.loc;have hcls:(X.env.scope.kind == .class || (X.env.scope.kind == .module && X.env.locals != X.env.globals))=false:=by rw[I.ok.kind];rfl
 have hiσ:i < σ.length:=by rw[I.len];exact(List.getElem?_eq_some_iff.mp hi).1
 have SU:=I.SU
 have tracked:∀{a:Addr} {h':Heap},(∃o,s.heap.get? a=some o/\H a=none)->Heap.SameBut a s.heap h'->DV X.prog X.w H h':=λ{a h'} ha hs b ob e=>by
  obtain⟨_,_,hfree⟩:=ha;refine(I.Aq b ob e).CW (λc w' hc q=>(hs.2 c ?_).trans q) (λ_ q=>q) λ_ _ q=>q
  rintro rfl
  rcases hc with rfl|hc
  .rw[hfree]at e;cases e
  .rw[hfree]at hc;cases hc
 rcases hx with hk|hk
 .refine wpAny_storeName_local hk hn (λh' hn' hs=>?_) hcls;obtain⟨oL,_,_,hoL,_⟩:=id hn;refine h _ ⟨I.ok,I.os,I.bare,⟨λb o e n hb hx=>?_,λb o e n hb hx=>?_,I.base.free,λb o e hx=>?_,I.base.Fq,I.base.EW,I.base.EA⟩,⟨_,hn',λj y v' e1 e2 e3=>?_⟩,λy c e=>?_,I.free,I.CS,λp hp=>?_,tracked ⟨oL,hoL,I.free⟩ hs,by simpa using I.len⟩ ⟨_,hs,.inl rfl⟩
  .exact(hs.2 b (Nat.ne_of_lt (Nat.lt_of_lt_of_le (Heap.lt_size e) I.ok.above))).trans (I.base.keep b o e n hb hx)
  .obtain⟨sl,e1⟩:=I.base.slot b o e n hb hx;exact⟨sl,(hs.2 b (Nat.ne_of_lt (Nat.lt_of_lt_of_le (Heap.lt_size e) I.ok.above))).trans e1⟩
  .obtain⟨o',e1⟩:=I.base.there b o e hx;exact⟨o',(hs.2 b (Nat.ne_of_lt (Nat.lt_of_lt_of_le (Heap.lt_size e) I.ok.above))).trans e1⟩
  .by_cases hj:j=i
   .subst hj;rw[hi]at e1;cases e1;rw[List.getElem?_set_self hiσ]at e2;cases e2;exact⟨u,r,.inl ⟨hk,by simp⟩⟩
   .rw[List.getElem?_set_ne (Ne.symm hj)]at e2;obtain⟨u',r',q⟩:=hl j y v' e1 e2 e3;refine⟨u',r',?_⟩;rcases q with⟨k,e⟩|⟨k,c,e,z⟩
    .refine .inl ⟨k,?_⟩;have:y≠x:=λe=>hj (Hc hN e1 (e▸hi))
     simp[this,e]
    .exact .inr ⟨k,c,e,z.sameBut hs (SU y c e)⟩
  .obtain⟨w',z⟩:=I.cell y c e;exact⟨w',z.sameBut hs (SU y c e)⟩
  .obtain⟨e,n,ne,nf,d⟩:=I.pin p hp;exact⟨(hs.2 p.1 ne).trans e,n,ne,nf,d⟩
 .have hfn:X.fn x=true:=by
   rcases hf with z|z
   .exact z
   .rw[z]at hk;cases hk
  obtain⟨c,hc⟩:=I.ok.has x (.inl hk);obtain⟨w',z⟩:=I.cell x c hc;refine wpAny_storeName_cell I.ok.kind hk hc z (λh' hc' hs=>?_);obtain⟨oc,hoc,hocd⟩:=id z;refine h {s with heap:=h'} ⟨I.ok,I.os,I.bare,⟨λb o e n hb hx=>?_,λb o e n hb hx=>?_,I.base.free,λb o e hx=>?_,I.base.Fq,I.base.EW,I.base.EA⟩,⟨m,hn.sameBut hs (Ne.symm (SU x c hc)),λj y v' e1 e2 e3=>?_⟩,λy c' e=>?_,I.free,I.CS,λp hp=>?_,tracked ⟨oc,hoc,I.CS x c hc⟩ hs,by simpa using I.len⟩ ⟨c,hs,.inr hc⟩
  .exact(hs.2 b (Nat.ne_of_lt (Nat.lt_of_lt_of_le (Heap.lt_size e) (I.ok.Zh x c hfn hc)))).trans (I.base.keep b o e n hb hx)
  .obtain⟨sl,e1⟩:=I.base.slot b o e n hb hx;exact⟨sl,(hs.2 b (Nat.ne_of_lt (Nat.lt_of_lt_of_le (Heap.lt_size e) (I.ok.Zh x c hfn hc)))).trans e1⟩
  .obtain⟨o',e1⟩:=I.base.there b o e hx;exact⟨o',(hs.2 b (Nat.ne_of_lt (Nat.lt_of_lt_of_le (Heap.lt_size e) (I.ok.Zh x c hfn hc)))).trans e1⟩
  .by_cases hj:j=i
   .subst hj;rw[hi]at e1;cases e1;rw[List.getElem?_set_self hiσ]at e2;cases e2;exact⟨u,r,.inr ⟨.inl hk,c,hc,hc'⟩⟩
   .rw[List.getElem?_set_ne (Ne.symm hj)]at e2;obtain⟨u',r',q⟩:=hl j y v' e1 e2 e3;refine⟨u',r',?_⟩;rcases q with q|⟨k,c',e,z'⟩
    .exact .inl q
    .refine .inr ⟨k,c',e,z'.sameBut hs ?_⟩
     rintro rfl
     exact hj (Hc hN e1 (I.ok.inj _ _ _ e hc▸hi))
  .by_cases hcc:c'=c
   .subst hcc;exact⟨_,hc'⟩
   .obtain⟨w2,z2⟩:=I.cell y c' e;exact⟨w2,z2.sameBut hs hcc⟩
  .obtain⟨e,n,ne,nf,d⟩:=I.pin p hp;refine⟨(hs.2 p.1 ?_).trans e,n,ne,nf,d⟩;intro q;rw[q,hoc]at e;have q':oc=p.2:=Option.some.inj e;exact d w' (by rw[<-q'];exact hocd)
theorem ED{E:Va}{i:Nat}{x:Str}{Q:Unit->Shared->Prop}(I:Inv X pins σ H s)(hN:X.N.Nodup)(hi:X.N[i]? =some x)(hx:Loc X.env.scope x)(r:RelV v u)
 (h:∀s',Inv X pins (σ.set i (some v)) H s'->Q () s')(hf:X.fn x=true\/X.env.scope.names.lookup x=some .local:=by first|exact .inl rfl|exact .inr rfl|assumption):wpAny M A (storeName X.env x u) Q E s:=
 HX I hN hi hx r (λs' I' _=>h s' I') hf
theorem Inv.Wz{s':Shared}(I:Inv X pins σ H s)(ho:s'.os=s.os)(u:Un (CA X.stack) ch H H' s.heap s'.heap)(Aq:DV X.prog X.w H' s'.heap)(hg:AllBare s'.gens)
 (hch:∀b∈ch,(b∈X.ex\/X.s₀.heap.objs.size<=b)/\b≠X.env.locals/\(∀x c,X.env.cells.lookup x=some c->c≠b)/\∀p∈X.pn++pins,p.1≠b):Inv X pins σ H' s':=by
 obtain⟨h',g',d',t',o'⟩:=s';have e:o'=s.os:=ho;subst e;exact I.call (g':=g') (t':=t') (d':=d') u Aq hg hch
end
abbrev XK:=Value->V->Hp->Prop
abbrev St:=List (Option V)
abbrev VK:=V->Hp->Prop
abbrev TE:=St->Hp->VK->Prop
abbrev TT:=St->Hp->(Bool->Hp->Prop)->Prop
abbrev TA:=St->Hp->(List V->Hp->Prop)->Prop
structure Ends where
 nx:St->Hp->Prop
 rt:VK
 bk:St->Hp->Prop:=λ_ _=>False
 ct:St->Hp->Prop:=λ_ _=>False
abbrev TS:=Ends->St->Hp->Prop
def EP(X:Cx)(pins:Oa)(σ:St)(Q:VK)(u:Value)(s':Shared):Prop:=∃v H',Inv X pins σ H' s'/\RelV v u/\Q v H'
def TP(X:Cx)(pins:Oa)(σ:St)(Q:Bool->Hp->Prop)(b:Bool)(s':Shared):Prop:=∃H',Inv X pins σ H' s'/\Q b H'
def AP(X:Cx)(pins:Oa)(σ:St)(Q:List V->Hp->Prop)(us:List Value)(s':Shared):Prop:=∃vs H',Inv X pins σ H' s'/\Vals vs us/\Q vs H'
def SP(X:Cx)(pins:Oa)(D:Ends)(f:Flow)(s':Shared):Prop:=
 match f with
 |.next=>∃σ' H',Inv X pins σ' H' s'/\D.nx σ' H'
 |.brk=>∃σ' H',Inv X pins σ' H' s'/\D.bk σ' H'
 |.cont=>∃σ' H',Inv X pins σ' H' s'/\D.ct σ' H'
 |.ret u=>∃v σ' H',Inv X pins σ' H' s'/\RelV v u/\D.rt v H'
def PE(X:Cx)(e:Expr)(t:TE):Prop:=
 ∀(pins:Oa) (s:Shared) (σ:St) (H:Hp) (Q:VK),Inv X pins σ H s->t σ H Q->(X|||(eval e X.env)) (EP X pins σ Q) X.xe s
def PT(X:Cx)(e:Expr)(t:TT):Prop:=
 ∀(pins:Oa) (s:Shared) (σ:St) (H:Hp) (Q:Bool->Hp->Prop),Inv X pins σ H s->t σ H Q->(X|||(isTrue e X.env (eval e X.env))) (TP X pins σ Q) X.xe s
def PW(X:Cx)(e:Expr)(t:TT):Prop:=
 ∀(whole:Sem Value) (pins:Oa) (s:Shared) (σ:St) (H:Hp) (Q:Bool->Hp->Prop),Inv X pins σ H s->t σ H Q->(X|||(isTrue e X.env whole)) (TP X pins σ Q) X.xe s
variable{X:Cx}
theorem PW.pt{t:TT}(h:PW X e t):PT X e t:=h _
def PA(X:Cx)(es:List Expr)(t:TA):Prop:=
 ∀(pos:Pos) (pins:Oa) (s:Shared) (σ:St) (H:Hp) (Q:List V->Hp->Prop),Inv X pins σ H s->t σ H Q->(X|||(spliced (backTo pos (starEach es X.env)))) (AP X pins σ Q) X.xe s
def PS(X:Cx)(st:Stmt)(t:TS):Prop:=
 ∀(pins:Oa) (s:Shared) (σ:St) (H:Hp) (D:Ends),Inv X pins σ H s->t D σ H->(X|||(exec st X.env)) (SP X pins D) X.xe s
def Lp(X:Cx)(st:List Stmt)(t:TS):Prop:=
 ∀(pins:Oa) (s:Shared) (σ:St) (H:Hp) (D:Ends),Inv X pins σ H s->t D σ H->(X|||(execs st X.env)) (SP X pins D) X.xe s
variable{M:Model}{A:Around}
theorem thn{α:Type}{t:Sem α}{Q Q':α->Shared->Prop}{E:Va}{s:Shared}(h:wpAny M A t Q E s)(hQ:∀a s,Q a s->Q' a s):wpAny M A t Q' E s:=wpAny_mono h hQ λ_ _ x=>x
section
variable{X:Cx}
variable{pins:Oa}{H:Hp}
theorem bin{ta tb:TE}(ha:PE X a ta)(hb:PE X b tb){s:Shared}{σ:St}{R:V->V->Hp->Prop}(I:Inv X pins σ H s)(h:ta σ H λx H1=>tb σ H1 λy H2=>R x y H2)
 {α:Type}{Q:α->Shared->Prop}{f:Value->Value->Sem α}
 (hf:∀v u s2 x y H2,Inv X pins σ H2 s2->RelV x v->RelV y u->R x y H2->(X|||(f v u)) Q X.xe s2):
 (X|||(eval a X.env)) (λv s₁=>(X|||(eval b X.env)) (λu s₂=>(X|||(f v u)) Q X.xe s₂) X.xe s₁) X.xe s:=by
 refine thn (ha pins s σ H _ I h) λv s1 ⟨x,H1,I1,r1,q1⟩=>?_
 refine thn (hb pins s1 σ H1 _ I1 q1) λu s2 ⟨y,H2,I2,r2,q2⟩=>?_
 exact hf v u s2 x y H2 I2 r1 r2 q2
def IL(i:Nat):TE:=λσ H Q=>∃v,σ[i]? =some (some v)/\Q v H
def tC(v:V):TE:=λ_ H Q=>Q v H
variable{pos:Pos}
theorem Jb{i:Nat}{x:Str}(hN:X.N[i]? =some x)(hv:cV X.env.scope x)(hd:ng x:=by decide)(hcd:(x == ("__classdict__":Str))=false:=by decide):PE X (.Name x pos) (IL i):=by
 intro pins s σ H Q I h;obtain⟨v,e,h⟩:=h;obtain⟨m,hn,hl⟩:=I.loc;obtain⟨u,r,l⟩:=hl i x v hN e hv;have fin:EP X pins σ Q u s:=⟨v,H,I,r,h⟩;rcases l with⟨hk,hm⟩|⟨hk,c,hc,hcell⟩
 .exact wpAny_Name (wpAny_loadName_local I.ok.kind hk hn hm fin) hd
 .rcases hk with hk|hk
  .exact wpAny_Name (wpAny_loadName_cell I.ok.kind hk hc hcell fin) hd
  .exact wpAny_Name (wpAny_loadName_free I.ok.kind hk hc hcell fin hcd) hd
theorem XR{i j pos}:PE X (.Constant (.int i) j pos) (tC (.int i)):=λ_ _ _ H _ I h=>wpAny_Constant_int ⟨.int i,H,I.tok _,⟨_,rfl⟩,h⟩
theorem bq{b j pos}:PE X (.Constant (.bool b) j pos) (tC (.bl b)):=λ_ _ _ H _ I h=>Constant_bool ⟨.bl b,H,I,rfl,h⟩
theorem XO{j pos}:PE X (.Constant .none j pos) (tC .A8):=λ_ _ _ H _ I h=>Constant_none ⟨.A8,H,I,rfl,h⟩
theorem XM{x j pos}:PE X (.Constant (.str x) j pos) (tC (.str x)):=λ_ _ _ H _ I h=>Calls.Constant_str ⟨.str x,H,I.tok _,⟨_,rfl⟩,h⟩
def Gl(X:Cx)(x:Str):Prop:=X.env.kindOf x=some .globalImplicit
theorem ES{E:Va}{s:Shared}{σ:St}{u:Value}{Q:Va}(I:Inv X pins σ H s)(hg:Gl X x)(hm:X.mg x=some u)(h:Q u s)
 (hd:ng x:=by decide):(X|||(eval (.Name x pos) X.env)) Q E s:=
 Calls.Name_function_global I.ok.kind hg (Calls.loadGlobal_global (by rw[I.ok.glob];exact I.mod.glob.keeps I.bk) hm h) hd
theorem DO{E:Va}{s:Shared}{σ:St}{u:Value}{Q:Va}(I:Inv X pins σ H s)(hg:Gl X x)(hm:X.mg x=none)(hv:bootBuiltins x=some u)(h:Q u s)
 (hn:x≠"__name__":=by decide)(hd:ng x:=by decide):(X|||(eval (.Name x pos) X.env)) Q E s:=by
 obtain⟨mb,h1,h2⟩:=I.mod.blt;exact Calls.Name_function_global I.ok.kind hg (Calls.loadGlobal_builtin (by rw[I.ok.glob];exact I.mod.glob.keeps I.bk) hm (by rw[I.ok.blt];exact h1.keeps I.bk) ((h2 x hn).trans hv) h) hd
theorem Jc{u:Value}(hg:Gl X x)(hm:X.mg x=some u)(r:RelV v u)(hd:ng x:=by decide):PE X (.Name x pos) (tC v):=
 λ_ _ _ H _ I h=>ES I hg hm ⟨v,H,I,r,h⟩ hd
theorem N5{u:Value}(hg:Gl X x)(hm:X.mg x=none)(hv:bootBuiltins x=some u)(r:RelV v u)(hn:x≠"__name__":=by decide)(hd:ng x:=by decide):PE X (.Name x pos) (tC v):=
 λ_ _ _ H _ I h=>DO I hg hm hv ⟨v,H,I,r,h⟩ hn hd
variable{a b:Expr}{ta tb:TE}{pos:Pos}
variable{tA tB':TT}{rest:List Expr}
def aN(t u:TT):TT:=λσ H Q=>t σ H λc H1=>if c=true then u σ H1 Q else Q false H1
def iE(t u:TT):TT:=λσ H Q=>t σ H λc H1=>if c=true then Q true H1 else u σ H1 Q
def aJ(t:TT):TT:=λσ H Q=>t σ H λc H1=>Q (!c) H1
theorem U1(ha:PT X a tA):PW X (.BoolOp .And [a] pos) tA:=by
 intro wh pins s σ H Q I h;refine isTrue_and (thn (ha pins s σ H Q I h) λc s1 e=>?_);cases c with
 |true=>exact isTrue_and_nil e
 |false=>exact e
theorem Q7(ha:PT X a tA):PW X (.BoolOp .Or [a] pos) tA:=by
 intro wh pins s σ H Q I h;refine isTrue_or (thn (ha pins s σ H Q I h) λc s1 e=>?_);cases c with
 |false=>exact isTrue_or_nil e
 |true=>exact e
theorem XB(ha:PT X a tA)(hb:PW X (.BoolOp .And (b::rest) pos) tB'):PW X (.BoolOp .And (a::b::rest) pos) (aN tA tB'):=by
 intro wh pins s σ H Q I h;refine isTrue_and (thn (ha pins s σ H _ I h) λc s1 ⟨H1,I1,q1⟩=>?_);cases c with
 |true=>exact hb wh pins s1 σ H1 Q I1 q1
 |false=>exact⟨H1,I1,q1⟩
theorem Wb(ha:PT X a tA)(hb:PW X (.BoolOp .Or (b::rest) pos) tB'):PW X (.BoolOp .Or (a::b::rest) pos) (iE tA tB'):=by
 intro wh pins s σ H Q I h;refine isTrue_or (thn (ha pins s σ H _ I h) λc s1 ⟨H1,I1,q1⟩=>?_);cases c with
 |true=>exact⟨H1,I1,q1⟩
 |false=>exact hb wh pins s1 σ H1 Q I1 q1
theorem LJ(ha:PT X a tA):PT X (.UnaryOp .Not a pos) (aJ tA):=by
 intro pins s σ H Q I h;exact isTrue_not (ha pins s σ H (λc H1=>Q (!c) H1) I h)
def VX(ta tb:TE):TE:=λσ H Q=>ta σ H λx H1=>∃c,x= .bl c/\if c=true then tb σ H1 Q else Q (.bl false) H1
def aH(ta tb:TE):TE:=λσ H Q=>ta σ H λx H1=>∃c,x= .bl c/\if c=true then Q (.bl true) H1 else tb σ H1 Q
def VV(ta:TE):TE:=λσ H Q=>ta σ H λx H1=>∃c,x= .bl c/\Q (.bl (!c)) H1
theorem Qm{op}{t:TE}(h:PE X a t):PE X (.BoolOp op [a] pos) t:=λpins s σ H Q I hw=>BoolOp_one (h pins s σ H Q I hw)
theorem XS(ha:PE X a ta)(hb:PE X (.BoolOp .And (b::rest) pos) tb):PE X (.BoolOp .And (a::b::rest) pos) (VX ta tb):=by
 intro pins s σ H Q I h;refine BoolOp_and (thn (ha pins s σ H _ I h) λv s1 ⟨x,H1,I1,r1,q1⟩=>?_);obtain⟨c,rfl,q1⟩:=q1;cases r1;refine wpAny_truthy_bool ?_;cases c with
 |true=>exact hb pins s1 σ H1 Q I1 q1
 |false=>exact⟨.bl false,H1,I1,rfl,q1⟩
theorem bg(ha:PE X a ta)(hb:PE X (.BoolOp .Or (b::rest) pos) tb):PE X (.BoolOp .Or (a::b::rest) pos) (aH ta tb):=by
 intro pins s σ H Q I h;refine BoolOp_or (thn (ha pins s σ H _ I h) λv s1 ⟨x,H1,I1,r1,q1⟩=>?_);obtain⟨c,rfl,q1⟩:=q1;cases r1;refine wpAny_truthy_bool ?_;cases c with
 |false=>exact hb pins s1 σ H1 Q I1 q1
 |true=>exact⟨.bl true,H1,I1,rfl,q1⟩
theorem XN(ha:PE X a ta):PE X (.UnaryOp .Not a pos) (VV ta):=by
 intro pins s σ H Q I h;refine UnaryOp_ (thn (ha pins s σ H _ I h) λv s1 ⟨x,H1,I1,r1,q1⟩=>?_);obtain⟨c,rfl,q1⟩:=q1;cases r1;exact not_of (wpAny_truthy_bool ⟨.bl (!c),H1,I1,rfl,q1⟩)
def iG(t:TT)(ta tb:TE):TE:=λσ H Q=>t σ H λc H1=>if c=true then ta σ H1 Q else tb σ H1 Q
theorem Qp(hc:PT X c tA)(ha:PE X a ta)(hb:PE X b tb):PE X (.IfExp c a b pos) (iG tA ta tb):=by
 intro pins s σ H Q I h;refine wpAny_IfExp (thn (hc pins s σ H _ I h) λd s1 ⟨H1,I1,q1⟩=>?_);cases d with
 |true=>exact ha pins s1 σ H1 Q I1 q1
 |false=>exact hb pins s1 σ H1 Q I1 q1
end
def Ep(K:Frag)(H:Hp)(a:Addr)(xs:List V):Prop:=
 Rd H a (.lst xs)\/
  ∃(o:Obj) (its:Array Value) (n:Nat),K.lookup a=some o/\o.cls= .type "list"/\o.dict=none/\o.data= .seq its n/\its.size<=sizeLine/\Vals xs its.toList
def DF(K:Frag)(H:Hp)(a:Addr)(xs:List V):Prop:=
 Rd H a (.tup xs)\/
  ∃(o:Obj) (its:Array Value) (n:Nat),K.lookup a=some o/\o.cls= .type "tuple"/\o.data= .seq its n/\its.size<=sizeLine/\Vals xs its.toList
def gr:Value->Option V
 |.none=>some .A8
 |.bool b=>some (.bl b)
 |.int i _=>some (.int i)
 |.str x _=>some (.str x)
 |.bytes b _=>some (.ZS b)
 |.float b _=>some (.dN b)
 |.ref a=>some (.ref a)
 |.type n=>some (.ty n)
 |_=>none
theorem RelV.abs(r:RelV x u):gr u=some x:=by
 cases x with
 |A8=>cases r;rfl
 |bl _=>cases r;rfl
 |int _=>obtain⟨t,rfl⟩:=r;rfl
 |str _=>obtain⟨t,rfl⟩:=r;rfl
 |ZS _=>obtain⟨t,rfl⟩:=r;rfl
 |dN _=>obtain⟨t,rfl⟩:=r;rfl
 |ref _=>cases r;rfl
 |ty _=>cases r;rfl
theorem RelV.inj(r:RelV x u)(q:RelV y u):x=y:=Option.some.inj (r.abs.symm.trans q.abs)
theorem Vals.inj:∀{xs ys:List V} {us:List Value},Vals xs us->Vals ys us->xs=ys
 |_,_,_,.nil,.nil=>rfl
 |_,_,_,.cons r t,.cons r' t'=>by rw[r.inj r',Vals.inj t t']
section
variable{X:Cx}{pins:Oa}{σ:St}{H:Hp}{s:Shared}{a:Addr}{xs ys:List V}
theorem Ep.of{K:Frag}(h:H a=some (.lst xs)):Ep K H a xs:=.inl (.inl h)
theorem DF.of{K:Frag}(h:H a=some (.tup xs)):DF K H a xs:=.inl (.inl h)
theorem Inv.list(I:Inv X pins σ H s)(h:Ep X.K H a xs):∃its:List Value,Vals xs its/\PlainL s.heap a its.toArray/\xs.length<=sizeLine:=by
 rcases h with h|⟨o,its,n,hk,hc,hd,hs,hz,r⟩
 .obtain⟨z,its,n,r,e⟩:=h.ok I.Aq;exact⟨its,r,⟨_,n,e,rfl,rfl,rfl⟩,z⟩
 .refine⟨its.toList,r,⟨o,n,I.FF a o hk,hc,hd,by simpa using hs⟩,?_⟩;have e:=r.length;simp only[Array.length_toList]at e
  lia
theorem Inv.tuple(I:Inv X pins σ H s)(h:DF X.K H a xs):∃its:List Value,Vals xs its/\IsTup s.heap a its.toArray/\xs.length<=sizeLine:=by
 rcases h with h|⟨o,its,n,hk,hc,hs,hz,r⟩
 .obtain⟨z,its,r,p⟩:=h.ok I.Aq;exact⟨its,r,p,z⟩
 .refine⟨its.toList,r,⟨o,I.FF a o hk,hc,n,by simpa using hs⟩,?_⟩;have e:=r.length;simp only[Array.length_toList]at e
  lia
theorem Inv.Kr(I:Inv X pins σ H s)(h:Ep X.K H a xs)(h':Ep X.K H a ys):xs=ys:=by
 obtain⟨its,r,⟨o,n,e,_,_,d⟩,_⟩:=I.list h;obtain⟨its',r',⟨o',n',e',_,_,d'⟩,_⟩:=I.list h';rw[e]at e';cases e';rw[d]at d';injection d' with d1 _
 have:its=its':=by simpa using congrArg Array.toList d1
 subst this;exact r.inj r'
theorem Inv.O5(I:Inv X pins σ H s)(h:DF X.K H a xs)(h':DF X.K H a ys):xs=ys:=by
 obtain⟨its,r,⟨o,e,_,n,d⟩,_⟩:=I.tuple h;obtain⟨its',r',⟨o',e',_,n',d'⟩,_⟩:=I.tuple h';rw[e]at e';cases e';rw[d]at d';injection d' with d1 _
 have:its=its':=by simpa using congrArg Array.toList d1
 subst this;exact r.inj r'
end
abbrev Cx.GF(X:Cx)(E:Va):Cx:={X with xe:=E}
theorem Cx.Ok.GF(ok:X.Ok)(E:Va):(X.GF E).Ok:=
 ⟨ok.mod,ok.kind,ok.glob,ok.blt,ok.above,ok.inj,ok.has,ok.Zh,ok.hd,ok.frames,ok.aO,ok.cH,ok.bs,ok.SV,ok.Ot,ok.OQ,ok.EV,ok.Wu⟩
theorem Cx.Ok.Lr{E:Va}(ok:(X.GF E).Ok):X.Ok:=
 ⟨ok.mod,ok.kind,ok.glob,ok.blt,ok.above,ok.inj,ok.has,ok.Zh,ok.hd,ok.frames,ok.aO,ok.cH,ok.bs,ok.SV,ok.Ot,ok.OQ,ok.EV,ok.Wu⟩
section
variable{X:Cx}{pins:Oa}{σ:St}{H:Hp}{s:Shared}{E:Va}
theorem Inv.GF(I:Inv X pins σ H s)(E:Va):Inv (X.GF E) pins σ H s:=⟨I.ok.GF E,I.os,I.bare,I.base,I.loc,I.cell,I.free,I.CS,I.pin,I.Aq,I.len⟩
theorem Inv.Lr(I:Inv (X.GF E) pins σ H s):Inv X pins σ H s:=⟨I.ok.Lr,I.os,I.bare,I.base,I.loc,I.cell,I.free,I.CS,I.pin,I.Aq,I.len⟩
end
section
variable{X:Cx}{st:Stmt}{rest:List Stmt}{t u:TS}{e:Expr}{te:TE}{pos:Pos}
def PK:TS:=λD σ H=>D.nx σ H
def aG(t u:TS):TS:=λD σ H=>t {D with nx:=u D} σ H
theorem J1:Lp X [] PK:=λ_ _ σ H _ I h=>wpAny_execs_nil ⟨σ,H,I,h⟩
theorem GX(h1:PS X st t)(h2:Lp X rest u):Lp X (st::rest) (aG t u):=by
 intro pins s σ H D I h;refine wpAny_execs_cons (thn (h1 pins s σ H {D with nx:=u D} I h) λf s1 q=>?_);cases f with
 |next=>
   obtain⟨σ',H',I',q⟩:=q;exact h2 pins s1 σ' H' D I' q
 |ret v=>exact q
 |brk=>exact q
 |cont=>exact q
def PM:TS:=λD σ H=>D.bk σ H
def VW:TS:=λD σ H=>D.ct σ H
theorem U5:PS X (.Pass pos) PK:=λ_ _ σ H _ I h=>wpAny_Pass ⟨σ,H,I,h⟩
theorem Qe:PS X (.Break pos) PM:=λ_ _ σ H _ I h=>wpAny_Break ⟨σ,H,I,h⟩
theorem Kc:PS X (.Continue pos) VW:=λ_ _ σ H _ I h=>wpAny_Continue ⟨σ,H,I,h⟩
theorem Inv.quiet{pins:Oa}{σ:St}{H:Hp}{s:Shared}(I:Inv X pins σ H s):interactive X.env=false:=by simp[interactive,I.ok.kind]
def MK(te:TE):TS:=λD σ H=>te σ H λ_ H1=>D.nx σ H1
theorem EJ(he:PE X e te)(hs:swapsWith e none pos.line X.env=pure false:=by rfl):PS X (.Expr e pos) (MK te):=by
 intro pins s σ H D I h;exact wpAny_Expr_any (thn (he pins s σ H _ I h) λv s1 ⟨x,H1,I1,r1,q1⟩=>⟨σ,H1,I1,q1⟩) I.quiet hs
def X0(te:TE):TS:=λD σ H=>te σ H D.rt
theorem Qb(he:PE X e te):PS X (.Return (some e) pos) (X0 te):=by
 intro pins s σ H D I h;exact wpAny_Return_some (thn (he pins s σ H _ I h) λv s1 ⟨x,H1,I1,r1,q1⟩=>⟨x,σ,H1,I1,r1,q1⟩)
def VU:TS:=λD _ H=>D.rt .A8 H
theorem U4:PS X (.Return none pos) VU:=λ_ _ σ H _ I h=>wpAny_Return_none ⟨.A8,σ,H,I,rfl,h⟩
def aM(c:TT)(t u:TS):TS:=λD σ H=>c σ H λb H1=>if b=true then t D σ H1 else u D σ H1
theorem We{a b:List Stmt}{tc:TT}(hc:PT X c tc)(ha:Lp X a t)(hb:Lp X b u):PS X (.If c a b pos) (aM tc t u):=by
 intro pins s σ H D I h;refine wpAny_If (thn (hc pins s σ H _ I h) λd s1 ⟨H1,I1,q1⟩=>?_);cases d with
 |true=>exact ha pins s1 σ H1 D I1 q1
 |false=>exact hb pins s1 σ H1 D I1 q1
def X1:TS:=λ_ _ _=>False
theorem Ic{dC:List Stmt}:Lp X dC X1:=λ_ _ _ _ _ _ h=>h.elim
end
abbrev TG:=V->St->Hp->(St->Hp->Prop)->Prop
abbrev SW:=List V->St->Hp->(St->Hp->Prop)->Prop
def PG(X:Cx)(target:Expr)(t:TG):Prop:=
 ∀ (pins:Oa) (s:Shared) (σ:St) (H:Hp) (v:V) (u:Value) (Q:St->Hp->Prop),Inv X pins σ H s->RelV v u->t v σ H Q->
   (X|||(assign target X.env u)) (λ_ s'=>∃σ' H',Inv X pins σ' H' s'/\Q σ' H') X.xe s
def ZU(X:Cx)(ts:List Expr)(t:SW):Prop:=
 ∀ (pins:Oa) (s:Shared) (σ:St) (H:Hp) (vs:List V) (us:List Value) (Q:St->Hp->Prop),Inv X pins σ H s->Vals vs us->t vs σ H Q->
   (X|||(assignInOrder ((assignEach ts X.env).map (·.2)) us)) (λ_ s'=>∃σ' H',Inv X pins σ' H' s'/\Q σ' H') X.xe s
abbrev VE:=V->V->V->Hp->(Hp->Prop)->Prop
def ZD(X:Cx)(t:VE):Prop:=
 ∀ (pins:Oa) (s:Shared) (σ:St) (H:Hp) (o i v:V) (ov iv u:Value) (Q:Hp->Prop),Inv X pins σ H s->RelV o ov->RelV i iv->RelV v u->t o i v H Q->
   (X|||(setItem ov iv u)) (λ_ s'=>∃H',Inv X pins σ H' s'/\Q H') X.xe s
variable{X:Cx}{pos:Pos}
def EU(i:Nat):TG:=λv σ H Q=>Q (σ.set i (some v)) H
theorem N4{i:Nat}{x:Str}(hN:X.N.Nodup)(hi:X.N[i]? =some x)(hx:Loc X.env.scope x)(hf:X.fn x=true\/X.env.scope.names.lookup x=some .local:=by first|exact .inl rfl|exact .inr rfl|assumption):PG X (.Name x pos) (EU i):=by
 intro pins s σ H v u Q I r h;exact wpAny_assign_Name (ED I hN hi hx r (λs' I'=>⟨_,H,I',h⟩) hf)
def cB:SW:=λvs σ H Q=>vs=[]/\Q σ H
def Wt(t:TG)(u:SW):SW:=λvs σ H Q=>∃v r,vs=v::r/\t v σ H λσ' H'=>u r σ' H' Q
theorem Ub:ZU X [] cB:=by
 intro pins s σ H vs us Q I r h;obtain⟨e,h⟩:=h;subst e;cases r;exact assignInOrder_nil ⟨σ,H,I,h⟩
theorem Qi{es:List Expr}{t:TG}{u:SW}(h1:PG X e t)(h2:ZU X es u)
 (hs:(assignEach (e::es) X.env).map (·.2)=assign e X.env::(assignEach es X.env).map (·.2):=by rfl):ZU X (e::es) (Wt t u):=by
 intro pins s σ H vs us Q I r h;obtain⟨v,vr,e1,h⟩:=h;subst e1;cases r with
 |cons r rr=>
   rw[hs];refine assignInOrder_cons (thn (h1 pins s σ H _ _ _ I r h) λ_ s1 ⟨σ1,H1,I1,q1⟩=>?_);exact h2 pins s1 σ1 H1 _ _ Q I1 rr q1
def YR(K:Frag)(n:Nat)(t:SW):TG:=λv σ H Q=>∃a xs,v= .ref a/\DF K H a xs/\xs.length=n/\t xs σ H Q
variable{n:Nat}
theorem Qj{es:List Expr}{k:Nat}{t:SW}(hc:X.calm=true)(h:ZU X es t)
 (hn:(assignEach es X.env).length=n:=by rfl)(hst:(assignEach es X.env).findIdx? (·.1)=none:=by rfl):PG X (.Tuple es k pos) (YR X.K n t):=by
 intro pins s σ H v u Q I r hw;obtain⟨a,xs,e1,hq,hl,hw⟩:=hw;subst e1;cases r;obtain⟨its,rv,ht,hz⟩:=I.tuple hq;refine assign_Tuple_tuple (I.ok.hd hc) ht (by simp[hn,<-hl,rv.length]) hst λh' hx=>?_
 have I1:Inv X pins σ H {s with heap:=h'}:=I.kept (t':=s.toks) λb o e=>hx b o (Nat.ne_of_lt (Heap.lt_size e)) e
 exact h pins _ σ H xs _ Q I1 (by simpa using rv) hw
def fV(to ti:TE)(t:VE):TG:=λv σ H Q=>to σ H λo H1=>ti σ H1 λi H2=>t o i v H2 λH3=>Q σ H3
theorem XH{to ti:TE}{t:VE}(ho:PE X o to)(hi:PE X i ti)(hs:ZD X t)
 (ha:∀v,assign (.Subscript o i pos) X.env v=(do
  let ov <-holding [v] (eval o X.env)
  let iv <-holding [v,ov] (eval i X.env)
  standAt pos
  holding [v,ov,iv] (setItem ov iv v)
  release [v,ov,iv] []):=by intro _;rfl):PG X (.Subscript o i pos) (fV to ti t):=by
 intro pins s σ H v u Q I r h;rw[ha];refine wB (wpAny_holding (thn (ho pins s σ H _ I h) λov s1 ⟨x,H1,I1,r1,q1⟩=>?_));refine wB (wpAny_holding (thn (hi pins s1 σ H1 _ I1 q1) λiv s2 ⟨y,H2,I2,r2,q2⟩=>?_));refine wB (wpAny_standAt (wB (wpAny_holding (thn (hs pins s2 σ H2 x y v ov iv u _ I2 r1 r2 r q2) λ_ s3 ⟨H3,I3,q3⟩=>?_))));exact wpAny_release ⟨σ,H3,I3,q3⟩
def LA(te:TE)(g:TG):TS:=λD σ H=>te σ H λx H1=>g x σ H1 D.nx
variable{te:TE}
theorem Qf{tg:Expr}{g:TG}(he:PE X e te)(hg:PG X tg g)(hs:swapsWithSole [tg] e pos.line X.env=pure false:=by rfl)(hw:swappedStores [tg] e X.env=pure none:=by rfl)
 (h1:(assignEach [tg] X.env).map (·.2)=[assign tg X.env]:=by rfl):PS X (.Assign [tg] e pos) (LA te g):=by
 intro pins s σ H D I h;refine wpAny_Assign_stores (thn (he pins s σ H _ I h) λv s1 ⟨x,H1,I1,r1,q1⟩=>?_) hs hw;rw[h1];exact thn (hg pins s1 σ H1 x v _ I1 r1 q1) λ_ s2 q=>q
theorem J5{i:Nat}{x:Str}{pos':Pos}(hN:X.N.Nodup)(hi:X.N[i]? =some x)(hx:Loc X.env.scope x)(he:PE X e te)(hs:swapsWith e (some (.Name x pos')) pos.line X.env=pure false:=by rfl)(hf:X.fn x=true\/X.env.scope.names.lookup x=some .local:=by first|exact .inl rfl|exact .inr rfl|assumption):
 PS X (.Assign [.Name x pos'] e pos) (LA te (EU i)):=by
 intro pins s σ H D I h;refine wpAny_Assign_Name (thn (he pins s σ H _ I h) λv s1 ⟨y,H1,I1,r1,q1⟩=>?_) hs;exact ED I1 hN hi hx r1 (λs2 I2=>⟨_,H1,I2,q1⟩) hf
def PH(c:TT)(tb:TS):TS:=λD σ H=>∃W:Nat->St->Hp->Prop,(∃m,W m σ H)/\∀m σ H,W m σ H->
 c σ H λb H1=>if b=true then ∃N:St->Hp->Prop,(∀σ' H',N σ' H'->∃m',m' < m/\W m' σ' H')/\tb {D with nx:=N,ct:=N,bk:=D.nx} σ H1 else D.nx σ H1
variable{body:List Stmt}
theorem Qa{tc:TT}{tb:TS}(hp:PassesOwn (model X.prog X.w) X.A X.env X.xe)(hc:PT X c tc)(hb:Lp X body tb):PS X (.While c body [] pos) (PH tc tb):=by
 intro pins s σ H D I h;obtain⟨W,⟨m0,w0⟩,turn⟩:=h;refine wpAny_While (codeAny_whileLoop (λn s'=>∃σ' H',Inv X pins σ' H' s'/\W n σ' H') ?_ m0 ⟨σ,H,I,w0⟩)
 rintro n s1 ⟨σ1,H1,I1,w1⟩
 refine wpAny_passesOwn hp (thn (hc pins s1 σ1 H1 _ I1 (turn n σ1 H1 w1)) λb s2 ⟨H2,I2,q2⟩=>?_);cases b with
 |true=>
   obtain⟨N,hN,q2⟩:=q2;rw[iP rfl];refine wpAny_passesOwn hp (thn (hb pins s2 σ1 H2 _ I2 q2) λf s3 q3=>?_);cases f with
   |next=>
     obtain⟨σ3,H3,I3,n3⟩:=q3;obtain⟨m',hm,w3⟩:=hN σ3 H3 n3;exact⟨m',hm,σ3,H3,I3,w3⟩
   |cont=>
     obtain⟨σ3,H3,I3,n3⟩:=q3;obtain⟨m',hm,w3⟩:=hN σ3 H3 n3;exact⟨m',hm,σ3,H3,I3,w3⟩
   |brk=>exact q3
   |ret v=>exact q3
 |false=>
   rw[iN Bool.false_ne_true];exact wpAny_execs_nil ⟨σ1,H2,I2,q2⟩
structure It where
 go:Nat->Hp->Prop
 P8:Nat->Hp->V->Hp->Prop
 stop:Nat->Hp->Prop
def FX(X:Cx)(pins:Oa)(H:Hp)(b:Addr):Prop:=
 H b=none/\b≠X.env.locals/\b∉X.fs/\(b∈X.ex\/X.s₀.heap.objs.size<=b)/\(∀x c,X.env.cells.lookup x=some c->c≠b)/\∀p∈X.pn++pins,p.1≠b
theorem Inv.ON{pins:Oa}{σ:St}{H':Hp}{s:Shared}{b:Addr}(I:Inv X pins σ H s)(hb:s.heap.objs.size<=b)(hn:H' b=none):FX X pins H' b:=by
 refine⟨hn,Nat.ne_of_gt (Nat.lt_of_lt_of_le I.lt hb),I.Yl hb,.inr (Nat.le_trans I.sz hb),λx c e z=>?_,λp hp z=>?_⟩
 .obtain⟨v,q⟩:=I.cell x c e;exact absurd (Nat.lt_of_lt_of_le q.lt (by rw[z];exact hb)) (Nat.lt_irrefl _)
 .exact absurd (Nat.lt_of_lt_of_le (Heap.lt_size (I.pin p hp).1) (by rw[z];exact hb)) (Nat.lt_irrefl _)
structure Turn(P:Program)(w:World)(K:Frag)(tg:Expr)(J:It)(fp:List Addr)(it:Addr)(tn:Nat->Heap->Prop):Prop where
 mem:it∈fp
 obj:∀i h,tn i h->∀b∈fp,∃o,h.get? b=some o/\∀v,o.data≠.cell v
 keep:∀i h h',tn i h->(∀b∈fp,∀o,h.get? b=some o->h'.get? b=some o)->tn i h'
 item:∀(X:Cx),X.prog=P->X.w=w->X.K=K->X.calm=true->∀(i:Nat) (pins:Oa) (s:Shared) (σ:St) (H:Hp) (E:Va),Inv X pins σ H s->(∀b∈fp,FX X pins H b)->tn i s.heap->J.go i H->
  wpAny (model P w) X.A (pyNext (.ref it)) (λr s1=>∃u,r=some u/\
   wpAny (model P w) X.A (letOwnedTupleGo tg (.ref it) u) (λ_ s2=>∃x H',Inv X pins σ H' s2/\RelV x u/\J.P8 i H x H'/\tn (i+1) s2.heap/\∀b∈fp,H' b=none) E s1) E s
 done:∀(X:Cx),X.prog=P->X.w=w->X.K=K->X.calm=true->∀(i:Nat) (pins:Oa) (s:Shared) (σ:St) (H:Hp) (E:Va),Inv X pins σ H s->(∀b∈fp,FX X pins H b)->tn i s.heap->J.stop i H->
  wpAny (model P w) X.A (pyNext (.ref it)) (λr s1=>r=none/\Inv X pins σ H s1) E s
 self:∀(A:Around) (i:Nat) (s:Shared) (Q:Va) (E:Va),tn i s.heap->Q (.ref it) s->wpAny (model P w) A (pyIter (.ref it)) Q E s
abbrev TI:=St->Hp->(It->Hp->Prop)->Prop
def je(X:Cx)(pins:Oa)(σ:St)(tg:Expr)(R:It->Hp->Prop)(itv:Value)(s2:Shared):Prop:=
 ∃(it:Addr) (fp:List Addr) (tn:Nat->Heap->Prop) (J:It) (H':Hp),itv= .ref it/\Inv X pins σ H' s2/\Turn X.prog X.w X.K tg J fp it tn/\tn 0 s2.heap/\(∀b∈fp,FX X pins H' b)/\R J H'
def PI(X:Cx)(tg iter:Expr)(wi:TI):Prop:=
 ∀ (pins:Oa) (s:Shared) (σ:St) (H:Hp) (R:It->Hp->Prop),Inv X pins σ H s->wi σ H R->
   (X|||(eval iter X.env)) (λv s1=>(X|||(pyIter v)) (je X pins σ tg R) X.xe s1) X.xe s
theorem KG{E:Va}{s:Shared}{tg:Expr}{it:Addr}{u:Value}{o:Obj}{n:String}{vs:Array Value}{Q:Unit->Shared->Prop}(ho:s.heap.get? it=some o)(hc:o.cls= .type n)(hd:o.data= .fields vs)
 (hn:["enumerate","zip","dict_itemiterator","dict_reverseitemiterator","odict_iterator","itertools.zip_longest","itertools.pairwise"].contains n=false)(hQ:Q () s):wpAny M A (letOwnedTupleGo tg (.ref it) u) Q E s:=by
 unfold letOwnedTupleGo
 cases tg <;>first
  |exact wP hQ
  |(cases u<;>first
   |exact wP hQ
   | (refine wB (wpAny_load ho ?_)
      rw[hc,hd];show wpAny M A (if(["enumerate","zip","dict_itemiterator","dict_reverseitemiterator","odict_iterator","itertools.zip_longest","itertools.pairwise"].contains n && vs[0]? == some (rawInt _))=true then _ else _) Q E s;rw[iN (by intro h;rw[hn,Bool.false_and]at h;cases h)]
      exact wP hQ))
def kj(K:Frag)(a:Addr):It:=
 ⟨λi H=>∃xs x,Ep K H a xs/\xs[i]? =some x,λi H x H'=>H'=H/\∀xs,Ep K H a xs->xs[i]? =some x,λi H=>∃xs,Ep K H a xs/\xs.length<=i⟩
def ki(K:Frag)(a:Addr):It:=
 ⟨λi H=>∃xs x,DF K H a xs/\xs[i]? =some x,λi H x H'=>H'=H/\∀xs,DF K H a xs->xs[i]? =some x,λi H=>∃xs,DF K H a xs/\xs.length<=i⟩
def gw(lo:Int)(n:Nat):It:=⟨λi _=>i < n,λi H x H'=>H'=H/\x= .int (lo+i),λi _=>n<=i⟩
theorem O3{P:Program}{w:World}{K:Frag}{tg:Expr}(a it:Addr):Turn P w K tg (kj K a) [it] it (λi h=>h.IsListIter it a i) where
 mem:=by simp
 obj:=λi h st b hb=>by
  have e:b=it:=by simpa using hb
  subst e;obtain⟨o,e,c,d⟩:=st;exact⟨o,e,λv z=>by rw[d]at z;cases z⟩
 keep:=λi h h' st k=>st.at λo e=>k it (by simp) o e
 item:=by
  intro X hP hw hK hc i pins s σ H E I hf st hg;subst hP hw hK;obtain⟨xs,x,hq,hx⟩:=hg;obtain⟨its,rv,p,hz⟩:=I.list hq;obtain⟨u,hu,ru⟩:=rv.get hx;obtain⟨f0,f1,f2,f3,f4,f5⟩:=hf it (by simp);refine wpAny_pyNext_list_item st p.isList (x:=u) (by simpa using hu) λh' st' sb=>?_
  have I1:Inv X pins σ H {s with heap:=h'}:=I.turned (t':=s.toks) (λb o hb e=>(sb.2 b hb).trans e) f0 f1 f3 f4 f5;obtain⟨o,e,c,d⟩:=id st';exact⟨u,rfl,KG (s:={s with heap:=h'}) e c d (by decide) ⟨x,H,I1,ru,⟨rfl,λys hy=>by rw[I.Kr hy hq];exact hx⟩,st',λb hb=>(hf b hb).1⟩⟩
 done:=by
  intro X hP hw hK hc i pins s σ H E I hf st hg;subst hP hw hK;obtain⟨xs,hq,hx⟩:=hg;obtain⟨its,rv,p,hz⟩:=I.list hq;obtain⟨f0,f1,f2,f3,f4,f5⟩:=hf it (by simp);have hl:=rv.length;exact wpAny_pyNext_list_end (I.ok.hd hc) st p.isList (by simp;lia) λh' eb=>⟨rfl,I.turned (t':=s.toks) (λb o hb e=>eb b o hb e) f0 f1 f3 f4 f5⟩
 self:=λ_ _ _ _ _ st h=>wpAny_pyIter_listiter st h
theorem Lu{P:Program}{w:World}{K:Frag}{tg:Expr}(a it:Addr):Turn P w K tg (ki K a) [it] it (λi h=>h.IsTupleIter it a i) where
 mem:=by simp
 obj:=λi h st b hb=>by
  have e:b=it:=by simpa using hb
  subst e;obtain⟨o,e,c,d⟩:=st;exact⟨o,e,λv z=>by rw[d]at z;cases z⟩
 keep:=λi h h' st k=>st.at λo e=>k it (by simp) o e
 item:=by
  intro X hP hw hK hc i pins s σ H E I hf st hg;subst hP hw hK;obtain⟨xs,x,hq,hx⟩:=hg;obtain⟨its,rv,p,hz⟩:=I.tuple hq;obtain⟨u,hu,ru⟩:=rv.get hx;obtain⟨f0,f1,f2,f3,f4,f5⟩:=hf it (by simp);refine wpAny_pyNext_tuple_item st (show s.heap.IsTuple a its.toArray from p) (x:=u) (by simpa using hu) λh' st' sb=>?_
  have I1:Inv X pins σ H {s with heap:=h'}:=I.turned (t':=s.toks) (λb o hb e=>(sb.2 b hb).trans e) f0 f1 f3 f4 f5;obtain⟨o,e,c,d⟩:=id st';exact⟨u,rfl,KG (s:={s with heap:=h'}) e c d (by decide) ⟨x,H,I1,ru,⟨rfl,λys hy=>by rw[I.O5 hy hq];exact hx⟩,st',λb hb=>(hf b hb).1⟩⟩
 done:=by
  intro X hP hw hK hc i pins s σ H E I hf st hg;subst hP hw hK;obtain⟨xs,hq,hx⟩:=hg;obtain⟨its,rv,p,hz⟩:=I.tuple hq;obtain⟨f0,f1,f2,f3,f4,f5⟩:=hf it (by simp);have hl:=rv.length;exact wpAny_pyNext_tuple_end (I.ok.hd hc) st (show s.heap.IsTuple a its.toArray from p) (by simp;lia) λh' eb=>⟨rfl,I.turned (t':=s.toks) (λb o hb e=>eb b o hb e) f0 f1 f3 f4 f5⟩
 self:=λ_ _ _ _ _ st h=>wpAny_pyIter_tupleiter st h
theorem Lv{P:Program}{w:World}{K:Frag}{tg:Expr}(it:Addr)(lo:Int)(n:Nat):Turn P w K tg (gw lo n) [it] it (λi h=>IsRangeIter h it (lo + (i:Nat) * 1) ((n:Int) - (i:Nat)) 1) where
 mem:=by simp
 obj :=λi h st b hb=>by
  have e:b=it:=by simpa using hb
  subst e
  exact⟨_,st,λv z=>by
   have z':Data.fields _=Data.cell v:=z
   cases z'⟩
 keep:=λi h h' st k=>k it (by simp) _ st
 item:=by
  intro X hP hw hK hc i pins s σ H E I hf st hg;subst hP hw hK;obtain⟨f0,f1,f2,f3,f4,f5⟩:=hf it (by simp);have W:=Walks.range (prog:=X.prog) (w:=X.w) (I.ok.hd hc) it lo 1 n;refine W.item i s _ _ hg st λv h' tk hv st' kk=>?_
  obtain⟨t,rfl⟩:=hv;have I1:Inv X pins σ H {s with heap:=h',toks:=tk}:=I.turned (λb o hb e=>kk b o (by simpa using hb) e) f0 f1 f3 f4 f5;refine⟨_,rfl,KG (s:={s with heap:=h',toks:=tk}) (n:="range_iterator") st' rfl rfl (by decide) ⟨.int (lo+i),H,I1,⟨t,?_⟩,⟨rfl,rfl⟩,st',λb hb=>(hf b hb).1⟩⟩;rw[Int.mul_one]
 done:=by
  intro X hP hw hK hc i pins s σ H E I hf st hg;subst hP hw hK;obtain⟨f0,f1,f2,f3,f4,f5⟩:=hf it (by simp);exact wpAny_pyNext_range_end (I.ok.hd hc) st (by have:n<=i:=hg;lia) λh' eb=>⟨rfl,I.turned (t':=s.toks) (λb o hb e=>eb b o hb e) f0 f1 f3 f4 f5⟩
 self:=λ_ _ _ _ _ st h=>wpAny_pyIter_rangeiter st h
section
variable{tg:Expr}
variable{pins:Oa}{H:Hp}
theorem Q4{σ:St}{s:Shared}{R:It->Hp->Prop}{E:Va}{lo hi:Int}{t u v:Tok}{tk:Nat}(I:Inv X pins σ H s)(h1: -(2 ^ 62)<=lo)(h2:lo < 2 ^ 62)(h3: -(2 ^ 62)<=hi)(h4:hi < 2 ^ 62)
 (q:R (gw lo (hi-lo).toNat) H):(X|||(pyIter (.ref s.heap.objs.size))) (je X pins σ tg R) E {s with heap:=s.heap.push {cls:=.type "range",data:=.fields #[.int lo t,.int hi u,.int 1 v]},toks:=tk}:=by
 refine wpAny_pyIter_range (IsRange.new ..) (small_one h1 h2 h3 h4) ?_;have I1:Inv X pins σ H {s with heap:=s.heap.push {cls:=.type "range",data:=.fields #[.int lo t,.int hi u,.int 1 v]},toks:=tk}:=I.kept λb o e=>gP e
 refine⟨(s.heap.push {cls:=.type "range",data:=.fields #[.int lo t,.int hi u,.int 1 v]}).objs.size,[(s.heap.push {cls:=.type "range",data:=.fields #[.int lo t,.int hi u,.int 1 v]}).objs.size],_,_,H,rfl,
  I1.kept (t':=tk) λb o e=>gP e,Lv _ lo (hi-lo).toNat,?_,λb hb=>?_,q⟩
 .have e1:lo+((0:Nat):Int)*1=lo:=by simp
  have e2:(((hi-lo).toNat:Nat):Int)-((0:Nat):Int)=Builtin.Range.rangeSize lo hi 1:=by rw[rangeSize_one];split<;>lia
  show IsRangeIter _ _ (lo+((0:Nat):Int)*1) ((((hi-lo).toNat:Nat):Int)-((0:Nat):Int)) 1;rw[e1,e2];exact Heap.get?_push_size _ rfl
 .have e:b=(s.heap.push {cls:=.type "range",data:=.fields #[.int lo t,.int hi u,.int 1 v]}).objs.size:=by simpa using hb
  subst e;exact I1.ON (lR) (I1.Aq.fresh (lR))
noncomputable def X2(wi:TI)(g:TG)(tb:TS):TS:=λD σ H=>wi σ H λJ H1=>∃W:Nat->Nat->St->Hp->Prop,(∃m,W 0 m σ H1)/\∀i m σ H,W i m σ H->
 (J.stop i H/\D.nx σ H)\/(J.go i H/\∃N:St->Hp->Prop,(∀σ' H',N σ' H'->∃m',m' < m/\W (i+1) m' σ' H')/\∀x H',J.P8 i H x H'->g x σ H' λσ2 H2=>tb {D with nx:=N,ct:=N,bk:=D.nx} σ2 H2)
def Ja(fp:List Addr)(h:Heap):List (Addr×Obj):=fp.filterMap λb=>(h.get? b).map λo=>(b,o)
variable{fp:List Addr}{h:Heap}
theorem Cc{b:Addr}{o:Obj}(hb:b∈fp)(e:h.get? b=some o):(b,o)∈Ja fp h:=mem_filterMap.mpr ⟨b,hb,by rw[e];rfl⟩
theorem Oq{p:Addr×Obj}(hp:p∈Ja fp h):p.1∈fp/\h.get? p.1=some p.2:=by
 obtain⟨b,hb,e⟩:=mem_filterMap.mp hp;cases q:h.get? b with
 |none=>rw[q]at e;cases e
 |some o=>
   rw[q]at e;have e':(b,o)=p:=Option.some.inj e;subst e';exact⟨hb,q⟩
theorem Inv.pinned{σ:St}{s:Shared}(I:Inv X pins σ H s)(hf:∀b∈fp,FX X pins H b)(ho:∀b∈fp,∃o,s.heap.get? b=some o/\∀v,o.data≠.cell v):Inv X (pins++Ja fp s.heap) σ H s:=
 I.Dk λp hp=>(mZ hp).elim (λz=>I.pin p (mR z)) λz=>by
  obtain⟨hb,e⟩:=Oq z;obtain⟨f0,f1,f2,_⟩:=hf p.1 hb;obtain⟨o,e',d⟩:=ho p.1 hb;rw[e]at e';cases e';exact⟨e,f0,f1,f2,d⟩
theorem Inv.GK{pl:Oa}{σ:St}{s:Shared}(I:Inv X (pins++pl) σ H s):Inv X pins σ H s:=I.Dk λp hp=>I.pin p (mR (mL hp))
theorem Qc{iter:Expr}{body:List Stmt}{wi:TI}{g:TG}{tb:TS}{pos:Pos}(hp:PassesOwn (model X.prog X.w) X.A X.env X.xe)(hc:X.calm=true)(hi:PI X tg iter wi)(hg:PG X tg g)(hb:Lp X body tb)
 (hs:∀x,foldedSetIterable iter X.env x=pure x:=by intro _;rfl):PS X (.For tg iter body [] pos) (X2 wi g tb):=by
 intro pins s σ H D I h;refine wpAny_For (thn (hi pins s σ H _ I h) λv s1 h1=>thn h1 λitv s2 h2=>?_) hs;obtain⟨it,fp,tn,J,H2,e,I2,T,st2,f2,W,⟨m0,w0⟩,turn⟩:=h2;subst e;have stat:∀{H':Hp},(∀b∈fp,H' b=none)->∀b∈fp,FX X pins H' b:=λhn b hb=>⟨hn b hb,(f2 b hb).2⟩
 refine codeAny_forLoop_any (λn s'=>∃i σ' H',Inv X pins σ' H' s'/\tn i s'.heap/\(∀b∈fp,H' b=none)/\W i n σ' H') ?_ m0 ⟨0,σ,H2,I2,st2,λb hb=>(f2 b hb).1,w0⟩
 rintro n s3 ⟨i,σ3,H3,I3,st3,fr3,w3⟩
 rcases turn i n σ3 H3 w3 with⟨stop,qn⟩|⟨go,N,hN,step⟩
 .refine wpAny_passesOwn hp (thn (T.done X rfl rfl rfl hc i pins s3 σ3 H3 X.xe I3 (stat fr3) st3 stop) λr s4 ⟨hr,I4⟩=>?_);subst hr;exact wpAny_execs_nil ⟨σ3,H3,I4,qn⟩
 .refine wpAny_passesOwn hp (thn (T.item X rfl rfl rfl hc i pins s3 σ3 H3 X.xe I3 (stat fr3) st3 go) λr s4 ⟨u,hr,h4⟩=>?_);subst hr;refine wpAny_passesOwn hp (thn h4 λ_ s5 ⟨x,H5,I5,r5,y5,st5,fr5⟩=>?_);have I5':=I5.pinned (stat fr5) (T.obj _ _ st5);refine wpAny_passesOwn hp (thn (hg _ s5 σ3 H5 x u _ I5' r5 (step x H5 y5)) λ_ s6 ⟨σ6,H6,I6,q6⟩=>?_);refine wpAny_passesOwn hp (thn (hb _ s6 σ6 H6 _ I6 q6) λf s7 q7=>?_)
  have again:∀{σ7:St} {H7:Hp},Inv X (pins++Ja fp s5.heap) σ7 H7 s7->N σ7 H7->∃m,m < n/\∃i σ' H',Inv X pins σ' H' s7/\tn i s7.heap/\(∀b∈fp,H' b=none)/\W i m σ' H':=λ{σ7 H7} I7 n7=>by
   obtain⟨m',hm,w7⟩:=hN σ7 H7 n7;refine⟨m',hm,i+1,σ7,H7,I7.GK,T.keep _ _ _ st5 λb hb o e=>(I7.pin (b,o) (mR (mR (Cc hb e)))).1,λb hb=>?_,w7⟩;obtain⟨o,e,d⟩:=T.obj _ _ st5 b hb;exact(I7.pin (b,o) (mR (mR (Cc hb e)))).2.1
  cases f with
  |next=>obtain⟨σ7,H7,I7,n7⟩:=q7;exact again I7 n7
  |cont=>obtain⟨σ7,H7,I7,n7⟩:=q7;exact again I7 n7
  |brk=>obtain⟨σ7,H7,I7,q7⟩:=q7;exact⟨σ7,H7,I7.GK,q7⟩
  |ret v=>obtain⟨x7,σ7,H7,I7,r7,q7⟩:=q7;exact⟨x7,σ7,H7,I7.GK,r7,q7⟩
end
abbrev R2:=V->V->Hp->VK->Prop
def BA(X:Cx)(f:Value->Value->Sem Value)(r:R2):Prop:=
 ∀ (pins:Oa) (s:Shared) (σ:St) (H:Hp) (x y:V) (v u:Value) (Q:VK),Inv X pins σ H s->RelV x v->RelV y u->r x y H Q->
   (X|||(f v u)) (EP X pins σ Q) X.xe s
def HS(X:Cx)(f:Value->Sem Value)(r:V->Hp->VK->Prop):Prop:=
 ∀ (pins:Oa) (s:Shared) (σ:St) (H:Hp) (x:V) (v:Value) (Q:VK),Inv X pins σ H s->RelV x v->r x H Q->
   (X|||(f v)) (EP X pins σ Q) X.xe s
def DB(X:Cx)(f:Value)(r:List V->Hp->VK->Prop):Prop:=
 ∀ (pins:Oa) (s:Shared) (σ:St) (H:Hp) (xs:List V) (us:List Value) (Q:VK),Inv X pins σ H s->Vals xs us->r xs H Q->
   (X|||(call f us)) (EP X pins σ Q) X.xe s
def cX(X:Cx)(r:V->Hp->(Bool->Hp->Prop)->Prop):Prop:=
 ∀ (pins:Oa) (s:Shared) (σ:St) (H:Hp) (x:V) (v:Value) (Q:Bool->Hp->Prop),Inv X pins σ H s->RelV x v->r x H Q->
   (X|||(truthy v)) (TP X pins σ Q) X.xe s
def aI(r:R2)(ta tb:TE):TE:=λσ H Q=>ta σ H λx H1=>tb σ H1 λy H2=>r x y H2 Q
def jv(r:V->Hp->VK->Prop)(ta:TE):TE:=λσ H Q=>ta σ H λx H1=>r x H1 Q
def rI(C:Int->Int->Prop)(g:Int->Int->V):R2:=λx y H Q=>∃i j,x= .int i/\y= .int j/\C i j/\Q (g i j) H
def Wa(g:Int->Int->V):R2:=λx y H Q=>∃i j,x= .int i/\y= .int j/\Q (g i j) H
def rU(g:Int->V):V->Hp->VK->Prop:=λx H Q=>∃i,x= .int i/\Q (g i) H
section
variable{a b c:Expr}{ta tb tc:TE}
theorem Zm(ha:PE X a ta)(hb:PE X b tb){pins:Oa}{s:Shared}{σ:St}{H:Hp}{R:V->V->Hp->Prop}(I:Inv X pins σ H s)
 (h:ta σ H λx H1=>tb σ H1 λy H2=>R x y H2){Q:Va}{f:Value->Value->Sem Value}
 (hf:∀v u s2 x y H2,Inv X pins σ H2 s2->RelV x v->RelV y u->R x y H2->(X|||(f v u)) Q X.xe s2):
 (X|||(eval a X.env)) (λv s₁=>(X|||(eval b X.env)) (λu s₂=>(X|||(f v u)) Q X.xe s₂) X.xe s₁) X.xe s:=by
 refine thn (ha pins s σ H _ I h) λv s1 ⟨x,H1,I1,r1,q1⟩=>?_
 refine thn (hb pins s1 σ H1 _ I1 q1) λu s2 ⟨y,H2,I2,r2,q2⟩=>?_
 exact hf v u s2 x y H2 I2 r1 r2 q2
theorem bh{op:Operator}{r:R2}(ho:BA X (binaryOp op) r)(ha:PE X a ta)(hb:PE X b tb):PE X (.BinOp a op b pos) (aI r ta tb):=by
 intro pins s σ H Q I h;exact wpAny_BinOp (Zm ha hb I h λv u s2 x y H2 I2 rx ry q=>ho pins s2 σ H2 x y v u Q I2 rx ry q)
theorem bf{op:UnaryOp}{r:V->Hp->VK->Prop}(ho:HS X (unaryOp op) r)(ha:PE X a ta):PE X (.UnaryOp op a pos) (jv r ta):=by
 intro pins s σ H Q I h;exact UnaryOp_ (thn (ha pins s σ H _ I h) λv s1 ⟨x,H1,I1,r1,q1⟩=>ho pins s1 σ H1 x v Q I1 r1 q1)
theorem dE{f:Value->Value->Sem Value}{C:Int->Int->Prop}{g:Int->Int->Int}
 (rule:∀(i j:Int) (t u:Tok) (s:Shared) (Q:Va) (E:Va),C i j->Q (.int (g i j) s.toks) {s with toks:=s.toks+1}->(X|||(f (.int i t) (.int j u))) Q E s):
 BA X f (rI C λi j=>.int (g i j)):=by
 intro pins s σ H x y v u Q I rx ry h;obtain⟨i,j,rfl,rfl,hc,q⟩:=h;obtain⟨t,rfl⟩:=rx;obtain⟨t',rfl⟩:=ry;exact rule i j t t' s _ _ hc ⟨.int (g i j),H,I.tok _,⟨_,rfl⟩,q⟩
theorem bD{f:Value->Value->Sem Value}{g:Int->Int->Int}
 (rule:∀(i j:Int) (t u:Tok) (s:Shared) (Q:Va) (E:Va),Q (.int (g i j) s.toks) {s with toks:=s.toks+1}->(X|||(f (.int i t) (.int j u))) Q E s):
 BA X f (Wa λi j=>.int (g i j)):=by
 intro pins s σ H x y v u Q I rx ry h;obtain⟨i,j,rfl,rfl,q⟩:=h;obtain⟨t,rfl⟩:=rx;obtain⟨t',rfl⟩:=ry;exact rule i j t t' s _ _ ⟨.int (g i j),H,I.tok _,⟨_,rfl⟩,q⟩
theorem Uk{f:Value->Value->Sem Value}{g:Int->Int->Bool}
 (rule:∀(i j:Int) (t u:Tok) (s:Shared) (Q:Va) (E:Va),Q (.bool (g i j)) s->(X|||(f (.int i t) (.int j u))) Q E s):
 BA X f (Wa λi j=>.bl (g i j)):=by
 intro pins s σ H x y v u Q I rx ry h;obtain⟨i,j,rfl,rfl,q⟩:=h;obtain⟨t,rfl⟩:=rx;obtain⟨t',rfl⟩:=ry;exact rule i j t t' s _ _ ⟨.bl (g i j),H,I,rfl,q⟩
def gD(i j:Int):Prop:=0 < j/\j < 1073741824
def gC(i j:Int):Prop:=0<=j/\j<=1000000/\i.natAbs < 2 ^ 64
def ZH(i j:Int):Prop:=(-(2 ^ 64) < i/\i < 2 ^ 64)\/(-(2 ^ 64) < j/\j < 2 ^ 64)
theorem ZH.ok{i j:Int}(h:ZH i j):IntMulOk i j:=by
 rcases h with⟨h1,h2⟩|⟨h1,h2⟩
 .exact .of_left (intBits_le_64 h1 h2)
 .exact .of_right (intBits_le_64 h1 h2)
theorem Yc:BA X (binaryOp .Add) (Wa λi j=>.int (i+j)):=bD λ_ _ _ _ _ _ _ q=>add_int q
theorem Y5:BA X (binaryOp .Sub) (Wa λi j=>.int (i-j)):=bD λ_ _ _ _ _ _ _ q=>sub_int q
theorem Y8:BA X (binaryOp .Mult) (rI ZH λi j=>.int (i*j)):=dE λ_ _ _ _ _ _ _ hc q=>mul_int q hc.ok
theorem Ui:BA X (binaryOp .FloorDiv) (rI gD λi j=>.int (i / j)):=dE λi j _ _ _ _ _ hc q=>by
 have h1:(0:Int) < j:=hc.1;have h2:j < 1073741824:=hc.2;exact floordiv_int (by lia) (by rw[Int.fdiv_eq_ediv_of_nonneg i (by lia)];exact q) (.inl (PyProof.noPylong_small (by lia)))
theorem Y9:BA X (binaryOp .Mod) (rI (λ_ j=>0 < j) λi j=>.int (i % j)):=dE λi j _ _ _ _ _ hc q=>by
 have h1:(0:Int) < j:=hc;exact mod_int' (by lia) (by rw[Int.fmod_eq_emod_of_nonneg i (by lia)];exact q)
theorem Y7:BA X (binaryOp .Pow) (rI gC λi j=>.int (i ^ j.toNat)):=dE λ_ _ _ _ _ _ _ hc q=>pow_int_small hc.1 hc.2.1 hc.2.2 q
theorem jn{f:Value->Sem Value}{g:Int->Int}
 (rule:∀(i:Int) (t:Tok) (s:Shared) (Q:Va) (E:Va),Q (.int (g i) s.toks) {s with toks:=s.toks+1}->(X|||(f (.int i t))) Q E s):
 HS X f (rU λi=>.int (g i)):=by
 intro pins s σ H x v Q I rx h;obtain⟨i,rfl,q⟩:=h;obtain⟨t,rfl⟩:=rx;exact rule i t s _ _ ⟨.int (g i),H,I.tok _,⟨_,rfl⟩,q⟩
theorem WN:HS X (unaryOp .USub) (rU λi=>.int (-i)):=jn λ_ _ _ _ _ q=>neg_int q
end
section
variable{a b c:Expr}{ta tb tc:TE}
variable{pins:Oa}{H:Hp}
theorem Mi{σ:St}{s:Shared}{Q:VK}{k k':Bool}(I:Inv X pins σ H s)(q:Q (.bl k) H)(e:k=k'):EP X pins σ Q (.bool k') s:=by
 subst e;exact⟨.bl k,H,I,rfl,q⟩
theorem bw:BA X (compareOp .Lt) (Wa λi j=>.bl (decide (i < j))):=Uk λ_ _ _ _ _ _ _ q=>lt_int q
theorem bx:BA X (compareOp .LtE) (Wa λi j=>.bl (decide (i<=j))):=Uk λ_ _ _ _ _ _ _ q=>le_int q
theorem bz:BA X (compareOp .Gt) (Wa λi j=>.bl (decide (j < i))):=Uk λ_ _ _ _ _ _ _ q=>gt_int q
theorem bB:BA X (compareOp .GtE) (Wa λi j=>.bl (decide (j<=i))):=Uk λ_ _ _ _ _ _ _ q=>ge_int q
theorem Ya:BA X (compareOp .Is) (λx y H Q=>y= .A8/\Q (.bl (decide (x= .A8))) H):=by
 intro pins s σ H x y v u Q I rx ry h;obtain⟨rfl,q⟩:=h;cases ry;refine is_none_gen (Mi I q ?_)
 cases x<;>first
  |(cases rx;rfl)
  |(obtain⟨t,rfl⟩:=rx;rfl)
theorem Uh:BA X (compareOp .IsNot) (λx y H Q=>y= .A8/\Q (.bl (!decide (x= .A8))) H):=by
 intro pins s σ H x y v u Q I rx ry h;obtain⟨rfl,q⟩:=h;cases ry;refine isnot_none_gen (Mi I q ?_)
 cases x<;>first
  |(cases rx;rfl)
  |(obtain⟨t,rfl⟩:=rx;rfl)
def isObj:HO->Bool
 |.lst _=>true
 |.ins _ _ _=>true
 |_=>false
theorem Fy{s:Shared}{σ:St}{a:Addr}{o:HO}(I:Inv X pins σ H s)(h:H a=some o)(p:isObj o=true):∃ob,s.heap.get? a=some ob/\ob.cls≠.type "tuple":=by
 cases o with
 |lst xs=>
   obtain⟨_,its,n,_,e⟩:xs.length<=sizeLine/\∃(its:List Value) (n:Nat),Vals xs its/\s.heap.get? a=some {cls:=.type "list",data:=.seq its.toArray n}:=I.Aq a _ h;exact⟨_,e,(by show Value.type "list"≠.type "tuple";decide +kernel)⟩
 |ins C dx fs=>
   have x:=I.Aq a _ h;obtain⟨_,_,_,e,_⟩:=x;exact⟨_,e,(by show Value.ref C≠.type "tuple";exact λz=>by cases z)⟩
 |_=>exact absurd (show false=true from p) Bool.false_ne_true
variable{r':R2}
theorem BA.or{f:Value->Value->Sem Value}{r:R2}(h:BA X f r)(h':BA X f r'):BA X f (λx y H Q=>r x y H Q\/r' x y H Q):=by
 intro pins s σ H x y v u Q I rx ry q;rcases q with q|q
 .exact h pins s σ H x y v u Q I rx ry q
 .exact h' pins s σ H x y v u Q I rx ry q
variable{op:CmpOp}
theorem Uc{r:R2}(ho:BA X (compareOp op) r)(ha:PE X a ta)(hb:PE X b tb)(hm:behindInMarks op b=false):PE X (.Compare a [op] [b] pos) (aI r ta tb):=by
 intro pins s σ H Q I h;exact wpAny_Compare1 (Zm ha hb I h λv u s2 x y H2 I2 rx ry q=>ho pins s2 σ H2 x y v u Q I2 rx ry q) hm
def VT(t:TE):TT:=λσ H Q=>t σ H λx H'=>∃k,x= .bl k/\Q k H'
theorem U3{r:R2}(ho:BA X (compareOp op) r)(ha:PE X a ta)(hb:PE X b tb)(hm:behindInMarks op b=false):PT X (.Compare a [op] [b] pos) (VT (aI r ta tb)):=by
 intro pins s σ H Q I h
 refine wpAny_isTrue_Compare1 (thn (ha pins s σ H _ I h) λv s1 ⟨x,H1,I1,r1,q1⟩=>thn (hb pins s1 σ H1 _ I1 q1) λu s2 ⟨y,H2,I2,r2,q2⟩=>
  thn (ho pins s2 σ H2 x y v u _ I2 r1 r2 q2) λc s3 ⟨z,H3,I3,r3,k,e,q3⟩=>?_) hm
 subst e;cases r3;exact wpAny_truthy_bool ⟨H3,I3,q3⟩
def Lz(r r':R2)(ta tb tc:TE):TE:=λσ H Q=>ta σ H λx H1=>tb σ H1 λy H2=>r x y H2 λz H3=>∃k,z= .bl k/\
 (if k=true then tc σ H3 λw' H4=>r' y w' H4 Q else Q (.bl false) H3)
variable{op':CmpOp}
theorem Qr{r:R2}(ho:BA X (compareOp op) r)(ho':BA X (compareOp op') r')(ha:PE X a ta)(hb:PE X b tb)(hc:PE X c tc)
 (hm:lastMarks [op,op'] [b,c]=false:=by with_unfolding_all rfl):PE X (.Compare a [op,op'] [b,c] pos) (Lz r r' ta tb tc):=by
 intro pins s σ H Q I h
 refine Compare_chain (thn (ha pins s σ H _ I h) λv s1 ⟨x,H1,I1,r1,q1⟩=>chain_link (thn (hb pins s1 σ H1 _ I1 q1) λu s2 ⟨y,H2,I2,r2,q2⟩=>
  thn (ho pins s2 σ H2 x y v u _ I2 r1 r2 q2) λd s3 ⟨z,H3,I3,r3,k,e,q3⟩=>?_)) hm
 subst e;cases r3;refine wpAny_truthy_bool ?_;cases k with
 |false=>exact ite_ff ⟨.bl false,H3,I3,rfl,q3⟩
 |true=>exact ite_tt (chain_last (thn (hc pins s3 σ H3 _ I3 q3) λw' s4 ⟨z',H4,I4,r4,q4⟩=>ho' pins s4 σ H4 y z' u w' Q I4 r2 r4 q4))
theorem Q9{r:R2}(ho:BA X (compareOp op) r)(ho':BA X (compareOp op') r')(ha:PE X a ta)(hb:PE X b tb)(hc:PE X c tc)
 (hm:lastMarks [op,op'] [b,c]=false:=by with_unfolding_all rfl):PT X (.Compare a [op,op'] [b,c] pos) (VT (Lz r r' ta tb tc)):=by
 intro pins s σ H Q I h
 refine isTrue_chain (thn (ha pins s σ H _ I h) λv s1 ⟨x,H1,I1,r1,q1⟩=>test_link (thn (hb pins s1 σ H1 _ I1 q1) λu s2 ⟨y,H2,I2,r2,q2⟩=>
  thn (ho pins s2 σ H2 x y v u _ I2 r1 r2 q2) λd s3 ⟨z,H3,I3,r3,k,e,q3⟩=>?_)) hm
 subst e;cases r3;refine wpAny_truthy_bool ?_;cases k with
 |false=>
   obtain⟨k',e',q'⟩:=q3;cases e';exact ite_ff ⟨H3,I3,q'⟩
 |true=>
   refine ite_tt (test_last (thn (hc pins s3 σ H3 _ I3 q3) λw' s4 ⟨z',H4,I4,r4,q4⟩=>thn (ho' pins s4 σ H4 y z' u w' _ I4 r2 r4 q4) λd' s5 ⟨z2,H5,I5,r5,k2,e2,q5⟩=>?_));subst e2;cases r5;exact wpAny_truthy_bool ⟨H5,I5,q5⟩
def cW(K:Frag)(x:V)(H:Hp)(k:Bool):Prop:=
 match x with
 |.A8=>k=false
 |.bl b=>k=b
 |.int i=>k=(i != 0)
 |.str y=>y.length<=sizeLine/\k=((y.length:Int) != 0)
 |.ZS y=>y.size<=sizeLine/\k=((y.size:Int) != 0)
 |.ref p=>(∃xs,Ep K H p xs/\k= !xs.isEmpty)\/(∃xs,DF K H p xs/\k= !xs.isEmpty)\/∃kvs,H p=some (.dK kvs)/\k= !kvs.isEmpty
 |_=>False
theorem Md{κ:Type}{kvs:List (κ×V)}{vs:List (κ×Value)}(r:KV kvs vs):(!vs.isEmpty)= !kvs.isEmpty:=by
 cases r<;>rfl
theorem Hn{xs:List V}{its:List Value}(r:Vals xs its):(!its.toArray.isEmpty)= !xs.isEmpty:=by
 cases r<;>simp
theorem Dl:(sizeLine:Nat) < 2 ^ 63:=by rw[sizeLine_eq];decide
theorem WU:cX X (λx H Q=>∃k,cW X.K x H k/\Q k H):=by
 intro pins s σ H x v Q I rx h;obtain⟨k,e,q⟩:=h;have hl:=Dl;have hs:sizeLine=16777216:=sizeLine_eq;cases x with
 |A8=>
   cases rx;have e':k=false:=e;subst e';exact truthy_none ⟨H,I,q⟩
 |bl b=>
   cases rx;have e':k=b:=e;subst e';exact wpAny_truthy_bool ⟨H,I,q⟩
 |int i=>
   obtain⟨t,rfl⟩:=rx;have e':k=(i != 0):=e;subst e';exact PySem.P.truthy_int ⟨H,I,q⟩
 |str y=>
   obtain⟨t,rfl⟩:=rx;obtain⟨hy,e'⟩:y.length<=sizeLine/\k=((y.length:Int) != 0):=e;subst e';exact PySem.P.truthy_str (by lia) ⟨H,I.tok _,q⟩
 |ZS y=>
   obtain⟨t,rfl⟩:=rx;obtain⟨hy,e'⟩:y.size<=sizeLine/\k=((y.size:Int) != 0):=e;subst e';exact PySem.W.truthy_bytes (by lia) ⟨H,I.tok _,q⟩
 |ref p=>
   cases rx;have e':(∃xs,Ep X.K H p xs/\k= !xs.isEmpty)\/(∃xs,DF X.K H p xs/\k= !xs.isEmpty)\/∃kvs,H p=some (.dK kvs)/\k= !kvs.isEmpty:=e;rcases e' with⟨xs,hx,e'⟩|⟨xs,hx,e'⟩|⟨kvs,hx,e'⟩
   .subst e';obtain⟨its,r,pl,hz⟩:=I.list hx;have hlen:=r.length;exact wpAny_truthy_list pl.isList (by simp only[size_toArray];lia) ⟨H,I.tok _,by rw[Hn r];exact q⟩
   .subst e';obtain⟨its,r,pl,hz⟩:=I.tuple hx;have hlen:=r.length;exact truthy_tuple pl (by simp only[size_toArray];lia) ⟨H,I.tok _,by rw[Hn r];exact q⟩
   .subst e';obtain⟨hz,hS,vs,r,m⟩:kvs.length<=sizeLine/\(p == sysModules)=false/\∃vs,KV kvs vs/\s.heap.DictOf (Jk X.prog X.w) p vs:=I.Aq p _ hx;have hlen:kvs.length=vs.length:=Paired.length r;exact wpAny_truthy_dict hS m (by lia) ⟨H,I.tok _,by rw[Md r];exact q⟩
 |_=>exact(show False from e).elim
theorem LO:BA X (binaryOp .Add) (λx y H Q=>∃i j,x= .str i/\y= .str j/\i.length + j.length<=sizeLine/\Q (.str (i++j)) H):=by
 intro pins s σ H x y v u Q I rx ry h;obtain⟨i,j,rfl,rfl,hz,q⟩:=h;obtain⟨t,rfl⟩:=rx;obtain⟨t',rfl⟩:=ry;exact add_str (λt' tk=>⟨.str (i++j),H,I.tok _,⟨_,rfl⟩,q⟩) hz
variable{us:List Value}
theorem vals1{x:V}(r:Vals [x] us):∃u,us=[u]/\RelV x u:=by
 cases r with
 |cons r1 r2=>cases r2;exact⟨_,rfl,r1⟩
theorem vals2{x y:V}(r:Vals [x,y] us):∃u w',us=[u,w']/\RelV x u/\RelV y w':=by
 cases r with
 |cons r1 r2=>
   cases r2 with
   |cons r3 r4=>cases r4;exact⟨_,_,rfl,r1,r3⟩
theorem S6:DB X (.builtin "abs") (λxs H Q=>∃i,xs=[.int i]/\Q (.int (if i < 0 then -i else i)) H):=by
 intro pins s σ H xs us Q I r h;obtain⟨i,rfl,q⟩:=h;obtain⟨u,rfl,t,rfl⟩:=vals1 r;exact call_abs_int λu tk=>⟨.int (if i < 0 then -i else i),H,I.tok _,⟨_,rfl⟩,q⟩
theorem OZ:DB X (.type "int") (λxs H Q=>(∃i,xs=[.int i]/\Q (.int i) H)\/∃k,xs=[.bl k]/\Q (.int (if k then 1 else 0)) H):=by
 intro pins s σ H xs us Q I r h;rcases h with⟨i,rfl,q⟩|⟨k,rfl,q⟩
 .obtain⟨u,rfl,t,rfl⟩:=vals1 r;exact call_int_int ⟨.int i,H,I,⟨_,rfl⟩,q⟩
 .obtain⟨u,rfl,r1⟩:=vals1 r;cases r1;exact call_int_bool ⟨.int (if k then 1 else 0),H,I.tok _,⟨_,rfl⟩,q⟩
end
theorem OD{dx:Addr}{mA:Str->Option Value}(n:h.Ns1 dx mA):∃od,h.get? dx=some od/\∀name,lookIn name od=some (mA name):=by
 obtain⟨o,es,ep,ho,hd,hk,_,hm⟩:=n;refine⟨o,ho,λname=>?_⟩;have e:=hm name;unfold nsFind findBy at e;rw[<-Array.find?_toList]at e;unfold lookIn;rw[hd];dsimp only;split
 .rename_i y q;rw[q]at e;exact congrArg some e
 .rename_i q;rw[q]at e
  have a:es.toList.any (·.refKey)=false:=by
   rw[List.any_eq_false];intro y hy;obtain⟨z,t,hkey⟩:=hk y (Array.mem_toList_iff.mp hy);simp[DictEntry.refKey,hkey]
  have a':¬es.toList.any (·.refKey)=true:=by rw[a];exact Bool.false_ne_true
  rw[iN a'];exact congrArg some e
structure Fh(K:Frag)(C:Addr):Prop where
 pg:PySem.W.plainGet K C Str.empty=true
 hd:hasDictIn K C=true
 po:PySem.W.plainOver K C=true
 sa:findIn K (.ref C) "__setattr__"=some (some (.builtin "object.__setattr__"))
section
variable{pins:Oa}{σ:St}{H:Hp}{s:Shared}{a C dx:Addr}{fs:List (Str×V)}{f:Str}{v:V}{A:Around}{E:Va}
theorem NS{prog:Program}{w:World}{env:Env}{pos:Pos}{s:Shared}{Q:Va}(hb:attributeBase e f env (eval e env)=eval e env)
 (h:wpAny (model prog w) A (eval e env) (λo s₁=>wpAny (model prog w) A (getAttr o f true) Q E s₁) E s):wpAny (model prog w) A (eval (.Attribute e f pos) env) Q E s:=
 Attribute_any_ h (by rw[arm_eval_Attribute,hb])
end
structure Cm(k:Nat)(A:Around):Prop where
 hd:A.handled=none
 dp:A.depth+3*k+5 < recursionLimit
 un:A.units+16*k+200 < cLine
theorem Cm.mono{j k:Nat}(r:Cm k A)(h:j<=k):Cm j A:=⟨r.hd,by have:=r.dp;lia,by have:=r.un;lia⟩
theorem Cm.deeper{k:Nat}(r:Cm (k + 1) A)(env:Env):Cm k (A.deeper env):=
 ⟨r.hd,by have:=r.dp;show A.depth+1+3*k+5 < _;lia,by have:=r.un;show A.units+3+16*k+200 < _;lia⟩
theorem LX{C:Addr}{kw:List (Str×Value)}:(A.under (.builtin "type.__call__" ⟨.ref C::us,kw⟩)).depth=A.depth + 1:=by
 first|rfl|simp[Around.under,Code.weight,Code.isCreation,Code.isGuard,Code.isCaller,Code.frames,Code.isFrame,guardIds]
theorem LW{C:Addr}{kw:List (Str×Value)}:(A.under (.builtin "type.__call__" ⟨.ref C::us,kw⟩)).units=A.units + 1:=by
 first|rfl|simp[Around.under,Code.cUnits,Code.frames,Code.isFrame]
theorem Cm.make{k:Nat}(r:Cm (k + 1) A)(C:Addr)(us:List Value)(kw:List (Str×Value)):Cm k (A.under (.builtin "type.__call__" ⟨.ref C::us,kw⟩)):=
 ⟨r.hd,by have:=r.dp;rw[LX];lia,by have:=r.un;rw[LW];lia⟩
theorem Cm.depth{k:Nat}(r:Cm k A):A.depth < recursionLimit:=by have:=r.dp;lia
def PJ:TA:=λ_ H Q=>Q [] H
def JZ(ta:TE)(tr:TA):TA:=λσ H Q=>ta σ H λx H1=>tr σ H1 λxs H2=>Q (x::xs) H2
variable{e:Expr}{es:List Expr}{te:TE}{t:TA}
theorem BR:PA X [] PJ:=λ_ _ _ _ H Q I h=>Calls.spliced_nil ⟨[],H,I,.nil,h⟩
theorem AU(ha:PE X e te)(hr:PA X es t)(hs:starEach (e::es) X.env=(false,eval e X.env)::starEach es X.env:=by rfl):PA X (e::es) (JZ te t):=by
 intro pos pins s σ H Q I h;rw[hs];show wpAny _ _ (spliced ((false,eval e X.env)::backTo pos (starEach es X.env))) _ _ s;refine Calls.spliced_cons (thn (ha pins s σ H _ I h) λu s1 ⟨x,H1,I1,r1,q1⟩=>?_);exact thn (hr pos pins s1 σ H1 _ I1 q1) λus s2 ⟨xs,H2,I2,r2,q2⟩=>⟨x::xs,H2,I2,.cons r1 r2,q2⟩
def eS(t:TA):TE:=λσ H Q=>t σ H λxs H1=>xs.length<=sizeLine/\∀p,H1 p=none->Q (.ref p) (upd H1 p (.tup xs))
def eU(t:TA):TE:=λσ H Q=>t σ H λxs H1=>xs.length<=sizeLine/\∀p,H1 p=none->Q (.ref p) (upd H1 p (.lst xs))
theorem XJ{x1}(h:PA X es t):PE X (.Tuple es x1 pos) (eS t):=by
 intro pins s σ H Q I hq;refine wpAny_Tuple_spliced (thn (h pos pins s σ H _ I hq) λus s1 ⟨xs,H1,I1,r,z,q⟩=>⟨by rw[<-r.length];exact z,?_⟩);have hf:H1 s1.heap.objs.size=none:=I1.Aq.fresh (lR);refine⟨.ref s1.heap.objs.size,upd H1 s1.heap.objs.size (.tup xs),I1.laid (t':=s1.toks) (λb u e=>gP e) (lR) ?_,rfl,q _ hf⟩;exact⟨z,us,r,⟨_,Heap.get?_push_size _ rfl,rfl,_,rfl⟩⟩
theorem XQ(h:PA X es t):PE X (.List es pos) (eU t):=by
 intro pins s σ H Q I hq;refine wpAny_List_spliced (thn (h pos pins s σ H _ I hq) λus s1 ⟨xs,H1,I1,r,z,q⟩=>⟨by rw[<-r.length];exact z,?_⟩);have hf:H1 s1.heap.objs.size=none:=I1.Aq.fresh (lR);refine⟨.ref s1.heap.objs.size,upd H1 s1.heap.objs.size (.lst xs),I1.laid (t':=s1.toks) (λb u e=>gP e) (lR) ?_,rfl,q _ hf⟩;exact⟨z,us,0,r,Heap.get?_push_size _ rfl⟩
abbrev Sp:=List V->Hp->VK->XK->Prop
abbrev du:=List Env->Hp->Shared->XK->Value->Shared->Prop
structure JQ(P:Program)(w:World)(K:Frag)(mg:Str->Option Value)(base:Heap)(A:Around)(outer:List Env)(s:Shared)(H:Hp):Prop where
 frames:A.frames=some outer
 mod:Mod K mg base
 bs:∀b o,base.get? b=some o->s.heap.get? b=some o/\H b=none
 SV:base.objs.size<=s.heap.objs.size
 EV:s.heap.FunFrames base outer
 Wu:∀b∈CA outer,H b=none
 Aq:DV P w H s.heap
 bare:AllBare s.gens
def CE(outer:List Env)(P:Program)(w:World)(H:Hp)(s:Shared)(Q:VK)(u:Value)(s':Shared):Prop:=
 ∃v H',s'.os=s.os/\AllBare s'.gens/\Un (CA outer) [] H H' s.heap s'.heap/\DV P w H' s'.heap/\RelV v u/\Q v H'
def CR(CX:du)(outer:List Env)(P:Program)(w:World)(H:Hp)(s:Shared)(Q:VK)(E:XK)(r:Result)(s':Shared):Prop:=
 match r with
 |.ok (.ret u)=>CE outer P w H s Q u s'
 |.ok _=>False
 |.error e=>CX outer H s E e s'
structure HF(P:Program)(w:World)(K:Frag)(mg:Str->Option Value)(base:Heap)(CX:du)(k:Nat)(f:Addr)(fd:FuncData)(ps:List Str)(sp:Sp):Prop where
 len:∀vs H Q E,sp vs H Q E->vs.length=ps.length
 run:∀(A:Around) (outer:List Env) (s:Shared) (H:Hp) (args:Args) (us:List Value) (vs:List V) (Q:VK) (E:XK),Cm k A->JQ P w K mg base A outer s H->BindsTo s fd args (ps.zip us)->Vals vs us->sp vs H Q E->
  codeAny (model P w) A (.call (.ref f) args) (CR CX outer P w H s Q E) s
variable{mg:Str->Option Value}{base:Heap}{CX:du}{sp:Sp}
theorem HF.imp{P:Program}{w:World}{K:Frag}{k:Nat}{fd:FuncData}{ps:List Str}{sp':Sp}(F:HF P w K mg base CX k f fd ps sp)
 (h:∀vs H Q E,sp' vs H Q E->sp vs H Q E):HF P w K mg base CX k f fd ps sp':=
 ⟨λvs H Q E q=>F.len vs H Q E (h _ _ _ _ q),λA outer s H args us vs Q E hr he hb hv hs=>F.run A outer s H args us vs Q E hr he hb hv (h _ _ _ _ hs)⟩
section
variable{pins:Oa}{σ:St}{H:Hp}{s s':Shared}
theorem Inv.cI(I:Inv X pins σ H s):JQ X.prog X.w X.K X.mg X.base X.A X.stack s H:=
 ⟨I.ok.frames,I.ok.mod,I.bs,Nat.le_trans I.ok.SV I.sz,I.stack,I.DY,I.Aq,I.bare⟩
theorem Inv.after{Q:VK}(I:Inv X pins σ H s)(h:CE X.stack X.prog X.w H s Q u s'):EP X pins σ Q u s':=by
 obtain⟨v,H',os,bare,un,Aq,r,q⟩:=h;obtain⟨hh,g,d,t,os'⟩:=s';obtain rfl:os'=s.os:=os;exact⟨v,H',I.call (h':=hh) (g':=g) (d':=d) (t':=t) (ch:=[]) un Aq bare (λb z=>absurd z (by simp)),r,q⟩
end
def Binds(K:Frag)(fd:FuncData)(ps:List Str)(ds:List Value):Prop:=
 ∀(s:Shared) (us:List Value),K.In s.heap->(us++ds).length=ps.length->BindsTo s fd ⟨us,[]⟩ (ps.zip (us++ds))
theorem Binds.all{K:Frag}{fd:FuncData}{ps:List Str}(h:∀us:List Value,us.length=ps.length->bindArgs fd ⟨us,[]⟩=pure (ps.zip us)):Binds K fd ps []:=λs us _ hl=>by
 rw[append_nil]at hl ⊢;exact .of_eq (h us hl)
structure Dv(N P:List Str)(sc:Scope):Prop where
 kind:sc.kind= .function
 co:sc.isCoroutine=false
 gen:sc.isGenerator=false
 nd:N.Nodup
 pre:N.take P.length=P
 par:∀x∈P,sc.names.lookup x=some .local\/sc.names.lookup x=some .cell
 Ym:∀y∈sc.names,y.2≠.free
theorem IE{kindOf:Str->Option NameKind}{x:Str}:∀{binds:List (Str×Value)} {m:Str->Option Value},(∀v,(x,v)∉binds)->bindL kindOf binds m x=m x
 |[],_,_=>rfl
 | (n,v)::r,m,h=>by
   unfold bindL;rw[IE λw hw=>h w (mC hw)];split
   .have:x≠n:=by rintro rfl;exact h v mS
    simp[this]
   .rfl
theorem IF{kindOf:Str->Option NameKind}{x:Str}:∀{binds:List (Str×Value)} {m:Str->Option Value},(∀v,(x,v)∉binds)->bindC kindOf binds m x=m x
 |[],_,_=>rfl
 | (n,v)::r,m,h=>by
   unfold bindC;rw[IF λw hw=>h w (mC hw)];split
   .rfl
   .have:x≠n:=by rintro rfl;exact h v mS
    simp[this]
theorem Ee{kindOf:Str->Option NameKind}{x:Str}{v:Value}:∀{P:List Str} {vs:List Value} {i:Nat} {m:Str->Option Value},P.Nodup->P[i]? =some x->vs[i]? =some v->kindOf x=some .local->
 bindL kindOf (P.zip vs) m x=some v
 |[],_,_,_,_,h,_,_=>by simp at h
 |_::_,[],_,_,_,_,h,_=>by simp at h
 | p::P,w::vs,0,m,nd,h1,h2,hk=>by
   simp at h1 h2;subst h1;subst h2;show bindL kindOf ((p,w)::P.zip vs) m p=_;unfold bindL;rw[IE λv hv=>(nodup_cons.mp nd).1 (of_mem_zip hv).1,iP hk];simp
 | p::P,w::vs,i + 1,m,nd,h1,h2,hk=>by
   show bindL kindOf ((p,w)::P.zip vs) m x=_;unfold bindL;exact Ee (i:=i) (nodup_cons.mp nd).2 (by simpa using h1) (by simpa using h2) hk
theorem IG{kindOf:Str->Option NameKind}{x:Str}{v:Value}:∀{P:List Str} {vs:List Value} {i:Nat} {m:Str->Option Value},P.Nodup->P[i]? =some x->vs[i]? =some v->kindOf x≠some .local->
 bindC kindOf (P.zip vs) m x=some v
 |[],_,_,_,_,h,_,_=>by simp at h
 |_::_,[],_,_,_,_,h,_=>by simp at h
 | p::P,w::vs,0,m,nd,h1,h2,hk=>by
   simp at h1 h2;subst h1;subst h2;show bindC kindOf ((p,w)::P.zip vs) m p=_;unfold bindC;rw[IF λv hv=>(nodup_cons.mp nd).1 (of_mem_zip hv).1,iN hk];simp
 | p::P,w::vs,i + 1,m,nd,h1,h2,hk=>by
   show bindC kindOf ((p,w)::P.zip vs) m x=_;unfold bindC;exact IG (i:=i) (nodup_cons.mp nd).2 (by simpa using h1) (by simpa using h2) hk
def start(N:List Str)(vs:List V):St:=vs.map some++List.replicate (N.length-vs.length) none
noncomputable def Mv(CX:du)(P:Program)(w:World)(K:Frag)(mg:Str->Option Value)(base:Heap)(N:List Str)(qual:Str)(scope:Scope)(f:Addr)(cd:Value)(A:Around)(outer:List Env)(s:Shared)(H:Hp)(E:XK):Cx where
 prog:=P
 w:=w
 K:=K
 mg:=mg
 base:=base
 A:=A.deeper (envOfC qual scope s.heap.objs.size f cd)
 N:=N
 s₀:=s
 H₀:=H
 env:=envOfC qual scope s.heap.objs.size f cd
 outer:=outer
 stack:=envOfC qual scope s.heap.objs.size f cd::outer
 ex:=[]
 calm:=true
 fn:=λ_=>true
 pn:=[]
 xe:=λe s'=>wpAny (model P w) (A.deeper (envOfC qual scope s.heap.objs.size f cd)) (leaving (envOfC qual scope s.heap.objs.size f cd) e) (λ_ s''=>CX outer H s E e s'') (λe' s''=>CX outer H s E e' s'') s'
theorem L4{sc:Scope}(h:sc.names.lookup x=some .cell):∃c,(cellsFrom n sc.names []).lookup x=some c:=by
 have q:=cellsFrom_some sc.names n [] (.inl h);exact Option.isSome_iff_exists.mp q
variable{qual:Str}
theorem OJ{P:Program}{w:World}{K:Frag}{N ps:List Str}{scope:Scope}{cd:Value}{outer:List Env}{s s1:Shared}{E:XK}{vs:List V}
 (S:Dv N ps scope)(hd:A.handled=none)(e0:JQ P w K mg base A outer s H)(hl:vs.length=ps.length)(r:Vals vs us)
 (x:InCallC s s.heap.objs.size (bindL (envOfC qual scope s.heap.objs.size f cd).kindOf (ps.zip us) λ_=>none) (cellsFrom (s.heap.objs.size+1) scope.names []) (bindC (envOfC qual scope s.heap.objs.size f cd).kindOf (ps.zip us) λ_=>none) s1):
 Inv (Mv CX P w K mg base N qual scope f cd A outer s H E) [] (start N vs) H s1:=by
 have hpl:ps.length<=N.length:=by have:=congrArg List.length S.pre;rw[length_take]at this;lia
 obtain⟨h1,tk,rfl,hk⟩:=x.done;have dG:∀b:Addr,b∉(Mv CX P w K mg base N qual scope f cd A outer s H E).ex:=λb z=>absurd (show b∈([]:List Addr)from z) (by simp)
 refine⟨⟨e0.mod,S.kind,rfl,rfl,lR,λy z c h1 h2=>?_,λy hy=>?_,λy c _ h=>?_,λ_=>hd,Around.frames_deeper e0.frames,.inr ⟨rfl,rfl⟩,λb z=>absurd z (dG b),e0.bs,e0.SV,λb _ _=>dG b,λb z=>absurd z (dG b),e0.EV,e0.Wu⟩,
  rfl,e0.bare,Un.kept hk,⟨_,x.toInCall.ns,λi y v h1 h2 h3=>?_⟩,λy c h=>⟨_,x.cell y c h⟩,e0.Aq.fresh (lR),λy c h=>?_,λp hp=>absurd (show p∈([]:Oa)from hp) (by simp),e0.Aq.kept hk,?_⟩
 .exact name_of_addr x.apart (PySem.mem_of_lookup h1) (PySem.mem_of_lookup h2)
 .have hy:scope.names.lookup y=some .cell\/scope.names.lookup y=some .free:=hy;rcases hy with hy|hy
  .exact L4 hy
  .exact absurd rfl (S.Ym _ (PySem.mem_of_lookup hy))
 .exact Nat.le_of_lt (x.above y c (PySem.mem_of_lookup h))
 .have hi:i < vs.length:=by
   unfold start at h2
   by_cases hi:i < vs.length
   .exact hi
   .rw[List.getElem?_append_right (by simpa using hi)]at h2;rw[List.getElem?_replicate]at h2;split at h2<;>cases h2
  have ha:vs[i]? =some v:=by
   unfold start at h2;rw[List.getElem?_append_left (by simpa using hi),List.getElem?_map]at h2;cases e:vs[i]? with
   |none=>rw[e]at h2;cases h2
   |some a=>rw[e]at h2;cases h2;rfl
  obtain⟨u,hu,rv⟩:=r.get ha
  have hp:ps[i]? =some y:=by
   rw[<-S.pre,List.getElem?_take_of_lt (by lia)];exact h1
  have ndP:ps.Nodup:=by rw[<-S.pre];exact S.nd.sublist (List.take_sublist _ _)
  refine⟨u,rv,?_⟩;rcases S.par y (mem_of_getElem? hp)with k|k
  .exact .inl ⟨k,Ee ndP hp hu k⟩
  .obtain⟨c,e⟩:=L4 (n:=s.heap.objs.size+1) k;refine .inr ⟨.inl k,c,e,?_⟩;have q:=x.cell y c e;rw[IG ndP hp hu (by show scope.names.lookup y≠_;rw[k];decide)]at q;exact q
 .exact e0.Aq.fresh (Nat.le_of_lt (x.above y c (PySem.mem_of_lookup h)))
 .unfold start;show _=N.length;rw[lA,lM,length_replicate]
  lia
theorem Ry{P:Program}{w:World}{K:Frag}{k:Nat}{name:Str}{params:Arguments}{scope:Scope}{dV kV doc pm cdv ct oc:Value}{an od:Option Addr}
 {osl:Array (Option Value)}{N ps:List Str}(lk:K.lookup f=some ⟨oc,od,.func (fnOf name qual params body scope dV kV doc pm an cdv ct),osl⟩)(hcd:codeIn K cdv qual=true)(S:Dv N ps scope)
 (len:∀vs H Q E,sp vs H Q E->vs.length=ps.length)
 (hbody:∀(A:Around) (outer:List Env) (s:Shared) (H:Hp) (vs:List V) (Q:VK) (E:XK),Cm k (A.deeper (envOfC qual scope s.heap.objs.size f cdv))->sp vs H Q E->
  ∃t,Lp (Mv CX P w K mg base N qual scope f cdv A outer s H E) body t/\t {nx:=λ_ H'=>Q .A8 H',rt:=Q} (start N vs) H):
 HF P w K mg base CX (k+1) f (fnOf name qual params body scope dV kV doc pm an cdv ct) ps sp:=by
 refine⟨len,λA outer s H args us vs Q E hr e0 hb r hsp=>?_⟩;have hl:=len _ _ _ _ hsp;have KX:K.In s.heap:=e0.mod.Dn.keeps λb o e=>(e0.bs b o e).1
 have lim:s.heap.NoLimit:=e0.mod.nolimit.keeps λb o e=>(e0.bs b o e).1
 have hkind:∀y∈ps.zip us,scope.names.lookup y.1=some .local\/(scope.names.lookup y.1=some .cell/\((cellsFrom (s.heap.objs.size + 1) scope.names []).lookup y.1).isSome=true):=λ⟨n,v⟩ hy=>by
  rcases S.par n (of_mem_zip hy).1 with q|q
  .exact .inl q
  .exact .inr ⟨q,cellsFrom_some _ _ _ (.inl q)⟩
 refine codeAny_call_function hr.depth (KX _ _ lk) rfl S.co S.gen rfl (codeRec_of KX hcd) (hb _ _ _ _ ?_);refine wpAny_newFunctionEnv_cells S.kind hkind λenv he s1 x=>?_
 subst he;refine⟨lim.keeps x.toInCall.keep,codeAny_func ?_⟩;obtain⟨t,ht,hq⟩:=hbody A outer s H vs Q E (hr.deeper _) hsp;have I:Inv (Mv CX P w K mg base N qual scope f cdv A outer s H E) [] (start N vs) H s1:=OJ S hr.hd e0 hl r x;refine wpAny_mono (ht [] s1 (start N vs) H _ I hq) (λfl s' hs=>?_) λe s' hs=>hs
 have fin:∀{σ':St} {H':Hp} {v:V} {u:Value},Inv (Mv CX P w K mg base N qual scope f cdv A outer s H E) [] σ' H' s'->RelV v u->Q v H'->CE outer P w H s Q u s':=
  λ{σ' H' v u} J rv q=>⟨v,H',J.os,J.bare,J.base,J.Aq,rv,q⟩
 cases fl with
 |ret u=>
   obtain⟨v,σ',H',J,rv,q⟩:=hs;exact fin J rv q
 |next=>
   obtain⟨σ',H',J,q⟩:=hs;exact fin (v:=V.A8) (u:=Value.none) J rfl q
 |brk=>
   obtain⟨_,_,_,q⟩:=hs;exact False.elim q
 |cont=>
   obtain⟨_,_,_,q⟩:=hs;exact False.elim q
section
variable{x:Str}{p:Pos}{id T:String}{r:List V->Hp->VK->Prop}
def iI(r:List V->Hp->VK->Prop)(t:TA):TE:=λσ H Q=>t σ H λvs H1=>r vs H1 Q
theorem DL(hc:DB X (.builtin id) r)(hg:Gl X x)(hm:X.mg x=none)(hv:bootBuiltins x=some (.builtin id))(ha:PA X (e::es) t)(hn:x≠"__name__":=by decide)(hdb:ng x:=by decide)
 (he:starEach (e::es) X.env=(false,eval e X.env)::starEach es X.env:=by rfl)(hpl:(backTo pos (starEach es X.env)).any (·.1)=false:=by rfl):PE X (.Call (.Name x p) (e::es) [] pos) (iI r t):=by
 intro pins s σ H Q I h;refine wpAny_Call_Name_kw (DO I hg hm hv ?_ hn hdb);exact PyProof.Rows.callWith_builtin1 (thn (ha pos pins s σ H _ I h) λus s1 ⟨vs,H1,I1,r1,q1⟩=>hc pins s1 σ H1 vs us Q I1 r1 q1) he hpl
theorem Ie(hc:DB X (.type T) r)(hg:Gl X x)(hm:X.mg x=none)(hv:bootBuiltins x=some (.type T))(ha:PA X (e::es) t)(hn:x≠"__name__":=by decide)(hdb:ng x:=by decide)
 (he:starEach (e::es) X.env=(false,eval e X.env)::starEach es X.env:=by rfl)(hpl:(backTo pos (starEach es X.env)).any (·.1)=false:=by rfl):PE X (.Call (.Name x p) (e::es) [] pos) (iI r t):=by
 intro pins s σ H Q I h;refine wpAny_Call_Name_kw (DO I hg hm hv ?_ hn hdb);exact PyProof.Rows.callWith_type1 (thn (ha pos pins s σ H _ I h) λus s1 ⟨vs,H1,I1,r1,q1⟩=>hc pins s1 σ H1 vs us Q I1 r1 q1) he hpl
end
end L2
namespace HT
open PySem PyProof.Rows
section
variable{prog:Program}{w:World}{A:Around}{E:Va}{s:Shared}
theorem Vp{vs ws:List Value}{Q:Va}(ht:IsTup s.heap t vs.toArray)(hb:IsTup s.heap b ws.toArray)(hv:vs≠[])
 (h1:ws=[]->Q (.ref t) s)(h2:ws≠[]->Q (.ref s.heap.objs.size) {s with heap:=s.heap.push {cls:=.type "tuple",data:=.seq (vs++ws).toArray}})
 (hsz:vs.length+ws.length<=sizeLine):wpAny (model prog w) A (binaryOp .Add (.ref t) (.ref b)) Q E s:=by
 obtain⟨⟨cls,dd,data,sl⟩,ho,hc,n,hd⟩:=id ht;obtain⟨⟨cls2,dd2,data2,DC⟩,ho2,hc2,n2,hd2⟩:=id hb;simp only at hc hd hc2 hd2;subst hc hd hc2 hd2;have e:vs.toArray++ws.toArray=(vs++ws).toArray:=by simp
 by_cases hw:ws=[]
 .exact concat_meets ⟨_,ho,rfl⟩ ⟨_,ho2,rfl⟩ noFill_tuple_add seq_tuple_add PySem.F.slot_tuple_add PySem.F.entry_tuple_add (PySem.F.args_tuple_add_2 _ _)
   (tuple_addW1 t b vs.toArray ws.toArray n n2 dd dd2 sl DC (by simpa using hv) (by simp[hw])) ⟨ho,ho2,h1 hw⟩
 .refine concat_meets ⟨_,ho,rfl⟩ ⟨_,ho2,rfl⟩ noFill_tuple_add seq_tuple_add PySem.F.slot_tuple_add PySem.F.entry_tuple_add (PySem.F.args_tuple_add_2 _ _)
   (tuple_addW2 t b vs.toArray ws.toArray n n2 dd dd2 sl DC (by simpa using hv) (by simpa using hw) (by rw[size_toArray,size_toArray];exact hsz)) ⟨ho,ho2,?_⟩
  rw[e];exact h2 hw
def BL(n d:Nat):Option Int->Nat
 |none=>d
 |some v=>if v < 0 then(v+(n:Int)).toNat else min v.toNat n
theorem Xu(n d:Nat)(hd:d<=n)(o:Option Int):BL n d o<=n:=by
 cases o with
 |none=>exact hd
 |some v=>
   show(if v < 0 then(v+(n:Int)).toNat else min v.toNat n)<=n
   by_cases hv:v < 0
   .rw[iP hv];lia
   .rw[iN hv];exact Nat.min_le_right _ _
theorem NH(v:Int)(n d:Nat):(if v < 0 then max (v + (n:Int)) 0 else min v (n:Int))=((BL n d (some v):Nat):Int):=by
 show(if v < 0 then max (v+(n:Int)) 0 else min v (n:Int))=(((if v < 0 then(v+(n:Int)).toNat else min v.toNat n):Nat):Int)
 by_cases hv:v < 0
 .simp only[iP hv];lia
 .simp only[iN hv];lia
theorem MC(lo hi:Option Int)(n:Nat):Builtin.Slice.sliceAdjust lo hi 1 (n:Int)=(((BL n 0 lo:Nat):Int),((BL n n hi:Nat):Int)):=by
 have h1:¬((1:Int) < 0):=by lia
 unfold Builtin.Slice.sliceAdjust;simp only[h1,if_false];refine Prod.ext ?_ ?_
 .cases lo with
  |none=>rfl
  |some v=>exact NH v n 0
 .cases hi with
  |none=>rfl
  |some v=>exact NH v n n
theorem LK(i j:Nat):Builtin.Slice.slicePlaces (i:Int) (j:Int) 1=j - i:=by
 unfold Builtin.Slice.slicePlaces;have h1:(1:Int) > 0:=by lia
 simp only[h1,if_true,Int.ediv_one];split<;>lia
theorem GQ{o:Option Int}{Q:Option Int->Shared->Prop}(p:IsPart v o)(h:Q o s):wpAny (model prog w) A (Builtin.Slice.slicePartIndex v) Q E s:=by
 cases p with
 |none=>exact slicePart_none h
 |int i t=>exact slicePart_int h
variable{sl:Addr}{vl vu:Value}
theorem D4{lo hi:Option Int}{n:Nat}{Q:Int×Int×Nat->Shared->Prop}(hs:s.heap.IsSliceOf sl vl vu .none)(pl:IsPart vl lo)(pu:IsPart vu hi)
 (h:Q (((BL n 0 lo:Nat):Int),1,BL n n hi-BL n 0 lo) s):wpAny (model prog w) A (Builtin.Slice.sliceApplied (.ref sl) (pure (n:Int))) Q E s:=by
 obtain⟨os,hos,hcs,hds⟩:=id hs;unfold Builtin.Slice.sliceApplied Builtin.Slice.sliceFields;refine wB (wB (wpAny_field hos hds (x:=vl) rfl (wB (wpAny_field hos hds (x:=vu) rfl (wB (wpAny_field hos hds (x:=.none) rfl (wP ?_)))))));refine wB (slicePart_none ?_);show wpAny _ _ (if((1:Int) == 0)=true then _ else _) _ _ s;rw[iN (by decide)];refine wB (GQ pl (wB (GQ pu (wB (wP ?_)))));show wpAny _ _ (match Builtin.Slice.sliceAdjust lo hi 1 (n:Int)with|(lo,hi)=>pure (lo,(1:Int),Builtin.Slice.slicePlaces lo hi 1)) _ _ s;rw[MC lo hi n];show wpAny _ _ (pure (((BL n 0 lo:Nat):Int),(1:Int),Builtin.Slice.slicePlaces ((BL n 0 lo:Nat):Int) ((BL n n hi:Nat):Int) 1)) _ _ s;rw[LK];exact wP h
theorem Qh(xs:Array Value)(i k:Nat):((List.range k).filterMap λ(m:Nat)=>xs[((i:Int) + (m:Int) * 1).toNat]?).toArray=((xs.toList.drop i).take k).toArray:=by
 have e:(λ(m:Nat)=>xs[((i:Int) + (m:Int) * 1).toNat]?)=λm=>xs[i + m]? :=by
  funext m
  have:((i:Int)+(m:Int)*1).toNat=i+m:=by lia
  rw[this]
 rw[e];have:=pick_run xs i k;rw[List.filterMap_map]at this;have e2:((λx=>xs[x]?) ∘ λx=>i+x)=λm=>xs[i+m]? :=rfl
 rw[e2]at this;rw[this]
theorem ET{items:Array Value}{lo hi:Option Int}{Q:Va}(ht:IsTup s.heap t items)(hs:s.heap.IsSliceOf sl vl vu .none)(pl:IsPart vl lo)(pu:IsPart vu hi)
 (hw:¬(BL items.size 0 lo=0/\BL items.size items.size hi=items.size))
 (h:Q (.ref s.heap.objs.size) {s with heap:=s.heap.push {cls:=.type "tuple",data:=.seq ((items.toList.drop (BL items.size 0 lo)).take (BL items.size items.size hi-BL items.size 0 lo)).toArray}})
 (hsz:items.size<=sizeLine):wpAny (model prog w) A (getItem (.ref t) (.ref sl)) Q E s:=by
 have htake:sizeOk (.seq ((items.toList.drop (BL items.size 0 lo)).take (BL items.size items.size hi - BL items.size 0 lo)).toArray):=by
  show((items.toList.drop (BL items.size 0 lo)).take (BL items.size items.size hi-BL items.size 0 lo)).toArray.size<=sizeLine;rw[size_toArray,length_take,length_drop,Array.length_toList]
  lia
 have hj:BL items.size items.size hi<=items.size:=Xu _ _ (lR) hi;obtain⟨os,hos,hcs,hds⟩:=id hs;have hTs:s.TypeIs (.ref sl) "slice":=⟨os,hos,hcs⟩;unfold getItem
 try with_reducible refine wpAny_holding ?_
 first|refine wB (wP ?_)|skip
 refine wB (wpAny_sequenceKey ht.typeIs (by decide) ?_)
 refine wB (wpAny_callSpecial?_slot (name:=Str.ofString "__getitem__") ht.typeIs PyProof.Rows.slot_tuple_getitem
  (wpAny_call_entry PyProof.Rows.slot_tuple_getitem ht.typeIs entry_tuple_getitem ?_ (args_tuple_getitem _ _)))
 show wpAny _ _ (Builtin.Tuple.tupleItemsOf (.ref t) >>= _) _ _ s;refine wB (tupleItemsOf_ ht ?_);refine wB (wpAny_typeOf hTs ?_);rw[iP (by decide)];refine wB (D4 hs pl pu ?_)
 have hno:¬((((BL items.size 0 lo:Nat):Int) == 0 && (1:Int) == 1 && (BL items.size items.size hi - BL items.size 0 lo) == items.size)=true):=by
  intro q;rw[bA,bA]at q;have q1:((BL items.size 0 lo:Nat):Int)=0:=eq_of_beq q.1.1;have q2:BL items.size items.size hi-BL items.size 0 lo=items.size:=eq_of_beq q.2;exact hw ⟨by lia,by lia⟩
 show wpAny _ _ (if(((BL items.size 0 lo:Nat):Int) == 0 && (1:Int) == 1 && (BL items.size items.size hi-BL items.size 0 lo) == items.size)=true then _ else _) _ _ s;rw[iN hno,Qh]
 first
  |exact wB (m:=Builtin.Tuple.tupleExact _) (wpAny_newObj_type (wP ⟨_,rfl,wP h⟩) htake)
  |exact wB (m:=Builtin.Tuple.tupleExact _) (wpAny_newObj_type (wB (wP (wP ⟨_,rfl,wP h⟩))) htake)
  |exact wB (wB (m:=Builtin.Tuple.tupleExact _) (wpAny_newObj_type (wP (wP ⟨_,rfl,wP h⟩)) htake))
  |exact wB (wB (m:=Builtin.Tuple.tupleExact _) (wpAny_newObj_type (wP ⟨_,rfl,wP h⟩) htake))
end
end HT
namespace L2
open PySem PySem.Spec PyProof.Rows
abbrev TO:=St->Hp->(Option Int->Hp->Prop)->Prop
def PO(X:Cx)(e:Option Expr)(t:TO):Prop:=
 ∀ (pins:Oa) (s:Shared) (σ:St) (H:Hp) (Q:Option Int->Hp->Prop),Inv X pins σ H s->t σ H Q->
   (X|||(evalPart e X.env)) (λu s'=>∃o H',Inv X pins σ H' s'/\IsPart u o/\Q o H') X.xe s
def IM:TO:=λ_ H Q=>Q none H
def JY(t:TE):TO:=λσ H Q=>t σ H λx H1=>∃i,x= .int i/\Q (some i) H1
section
variable{X:Cx}{e:Expr}{te:TE}{lo hi:Option Expr}{tl th:TO}{pos p2:Pos}
theorem N3:PO X none IM:=by
 intro pins s σ H Q I h;rw[evalPart_none];exact wP ⟨none,H,I,.none,h⟩
theorem Gq(h:PE X e te):PO X (some e) (JY te):=by
 intro pins s σ H Q I hw;rw[evalPart_some];refine thn (h pins s σ H _ I hw) λu s1 ⟨x,H1,I1,r1,q1⟩=>?_
 obtain⟨i,rfl,q⟩:=q1;obtain⟨t,rfl⟩:=r1;exact⟨some i,H1,I1,.int i t,q⟩
def ZC(X:Cx)(r:V->Option Int->Option Int->Hp->VK->Prop):Prop:=
 ∀ (pins:Oa) (s:Shared) (σ:St) (H:Hp) (x:V) (v vl vu:Value) (lo hi:Option Int) (sl:Addr) (Q:VK),Inv X pins σ H s->RelV x v->s.heap.IsSliceOf sl vl vu .none->IsPart vl lo->IsPart vu hi->r x lo hi H Q->
   ∃T id,typeLookup (.type T) "__getitem__"=pure (some (.builtin id))/\s.TypeIs v T/\(X|||(getItem v (.ref sl))) (EP X pins σ Q) X.xe s
def dB(r:V->Option Int->Option Int->Hp->VK->Prop)(te:TE)(tl th:TO):TE:=λσ H Q=>te σ H λx H1=>tl σ H1 λl H2=>th σ H2 λu H3=>r x l u H3 Q
theorem H8{r:V->Option Int->Option Int->Hp->VK->Prop}(hr:ZC X r)(he:PE X e te)(hl:PO X lo tl)(hu:PO X hi th):PE X (.Subscript e (.Slice lo hi none p2) pos) (dB r te tl th):=by
 intro pins s σ H Q I h;refine Subscript_ (thn (he pins s σ H _ I h) λv s1 ⟨x,H1,I1,r1,q1⟩=>?_);refine wpAny_Slice (thn (hl pins s1 σ H1 _ I1 q1) λvl s2 ⟨l,H2,I2,pl,q2⟩=>thn (hu pins s2 σ H2 _ I2 q2) λvu s3 ⟨u,H3,I3,pu,q3⟩=>?_);rw[evalPart_none];refine wP ?_;have I4:Inv X pins σ H3 {s3 with heap:=s3.heap.push {cls:=.type "slice",data:=.fields #[vl,vu,.none]}}:=I3.kept (t':=s3.toks) λb ob q=>gP q
 obtain⟨T,id,hT,ht,hg⟩:=hr pins {s3 with heap:=s3.heap.push {cls:=.type "slice",data:=.fields #[vl,vu,.none]}} σ H3 x v vl vu l u s3.heap.objs.size Q I4 r1 (Heap.IsSliceOf.new ..) pl pu q3;show (X|||(subscriptTail e (.Slice lo hi none p2) v (.ref s3.heap.objs.size))) (EP X pins σ Q) X.xe {s3 with heap:=s3.heap.push {cls:=.type "slice",data:=.fields #[vl,vu,.none]}};exact tail_any (ops:=[.ref s3.heap.objs.size,v]) ht hT hg (by with_unfolding_all rfl)
def L0(xs:List V)(lo hi:Option Int):List V:=(xs.drop (HT.BL xs.length 0 lo)).take (HT.BL xs.length xs.length hi-HT.BL xs.length 0 lo)
theorem G7(xs:List V)(lo hi:Option Int):(L0 xs lo hi).length<=xs.length:=by
 unfold L0;rw[length_take,length_drop]
 lia
def eX(K:Frag):V->Option Int->Option Int->Hp->VK->Prop:=λx lo hi H Q=>∃a xs,x= .ref a/\DF K H a xs/\
 ¬(HT.BL xs.length 0 lo=0/\HT.BL xs.length xs.length hi=xs.length)/\∀p,H p=none->Q (.ref p) (upd H p (.tup (L0 xs lo hi)))
theorem Xh:ZC X (eX X.K):=by
 intro pins s σ H x v vl vu lo hi sl Q I rx hs pl pu h;obtain⟨a,xs,rfl,hx,hw,q⟩:=h;cases rx;obtain⟨its,r,ht,hz⟩:=I.tuple hx;have hlen:its.toArray.size=xs.length:=by rw[size_toArray];exact r.length.symm
 refine⟨"tuple",_,PyProof.Rows.slot_tuple_getitem.lookup,ht.typeIs,?_⟩;refine HT.ET ht hs pl pu (by rw[hlen];exact hw) ?_ (by rw[hlen];exact hz);rw[hlen];refine⟨.ref s.heap.objs.size,_,I.laid (t':=s.toks) (o:=.tup (L0 xs lo hi)) (λb ob q=>gP q) (lR) ?_,rfl,q _ (I.Aq.fresh (lR))⟩;exact⟨Nat.le_trans (G7 xs lo hi) hz,_,(r.drop (HT.BL xs.length 0 lo)).take (HT.BL xs.length xs.length hi-HT.BL xs.length 0 lo),IsTup.new _ _⟩
def bc(K:Frag):R2:=λx y H Q=>∃a b xs ys,x= .ref a/\y= .ref b/\DF K H a xs/\DF K H b ys/\xs≠[]/\xs.length + ys.length<=sizeLine/\
 (ys=[]->Q (.ref a) H)/\(ys≠[]->∀p,H p=none->Q (.ref p) (upd H p (.tup (xs++ys))))
theorem Vals.Jj{xs:List V}{us:List Value}(r:Vals xs us):us=[]↔xs=[]:=by
 cases r with
 |nil=>simp
 |cons _ _=>simp
theorem Uj:BA X (binaryOp .Add) (bc X.K):=by
 intro pins s σ H x y v u Q I rx ry h;obtain⟨a,b,xs,ys,rfl,rfl,ha,hb,hx,hz,q1,q2⟩:=h;cases rx;cases ry;obtain⟨its,r1,p1,_⟩:=I.tuple ha;obtain⟨its2,r2,p2,_⟩:=I.tuple hb;refine HT.Vp p1 p2 (λz=>hx (r1.Jj.mp z)) (λz=>⟨.ref a,H,I,rfl,q1 (r2.Jj.mp z)⟩) (λz=>?_) (by rw[<-r1.length,<-r2.length];exact hz);refine⟨.ref s.heap.objs.size,_,I.laid (t':=s.toks) (o:=.tup (xs++ys)) (λb ob q=>gP q) (lR) ?_,rfl,q2 (λw=>z (r2.Jj.mpr w)) _ (I.Aq.fresh (lR))⟩;exact⟨by rw[lA];exact hz,_,r1.append r2,IsTup.new _ _⟩
end
def G5(n:Nat)(i:Int):Option Nat:=if 0<=i then(if i < n then some i.toNat else none)else if -(n:Int)<=i then some (i+n).toNat else none
def ZT{α:Type}(xs:List α)(i:Int):Option α:=(G5 xs.length i).bind λj=>xs[j]?
theorem Nm{n:Nat}{j:Nat}(h:G5 n i=some j):seqIndex? i n=some j/\j < n/\-(n:Int)<=i/\i < n:=by
 unfold G5 at h
 by_cases h0:0<=i
 .rw[iP h0]at h
  by_cases h1:i < n
  .rw[iP h1]at h;have e:i.toNat=j:=Option.some.inj h;exact⟨by rw[seqIndex_of h0 h1,e],by lia,by lia,h1⟩
  .rw[iN h1]at h;cases h
 .rw[iN h0]at h
  by_cases h1: -(n:Int)<=i
  .rw[iP h1]at h;have e:(i+n).toNat=j:=Option.some.inj h;exact⟨by rw[seqIndex_neg (by lia) h1,e],by lia,h1,by lia⟩
  .rw[iN h1]at h;cases h
variable{α:Type}
theorem JO{xs:List α}{v:α}(h:ZT xs i=some v):∃j,seqIndex? i xs.length=some j/\xs[j]? =some v/\j < xs.length/\-(xs.length:Int)<=i/\i < xs.length:=by
 unfold ZT at h;cases e:G5 xs.length i with
 |none=>rw[e]at h;cases h
 |some j=>
   rw[e]at h;obtain⟨h1,h2,h3,h4⟩:=Nm e;exact⟨j,h1,h,h2,h3,h4⟩
def NW(b:Expr):Prop:=∀o i,subscripted b false o i=operate [o,i] (getItem o i)
def SI(X:Cx)(r:R2):Prop:=
 ∀ (value slice:Expr) (pins:Oa) (s:Shared) (σ:St) (H:Hp) (x y:V) (v u:Value) (Q:VK),Inv X pins σ H s->RelV x v->RelV y u->r x y H Q->
   subscripted slice false v u=operate [v,u] (getItem v u)->(X|||(subscriptTail value slice v u)) (EP X pins σ Q) X.xe s
def ZF(X:Cx)(id:String)(r:V->List V->Hp->VK->Prop):Prop:=
 ∀ (pins:Oa) (s:Shared) (σ:St) (H:Hp) (x:V) (xs:List V) (v:Value) (us:List Value) (Q:VK),Inv X pins σ H s->RelV x v->Vals xs us->r x xs H Q->
   (X|||(call (.builtin id) (v::us))) (EP X pins σ Q) X.xe s
section
variable{X:Cx}{a b:Expr}{ta tb:TE}{pos:Pos}
theorem SI.or{r r':R2}(h:SI X r)(h':SI X r'):SI X (λx y H Q=>r x y H Q\/r' x y H Q):=by
 intro value slice pins s σ H x y v u Q I rx ry q hs;rcases q with q|q
 .exact h value slice pins s σ H x y v u Q I rx ry q hs
 .exact h' value slice pins s σ H x y v u Q I rx ry q hs
theorem bj{r:R2}(hr:SI X r)(ha:PE X a ta)(hb:PE X b tb)(hs:NW b):PE X (.Subscript a b pos) (aI r ta tb):=by
 intro pins s σ H Q I h;exact Subscript_ (Zm ha hb I h λv u s2 x y H2 I2 rx ry q=>hr a b pins s2 σ H2 x y v u Q I2 rx ry q (hs _ _))
def b9(K:Frag):R2:=λx y H Q=>∃p xs i v,x= .ref p/\y= .int i/\Ep K H p xs/\ZT xs i=some v/\Q v H
def b7(K:Frag):R2:=λx y H Q=>∃p xs i v,x= .ref p/\y= .int i/\DF K H p xs/\ZT xs i=some v/\Q v H
def b8:R2:=λx y H Q=>∃z i c,x= .str z/\y= .int i/\z.length<=sizeLine/\ZT z.cps.toList i=some c/\Q (.str ⟨#[c]⟩) H
theorem UW:SI X (b9 X.K):=by
 intro value slice pins s σ H x y v u Q I rx ry h hs;obtain⟨p,xs,i,z,rfl,rfl,hq,he,q⟩:=h;cases rx;obtain⟨t,rfl⟩:=ry;obtain⟨its,r,pl,hz⟩:=I.list hq;obtain⟨j,h1,h2,h3,h4,h5⟩:=JO he;obtain⟨w,ew,rw'⟩:=r.get h2;have hl:=r.length;have hn:=Dl;have fin:EP X pins σ Q w s:=⟨z,H,I,rw',q⟩
 by_cases h0:0<=i
 .have hj:i.toNat=j:=by
   rw[seqIndex_of h0 h5]at h1;exact Option.some.inj h1
  exact item_listR pl.isList h0 (by lia) (by rw[hj];simpa using ew) fin hs
 .have hj:(i + (its.toArray.size:Int)).toNat=j:=by
   rw[seqIndex_neg (by lia) h4]at h1;rw[size_toArray,<-hl];exact Option.some.inj h1
  exact subscriptTail_builtinR (x:=w) pl.isList.typeIs slot_list_getitem.lookup
   (wpAny_getItem_list_neg (Q:=λr s'=>r=w/\EP X pins σ Q r s') pl.isList (by lia) (by rw[size_toArray]<;>lia) (by lia) (by rw[hj];simpa using ew) ⟨rfl,fin⟩) hs
theorem YF:SI X (b7 X.K):=by
 intro value slice pins s σ H x y v u Q I rx ry h hs;obtain⟨p,xs,i,z,rfl,rfl,hq,he,q⟩:=h;cases rx;obtain⟨t,rfl⟩:=ry;obtain⟨its,r,pl,hz⟩:=I.tuple hq;obtain⟨j,h1,h2,h3,h4,h5⟩:=JO he;obtain⟨w,ew,rw'⟩:=r.get h2;have hl:=r.length;have hn:=Dl;have fin:EP X pins σ Q w s:=⟨z,H,I,rw',q⟩
 exact subscriptTail_builtinR (x:=w) pl.typeIs slot_tuple_getitem.lookup
  (getItem_tuple (j:=j) (Q:=λr s'=>r=w/\EP X pins σ Q r s') pl (by lia) (by lia) (by rw[size_toArray,<-hl];exact h1) (by simpa using ew) ⟨rfl,fin⟩) hs
theorem YG:SI X b8:=by
 intro value slice pins s σ H x y v u Q I rx ry h hs;obtain⟨z,i,c,rfl,rfl,hz,he,q⟩:=h;obtain⟨t,rfl⟩:=rx;obtain⟨t',rfl⟩:=ry;obtain⟨j,h1,h2,h3,h4,h5⟩:=JO he;have hl:z.cps.toList.length=z.length:=by simp[Str.length]
 rw[hl]at h1 h4 h5;have hn:=Dl
 exact tail_any (typeIs_str s z t) slot_str_getitem.lookup (getItem_str (c:=c) (by
  have e1:decide (i < -(2 ^ 63:Int))=false:=dF (by lia);have e2:decide (i≥2 ^ 63)=false:=dF (by lia)
  rw[e1,e2,Bool.or_false]) (by rw[h1];simpa using h2) ⟨.str ⟨#[c]⟩,H,I.tok _,⟨_,rfl⟩,q⟩) hs
def jM(K:Frag):R2:=λx y H Q=>b9 K x y H Q\/b7 K x y H Q\/b8 x y H Q
theorem YH:SI X (jM X.K):=UW.or (YF.or YG)
theorem LU(its:List Value)(n j:Nat)(u:Value):Obj.mapSeq (·.setIfInBounds j u) {cls:=.type "list",data:=.seq its.toArray n}={cls:=.type "list",data:=.seq (its.set j u).toArray n}:=by
 simp[Obj.mapSeq]
variable{pins:Oa}{H:Hp}{xs:List V}
theorem Inv.lst{σ:St}{s:Shared}(I:Inv X pins σ H s)(h:H p=some (.lst xs)):
 ∃(its:List Value) (n:Nat),Vals xs its/\s.heap.get? p=some {cls:=.type "list",data:=.seq its.toArray n}/\xs.length<=sizeLine:=by
 obtain⟨z,its,n,r,e⟩:=I.Aq p _ h;exact⟨its,n,r,e,z⟩
theorem Inv.Yr{σ:St}{s:Shared}{ys:List V}{its its':List Value}{n n':Nat}{f:Obj->Obj}(I:Inv X pins σ H s)(h:H p=some (.lst xs))
 (ho:s.heap.get? p=some {cls:=.type "list",data:=.seq its.toArray n})(hf:f {cls:=.type "list",data:=.seq its.toArray n}={cls:=.type "list",data:=.seq its'.toArray n'})(r:Vals ys its')(hz:ys.length<=sizeLine)(t:Nat):
 Inv X pins σ (upd H p (.lst ys)) {s with heap:=s.heap.update p f,toks:=t}:=by
 have e:(s.heap.update p f).get? p=some {cls:=.type "list",data:=.seq its'.toArray n'}:=by
  rw[Heap.get?_update_self f ho (by rw[hf]<;>rfl),hf]
 refine I.write (x:=p) (e:=p) (by rw[h];trivial) (.inl rfl) (λb u hb q=>(Heap.get?_update_other _ _ (Ne.symm hb)).trans q) ⟨_,e⟩ ?_;exact⟨hz,its',n',r,e⟩
def aY:V->V->V->Hp->(Hp->Prop)->Prop:=λo i v H Q=>∃p xs k j,o= .ref p/\i= .int k/\H p=some (.lst xs)/\G5 xs.length k=some j/\Q (upd H p (.lst (xs.set j v)))
theorem set_list:ZD X aY:=by
 intro pins s σ H o i v ov iv u Q I ro ri rv h;obtain⟨p,xs,k,j,rfl,rfl,hp,hj,q⟩:=h;cases ro;obtain⟨t,rfl⟩:=ri;obtain⟨its,n,r,ho,hz⟩:=I.lst hp;obtain⟨h1,h2,h3,h4⟩:=Nm hj;have hl:=r.length;have hn:=Dl
 have I':Inv X pins σ (upd H p (.lst (xs.set j v))) {s with heap:=s.heap.update p (Obj.mapSeq (·.setIfInBounds j u))}:=
  I.Yr hp ho (LU its n j u) (r.set rv j) (by rw[length_set];exact hz) s.toks
 by_cases h0:0<=k
 .have hk:k.toNat=j:=by
   rw[seqIndex_of h0 h4]at h1;exact Option.some.inj h1
  exact PySem.W.ki_setAt ho h0 (by lia) (by rw[size_toArray,<-hl];exact h4) (by rw[hk];exact⟨_,I',q⟩)
 .have hk:(k + (its.toArray.size:Int)).toNat=j:=by
   rw[seqIndex_neg (by lia) h3]at h1;rw[size_toArray,<-hl];exact Option.some.inj h1
  exact PySem.W.ki_setBack ho (by lia) (by rw[size_toArray,<-hl];exact h3) (by lia) (by rw[hk];exact⟨_,I',q⟩)
theorem IV(lo hi:Option Int)(n:Nat):(sliceBounds lo hi none n).1=((HT.BL n 0 lo:Nat):Int)/\(sliceBounds lo hi none n).2.1=((HT.BL n n hi:Nat):Int)/\(sliceBounds lo hi none n).2.2=1:=by
 refine⟨?_,?_,rfl⟩
 .cases lo with
  |none=>simp[sliceBounds,HT.BL]
  |some i=>
    simp only[sliceBounds,HT.BL,Option.getD_none,show(1:Int) > 0 by decide,if_true]
    by_cases h:i < 0
    .simp only[h,if_true]<;>lia
    .simp only[h,if_false]<;>lia
 .cases hi with
  |none=>simp[sliceBounds,HT.BL]
  |some i=>
    simp only[sliceBounds,HT.BL,Option.getD_none,show(1:Int) > 0 by decide,if_true]
    by_cases h:i < 0
    .simp only[h,if_true]<;>lia
    .simp only[h,if_false]<;>lia
theorem HK(its:List Value)(lo hi:Option Int):slicePick its.toArray lo hi none=((its.drop (HT.BL its.length 0 lo)).take (HT.BL its.length its.length hi - HT.BL its.length 0 lo)).toArray:=by
 obtain⟨h1,h2,h3⟩:=IV lo hi its.toArray.size;unfold slicePick;rw[h1,h2,h3];simp only[sliceRange_one,pick_run,size_toArray]<;>rfl
def eZ(K:Frag):V->Option Int->Option Int->Hp->VK->Prop:=λx lo hi H Q=>∃a xs,x= .ref a/\Ep K H a xs/\∀p,H p=none->Q (.ref p) (upd H p (.lst (L0 xs lo hi)))
theorem TF:ZC X (eZ X.K):=by
 intro pins s σ H x v vl vu lo hi sl Q I rx hs pl pu h;obtain⟨a,xs,rfl,hx,q⟩:=h;cases rx;obtain⟨its,r,ht,hz⟩:=I.list hx;have hlen:=r.length;refine⟨"list",_,slot_list_getitem.lookup,ht.isList.typeIs,?_⟩;refine wpAny_getItem_list_slice ht.isList hs pl pu .none (by simp) ?_ (by rw[size_toArray]<;>lia);rw[HK,<-hlen];refine⟨.ref s.heap.objs.size,_,I.laid (t':=s.toks) (o:=.lst (L0 xs lo hi)) (λb ob q=>gP q) (lR) ?_,rfl,q _ (I.Aq.fresh (lR))⟩;exact⟨Nat.le_trans (G7 xs lo hi) hz,_,0,(r.drop (HT.BL xs.length 0 lo)).take (HT.BL xs.length xs.length hi-HT.BL xs.length 0 lo),Heap.get?_push_size _ rfl⟩
theorem JG:DB X (.builtin "len") (λxs H Q=>∃p ys,xs=[.ref p]/\(Ep X.K H p ys\/DF X.K H p ys)/\Q (.int ys.length) H):=by
 intro pins s σ H xs us Q I r h;obtain⟨p,ys,rfl,hq,q⟩:=h;obtain⟨u,rfl,rx⟩:=vals1 r;cases rx;have hn:=Dl;rcases hq with hq|hq
 .obtain⟨its,r',pl,hz⟩:=I.list hq;have hlen:=r'.length;exact Calls.call_len_list pl.isList (by simp only[size_toArray]<;>lia) ⟨.int ys.length,H,I.tok _,⟨s.toks+1,by rw[size_toArray,hlen]⟩,q⟩
 .obtain⟨its,r',pl,hz⟩:=I.tuple hq;have hlen:=r'.length;exact len_tuple pl (by simp only[size_toArray]<;>lia) ⟨.int ys.length,H,I.tok _,⟨s.toks+1,by rw[size_toArray,hlen]⟩,q⟩
theorem JF:DB X (.builtin "len") (λxs H Q=>∃z,xs=[.str z]/\z.length<=sizeLine/\Q (.int z.length) H):=by
 intro pins s σ H xs us Q I r h;obtain⟨z,rfl,hz,q⟩:=h;obtain⟨u,rfl,t,rfl⟩:=vals1 r;have hn:=Dl;exact len_str (by lia) ⟨.int z.length,H,I.tok _,⟨_,rfl⟩,q⟩
theorem JE:DB X (.type "list") (λxs H Q=>∃p ys,xs=[.ref p]/\(Ep X.K H p ys\/DF X.K H p ys)/\∀l,H l=none->Q (.ref l) (upd H l (.lst ys))):=by
 intro pins s σ H xs us Q I r h;obtain⟨p,ys,rfl,hq,q⟩:=h;obtain⟨u,rfl,rx⟩:=vals1 r;cases rx
 have fin:∀(its:List Value),Vals ys its->ys.length<=sizeLine->∀(h':Heap) (c':Nat),(∀b o',s.heap.get? b=some o'->h'.get? b=some o')->
  h'.get? s.heap.objs.size=some {cls:=.type "list",dict:=none,data:=.seq its.toArray c',slots:=#[]}->EP X pins σ Q (.ref s.heap.objs.size) {s with heap:=h'}:=λits r' hz h' c' kp e=>
  ⟨.ref s.heap.objs.size,_,I.laid (t':=s.toks) kp (lR) (show BD X.prog X.w _ h' _ (.lst ys)from⟨hz,its,c',r',e⟩),rfl,q _ (I.Aq.fresh (lR))⟩
 rcases hq with hq|hq
 .obtain⟨its,r',pl,hz⟩:=I.list hq;have hlen:=r'.length;obtain⟨o,ho,hc,n,hd⟩:=pl.isList;exact call_list_seq p (.inl rfl) ho hc hd (λh' c' kp e=>fin its r' hz h' c' kp e) (by simp only[size_toArray]<;>lia)
 .obtain⟨its,r',pl,hz⟩:=I.tuple hq;have hlen:=r'.length;obtain⟨o,ho,hc,n,hd⟩:=pl;exact call_list_seq p (.inr rfl) ho hc hd (λh' c' kp e=>fin its r' hz h' c' kp e) (by simp only[size_toArray]<;>lia)
theorem HR:DB X (.type "tuple") (λxs H Q=>∃p ys,xs=[.ref p]/\((Ep X.K H p ys/\∀l,H l=none->Q (.ref l) (upd H l (.tup ys)))\/(DF X.K H p ys/\Q (.ref p) H))):=by
 intro pins s σ H xs us Q I r h;obtain⟨p,ys,rfl,h⟩:=h;obtain⟨u,rfl,rx⟩:=vals1 r;cases rx;rcases h with⟨hq,q⟩|⟨hq,q⟩
 .obtain⟨its,r',pl,hz⟩:=I.list hq;have hlen:=r'.length;refine call_tuple_list pl.isList (λh' kp=>?_) (by simp only[size_toArray]<;>lia);have I1:Inv X pins σ H {s with heap:=h'}:=I.kept (t':=s.toks) kp
  have I2:Inv X pins σ (upd H h'.objs.size (.tup ys)) {s with heap:=h'.push {cls:=.type "tuple",data:=.seq its.toArray}}:=
   I1.laid (t':=s.toks) (λb o e=>gP e) (lR) (show BD X.prog X.w _ _ _ (.tup ys)from⟨hz,its,r',IsTup.new _ _⟩)
  exact⟨.ref h'.objs.size,_,I2,rfl,q _ (I1.Aq.fresh (lR))⟩
 .obtain⟨its,r',pl,hz⟩:=I.tuple hq;exact call_tuple_same pl ⟨.ref p,H,I,rfl,q⟩
def eP(K:Frag)(T:String)(x:V)(H:Hp):Prop:=match x with
 |.str _=>T="str"
 |.int _=>T="int"
 | .ref p=>(T="list"/\∃xs,Ep K H p xs)\/(T="tuple"/\∃o,K.lookup p=some o/\o.cls= .type "tuple"/\o.dict=none)\/
  (T="dict"/\((∃kvs,H p=some (.dK kvs))\/∃kvs,H p=some (.dT kvs)))\/(T="set"/\∃S n,H p=some (.set S n))
 |_=>False
theorem Ls{σ:St}{s:Shared}{T:String}(I:Inv X pins σ H s)(r:RelV x v)(ty:eP X.K T x H):
 s.TypeIs v T/\∀a,v= .ref a->∃ob,s.heap.get? a=some ob/\ob.dict=none:=by
 cases x with
 |str z=>
   obtain⟨t,rfl⟩:=r;cases (show T="str" from ty);exact⟨typeIs_str s z t,λ_ e=>nomatch e⟩
 |int i=>
   obtain⟨t,rfl⟩:=r;cases (show T="int" from ty);exact⟨typeIs_int s i t,λ_ e=>nomatch e⟩
 |ref p =>
   cases r;rcases ty with⟨rfl,xs,hq⟩|⟨rfl,o,hk,hc,hd⟩|⟨rfl,hk⟩|⟨rfl,S,n,hk⟩
   .obtain⟨its,_,pl,_⟩:=I.list hq;refine⟨pl.isList.typeIs,λa e=>?_⟩;cases e;obtain⟨o,n,e,c,hd,_⟩:=pl;exact⟨o,e,hd⟩
   .refine⟨⟨o,I.FF p o hk,hc⟩,λa e=>?_⟩;cases e;exact⟨o,I.FF _ o hk,hd⟩
   .have z:∃o,s.heap.get? p=some o/\o.ExactDict:=by
     rcases hk with⟨kvs,hk⟩|⟨kvs,hk⟩
     .obtain⟨_,_,_,_,o,_,_,e,ex,_⟩:=I.Aq p _ hk;exact⟨o,e,ex⟩
     .obtain⟨_,_,_,_,o,_,_,e,ex,_⟩:=I.Aq p _ hk;exact⟨o,e,ex⟩
    obtain⟨o,e,ex⟩:=z;refine⟨⟨o,e,ex.1⟩,λa e2=>?_⟩;cases e2;exact⟨o,e,ex.2.1⟩
   .obtain⟨o,_,_,_,e,ex,_⟩:=I.Aq p _ hk;refine⟨⟨o,e,ex.1⟩,λa e2=>?_⟩;cases e2;exact⟨o,e,ex.2.1⟩
 |_=>exact False.elim ty
def X3(K:Frag)(T:String)(r:V->List V->Hp->VK->Prop)(to:TE):TE:=λσ H Q=>to σ H λx H1=>eP K T x H1/\r x [] H1 Q
def iJ(K:Frag)(T:String)(r:V->List V->Hp->VK->Prop)(to:TE)(t:TA):TE:=λσ H Q=>to σ H λx H1=>eP K T x H1/\t σ H1 λxs H2=>r x xs H2 Q
variable{o e:Expr}{es:List Expr}{to:TE}{t:TA}{name:Str}{apos cpos:Pos}{T id:String}{r:V->List V->Hp->VK->Prop}
theorem Jd(pa:PlainAttrs T)(slot:Slot T name id)(hty:typeOf (.builtin id)=pure (.type "method_descriptor"))(hm:ZF X id r)(ho:PE X o to)
 (hbase:attributeBase o name X.env (eval o X.env)=eval o X.env:=by rfl)(hline:(apos.endLine == cpos.line)=true:=by rfl):PE X (.Call (.Attribute o name apos) [] [] cpos) (X3 X.K T r to):=by
 intro pins s σ H Q I h;refine wpAny_Call_method0_late hbase hline (thn (ho pins s σ H _ I h) λv s1 ⟨x,H1,I1,r1,ty,q1⟩=>?_);obtain⟨h1,h2⟩:=Ls I1 r1 ty;exact⟨T,id,pa,slot,hty,h1,h2,Calls.callWith_builtin rfl (PySem.evalArgs_none (hm pins s1 σ H1 x [] v [] Q I1 r1 .nil q1))⟩
theorem Wh(pa:PlainAttrs T)(slot:Slot T name id)(hty:typeOf (.builtin id)=pure (.type "method_descriptor"))(hm:ZF X id r)(ho:PE X o to)(ha:PA X (e::es) t)
 (hbase:attributeBase o name X.env (eval o X.env)=eval o X.env:=by rfl)
 (hfew:((backTo cpos (starEach (e::es) X.env)).all (λx=>!x.1) && (backToKw cpos (keywordEach [] X.env)).all (λx=>x.1.isSome)
  && decide ((e::es).length+([]:List Keyword).length+(if([]:List Keyword).isEmpty then 0 else 1) < 30))=true:=by rfl)
 (hline:(apos.endLine == cpos.line)=true:=by rfl)(hs:starEach (e::es) X.env=(false,eval e X.env)::starEach es X.env:=by rfl)(hplain:(backTo cpos (starEach es X.env)).any (·.1)=false:=by rfl):
 PE X (.Call (.Attribute o name apos) (e::es) [] cpos) (iJ X.K T r to t):=by
 intro pins s σ H Q I h;refine wpAny_Call_method_late hbase hfew hline rfl (thn (ho pins s σ H _ I h) λv s1 ⟨x,H1,I1,r1,ty,q1⟩=>?_);obtain⟨h1,h2⟩:=Ls I1 r1 ty;refine⟨T,id,pa,slot,hty,h1,h2,?_⟩;have hA:=ha cpos pins s1 σ H1 _ I1 q1;rw[hs]at hA ⊢;refine Calls.callWith_builtin (by show(false || (backTo cpos (starEach es X.env)).any (·.1))=false;rw[hplain]<;>rfl) (Calls.evalArgs_plain ?_);exact thn hA λus s2 ⟨vs,H2,I2,r2,q2⟩=>hm pins s2 σ H2 x vs v us Q I2 r1 r2 q2
end
def eC(X:Cx)(id:String)(r:V->List V->Hp->VK->Prop):Prop:=
 ∀ (pins:Oa) (s:Shared) (σ:St) (H:Hp) (x:V) (xs:List V) (v:Value) (us:List Value) (Q:VK),Inv X pins σ H s->RelV x v->Vals xs us->r x xs H Q->
   (X|||(call (.builtin id) (v::us))) (EP X pins σ Q) X.xe s
theorem Vals.one:∀{x:V} {us:List Value},Vals [x] us->∃u,us=[u]/\RelV x u
 |_,_,.cons r .nil=>⟨_,rfl,r⟩
theorem Vals.two:∀{x y:V} {us:List Value},Vals [x,y] us->∃u v,us=[u,v]/\RelV x u/\RelV y v
 |_,_,_,.cons r (.cons q .nil)=>⟨_,_,rfl,r,q⟩
theorem Vals.zero:∀{us:List Value},Vals [] us->us=[]
 |_,.nil=>rfl
variable{xs:List V}{us:List Value}
theorem Vals.dropLast(h:Vals xs us):Vals xs.dropLast us.dropLast:=by
 induction h with
 |nil=>exact .nil
 |cons r t ih=>
   cases t with
   |nil=>exact .nil
   |cons q t'=>exact .cons r ih
theorem Vals.reverse(h:Vals xs us):Vals xs.reverse us.reverse:=by
 induction h with
 |nil=>exact .nil
 |cons r t ih=>rw[reverse_cons,reverse_cons];exact Vals.append ih (.cons r .nil)
theorem Vals.rep(h:Vals xs us):∀k:Nat,Vals (List.replicate k xs).flatten (List.replicate k us).flatten
 |0=>.nil
 | k + 1=>by
   rw[replicate_succ,replicate_succ,flatten_cons,flatten_cons];exact Vals.append h (Vals.rep h k)
theorem Mj(l:List α):l.eraseIdx (l.length - 1)=l.dropLast:=by
 induction l with
 |nil=>rfl
 |cons a r ih=>
   cases r with
   |nil=>rfl
   |cons b r=>
     have e:(a::b::r).length - 1=((b::r).length - 1) + 1:=by
      have h1:(a::b::r).length=r.length+2:=rfl;have h2:(b::r).length=r.length+1:=rfl
      lia
     rw[e,List.eraseIdx_cons_succ,ih]
     all_goals rfl
theorem foldl_rep(its:List Value):∀(k:Nat) (acc:List Value),
 List.foldl (λx1 x2=>x1++x2) acc.toArray (List.replicate k its.toArray)=(acc++(List.replicate k its).flatten).toArray
 |0,acc=>by simp
 | k + 1,acc=>by
   have e:acc.toArray++its.toArray=(acc++its).toArray:=by simp
   have e2:(acc++its)++(List.replicate k its).flatten=acc++(List.replicate (k + 1) its).flatten:=by
    rw[replicate_succ,flatten_cons,append_assoc]
   rw[<-e2,<-foldl_rep its k (acc++its),<-e,replicate_succ,List.foldl_cons]
section
variable{X:Cx}{pins:Oa}{σ:St}{H:Hp}{s:Shared}{l b:Addr}{xs ys zs:List V}
variable{its:List Value}{n t':Nat}
theorem Inv.OC{its':List Value}{f:Array Value->Array Value}(I:Inv X pins σ H s)(hH:H l=some (.lst xs))
 (e:s.heap.get? l=some {cls:=.type "list",data:=.seq its.toArray n})(hf:f its.toArray=its'.toArray)(hv:Vals ys its')(hz:ys.length<=sizeLine):
 Inv X pins σ (upd H l (.lst ys)) {s with heap:=s.heap.update l (Obj.mapSeq f),toks:=t'}:=by
 have q:=PySem.IsL.update e f;rw[hf]at q;refine I.write (x:=l) (e:=l) (by rw[hH];exact trivial) (.inl rfl) (λb' u hb hu=>(Heap.get?_update_other s.heap (Obj.mapSeq f) (Ne.symm hb)).trans hu) ⟨_,q⟩ ?_;exact⟨hz,its',_,hv,q⟩
theorem Inv.bS(I:Inv X pins σ H s)(hv:Vals ys its)(hz:ys.length<=sizeLine):
 Inv X pins σ (upd H s.heap.objs.size (.lst ys)) {s with heap:=s.heap.push {cls:=.type "list",data:=.seq its.toArray},toks:=t'}:=
 I.laid (λ_ _ q=>gP q) (lR) ⟨hz,its,0,hv,Heap.get?_push_size _ rfl⟩
theorem Inv.fresh(I:Inv X pins σ H s):H s.heap.objs.size=none:=I.Aq.fresh (lR)
theorem Inv.OB(I:Inv X pins σ H s)(hH:H l=some (.lst xs)):xs.length<=sizeLine/\∃(its:List Value) (n:Nat),Vals xs its/\xs.length=its.length/\s.heap.get? l=some {cls:=.type "list",data:=.seq its.toArray n}:=by
 obtain⟨z,its,n,r,e⟩:=I.Aq l _ hH;exact⟨z,its,n,r,r.length,e⟩
theorem Inv.UK(I:Inv X pins σ H s)(hH:Rd H l (.lst xs)):xs.length<=sizeLine/\∃(its:List Value) (n:Nat),Vals xs its/\xs.length=its.length/\s.heap.get? l=some {cls:=.type "list",data:=.seq its.toArray n}:=by
 obtain⟨z,its,n,r,e⟩:=hH.ok I.Aq;exact⟨z,its,n,r,r.length,e⟩
theorem Hb(h:n<=sizeLine):Builtin.List.listTooLong n=false:=by
 unfold Builtin.List.listTooLong;exact dF (by lia)
end
variable{X:Cx}
def MZ:V->List V->Hp->VK->Prop:=λx vs H Q=>∃l xs y,x= .ref l/\vs=[y]/\H l=some (.lst xs)/\xs.length < sizeLine/\Q .A8 (upd H l (.lst (xs++[y])))
theorem Oy:eC X "list.append" MZ:=by
 intro pins s σ H x vs v us Q I rx rv h;obtain⟨l,xs,y,rfl,rfl,hH,hz,q⟩:=h;cases rx;obtain⟨u,rfl,ru⟩:=rv.one;obtain⟨z,its,n,r,hl,e⟩:=I.OB hH;refine call_meets F.slot_list_append ⟨_,e,rfl⟩ F.entry_list_append (F.args_list_append_2 _ _) (PySem.list_append l its.toArray n u (by rw[size_toArray];lia)) ⟨e,?_⟩;refine⟨.A8,_,I.OC (its':=its++[u]) hH e (by simp) (r.append (.cons ru .nil)) ?_,rfl,q⟩;rw[lA,lS]
 lia
def J0:V->List V->Hp->VK->Prop:=λx vs H Q=>∃l b xs zs,x= .ref l/\vs=[.ref b]/\H l=some (.lst xs)/\Rd H b (.lst zs)/\xs.length+zs.length<=sizeLine/\Q .A8 (upd H l (.lst (xs++zs)))
theorem Ox:eC X "list.extend" J0:=by
 intro pins s σ H x vs v us Q I rx rv h;obtain⟨l,b,xs,zs,rfl,rfl,hH,hB,hz,q⟩:=h;cases rx;obtain⟨u,rfl,ru⟩:=rv.one;cases ru;obtain⟨z,its,n,r,hl,e⟩:=I.OB hH;obtain⟨z2,its2,n2,r2,hl2,e2⟩:=I.UK hB;have hsz:its.toArray.size+its2.toArray.size<=sizeLine:=by rw[size_toArray,size_toArray];lia
 have hlong:¬(!its.toArray.isEmpty && Builtin.List.listTooLong (its.toArray.size + its2.toArray.size))=true:=by
  rw[Hb hsz,Bool.and_false];exact Bool.false_ne_true
 refine call_meets F.slot_list_extend ⟨_,e,rfl⟩ F.entry_list_extend (F.args_list_extend_2 _ _)
  (AutoSeq1.list_extend_list_list_0 l its.toArray n b its2.toArray n2 hlong (by rw[size_toArray];lia) (by lia)) ⟨e,e2,?_⟩
 refine⟨.A8,_,I.OC (its':=its++its2) hH e (by simp) (r.append r2) ?_,rfl,q⟩;rw[lA]
 lia
def XA:V->List V->Hp->VK->Prop:=λx vs H Q=>∃l xs y,x= .ref l/\vs=[]/\H l=some (.lst xs)/\xs[xs.length-1]? =some y/\Q y (upd H l (.lst xs.dropLast))
theorem QK:eC X "list.pop" XA:=by
 intro pins s σ H x vs v us Q I rx rv h;obtain⟨l,xs,y,rfl,rfl,hH,hy,q⟩:=h;cases rx;have hus:=rv.zero;subst hus;obtain⟨z,its,n,r,hl,e⟩:=I.OB hH;obtain⟨u,hu,ru⟩:=r.get hy
 have hy':its.toArray[its.toArray.size - 1]? =some u:=by
  show its.toArray[its.length-1]? =some u;rw[<-Array.getElem?_toList,<-hl];exact hu
 refine call_meets F.slot_list_pop ⟨_,e,rfl⟩ F.entry_list_pop (F.args_list_pop_1 _) (MeetsSeq.list_pop_last l its.toArray n u hy' (by rw[size_toArray];lia)) ⟨e,?_⟩;refine⟨y,_,I.OC (its':=its.dropLast) hH e ?_ r.dropLast ?_,ru,q⟩
 .show its.toArray.eraseIdxIfInBounds (its.toArray.size-1)=its.dropLast.toArray;rw[size_toArray,List.eraseIdxIfInBounds_toArray,Mj]
 .rw[List.length_dropLast]
  lia
def LI:V->List V->Hp->VK->Prop:=λx vs H Q=>∃l xs,x= .ref l/\vs=[]/\H l=some (.lst xs)/\Q .A8 (upd H l (.lst []))
theorem QL:eC X "list.clear" LI:=by
 intro pins s σ H x vs v us Q I rx rv h;obtain⟨l,xs,rfl,rfl,hH,q⟩:=h;cases rx;have hus:=rv.zero;subst hus;obtain⟨z,its,n,r,hl,e⟩:=I.OB hH;refine call_meets F.slot_list_clear ⟨_,e,rfl⟩ F.entry_list_clear (F.args_list_clear_1 _) (AutoSeq1.list_clear_list_0 l its.toArray n (by rw[size_toArray];lia)) ⟨e,?_⟩;exact⟨.A8,_,I.OC (its':=[]) (ys:=[]) hH e rfl .nil (Nat.zero_le _),rfl,q⟩
def fj:R2:=λx y H Q=>∃l b xs zs,x= .ref l/\y= .ref b/\Rd H l (.lst xs)/\Rd H b (.lst zs)/\xs.length+zs.length<=sizeLine/\∀p,H p=none->Q (.ref p) (upd H p (.lst (xs++zs)))
theorem Yb:BA X (binaryOp .Add) fj:=by
 intro pins s σ H x y v u Q I rx ry h;obtain⟨l,b,xs,zs,rfl,rfl,hH,hB,hz,q⟩:=h;cases rx;cases ry;obtain⟨z,its,n,r,hl,e⟩:=I.UK hH;obtain⟨z2,its2,n2,r2,hl2,e2⟩:=I.UK hB;refine PySem.P.add_list e e2 ?_ (by rw[size_toArray,size_toArray];lia);have ea:its.toArray++its2.toArray=(its++its2).toArray:=by simp
 rw[ea];exact⟨.ref _,_,I.bS (t':=s.toks) (r.append r2) (by rw[lA];lia),rfl,q _ I.fresh⟩
def fe:R2:=λx y H Q=>∃l k xs,x= .ref l/\y= .int k/\Rd H l (.lst xs)/\-(2 ^ 63)<=k/\k < 2 ^ 63/\xs.length * k.toNat<=sizeLine/\
 ∀p,H p=none->Q (.ref p) (upd H p (.lst (List.replicate k.toNat xs).flatten))
theorem len_rep(xs:List α)(k:Nat):(List.replicate k xs).flatten.length=k * xs.length:=by
 induction k with
 |zero=>simp
 |succ k ih=>rw[replicate_succ,flatten_cons,lA,ih,Nat.succ_mul,Nat.add_comm]
theorem Y6:BA X (binaryOp .Mult) fe:=by
 intro pins s σ H x y v u Q I rx ry h;obtain⟨l,k,xs,rfl,rfl,hH,h1,h2,hz,q⟩:=h;cases rx;obtain⟨t,rfl⟩:=ry;obtain⟨z,its,n,r,hl,e⟩:=I.UK hH;have hlen:its.toArray.size*k.toNat<=sizeLine:=by rw[size_toArray,<-hl];exact hz
 have hcap:¬its.toArray.size * k.toNat > (2 ^ 63 - 1) / 8:=by
  have:(sizeLine:Nat)<=(2 ^ 63-1)/8:=by decide
  lia
 have hfit:¬(!Builtin.List.listFitsIndex k)=true:=by
  rw[fitsIndex_both h1 h2];exact Bool.false_ne_true
 have hlong:¬Builtin.List.listTooLong (its.toArray.size * k.toNat)=true:=by
  rw[Hb hlen];exact Bool.false_ne_true
 have hnew:List.foldl (λx1 x2=>x1++x2) #[] (List.replicate (if its.toArray.isEmpty=true then 0 else k.toNat) its.toArray)=(List.replicate k.toNat its).flatten.toArray:=by
  have f0:∀m:Nat,List.foldl (λx1 x2=>x1++x2) #[] (List.replicate m its.toArray)=(List.replicate m its).flatten.toArray:=λm=>by
   have:=foldl_rep its m [];rw[nil_append]at this;exact this
  rw[f0];cases its with
  |nil=>simp
  |cons a r'=>rw[iN (by simp)]
 refine wpAny_binaryOp_repeat_ref (T:="list") (U:="int") (by decide) ⟨_,e,rfl⟩ (λs'=>typeIs_int s' k t) noFill_list_mul F.fills_int_mul F.slot_int_rmul repeat_list F.slot_int_index.lookup
  (call_meets F.slot_int_rmul (typeIs_int s k t) F.entry_int_rmul (F.args_int_rmul_2 _ _) (int___rmul___int_list k t l its.toArray n)
   ⟨e,rfl,⟨_,e,rfl⟩,call_meets F.slot_list_mul ⟨_,e,rfl⟩ F.entry_list_mul (F.args_list_mul_2 _ _) (AutoListH.list___mul___list_int_3 l its.toArray n k t hfit hcap hlong) ⟨e,?_⟩⟩)
 rw[hnew];exact⟨.ref _,_,I.bS (t':=s.toks) (r.rep k.toNat) (by rw[len_rep,Nat.mul_comm];exact hz),rfl,q _ I.fresh⟩
section
variable{pins:Oa}{σ:St}{H:Hp}{s:Shared}{a:Addr}{y v:V}{u r:Value}{o:Option V}{A:Around}{E:Va}
theorem Inv.big(I:Inv X pins σ H s):sysModules < s.heap.objs.size:=by
 have h:mainGlobals < s.heap.objs.size:=(I.mod.glob.keeps I.bk).lt;exact Nat.lt_trans (by decide) h
theorem Vh{h':Heap}{t':Nat}{ob:HO}(I:Inv X pins σ H s)(mu:ZV (H a))(hs:Heap.SameBut a s.heap h')(he:∃q,h'.get? a=some q)(new:BD X.prog X.w (upd H a ob) h' a ob):
 Inv X pins σ (upd H a ob) {s with heap:=h',toks:=t'}:=
 I.write (x:=a) (e:=a) mu (.inl rfl) (λb q hb z=>(hs.2 b hb).trans z) he new
end
variable{pos:Pos}
structure M2(X:Cx)(o:Expr)(m:Str)(apos:Pos)(e f:Expr)(cpos:Pos):Prop where
 base:attributeBase o m X.env (eval o X.env)=eval o X.env
 lD:((backTo cpos (starEach [e,f] X.env)).all (λx=>!x.1) && (backToKw cpos (keywordEach [] X.env)).all (λx=>x.1.isSome)
  && decide (([e,f]:List Expr).length+([]:List Keyword).length+(if([]:List Keyword).isEmpty then 0 else 1) < 30))=true
 line:(apos.endLine == cpos.line)=true
 trees:backTo cpos (starEach [e,f] X.env)=[(false,eval e X.env),(false,eval f X.env)]
end L2
namespace Att
open PySem PySem.W PySem.Calls PyProof.Rows
variable{h:Heap}
theorem Gh{P:Params}:∀(ns:List Int) (vs:List Value),WellAll P h vs (ns.map WData.int)->IntsAre vs ns:=by
 intro ns
 induction ns with
 |nil=>
   intro vs w;rw[map_nil]at w;cases w;exact .nil
 |cons n ns ih=>
   intro vs w;rw[map_cons]at w;cases w with
   |cons a b=>
     cases a;exact .cons _ _ (ih _ b)
variable{n:Nat}
theorem Oe{l:OpenLaw}(hn:l.most=some n){P:Params}{args:List WData}{vals:List Value}
 (hpre:l.row.toRowW.claim.pre args=true)(hwl:WellAll P h vals args):
 ∃a vs ns,vals=[Value.ref a]/\args=[WData.list (ns.map WData.int)]/\h.get? a=some {cls:=.type "list",data:=.seq vs.toArray}/\IntsAre vs ns/\ns.length<=n:=by
 have hsh:WShape.hasAll [] args [.list .int]=true:=(pre_splitW hpre).1;have hc:l.pre.holds [] {args:=args}=true:=(pre_splitW hpre).2;obtain⟨d,r,rfl,h1,h2⟩:=hasAllW_cons hsh;obtain rfl:=hasAllW_nil h2;obtain⟨xs,rfl,h3⟩:=hasW_list h1;obtain⟨ns,rfl⟩:=items_int h3
 have hlen:ns.length<=n:=by
  unfold OpenLaw.pre at hc
  have h4:(WTm.not (.lt (.lit (.int (n:Int))) (.len (.arg 0)))).holds [] {args:=[.list (ns.map .int)]}=true:=by
   have h4:=(holds_andW hc).1;rw[hn]at h4;exact h4
  have h5:=condW_of h4 (w_not (w_lt w_lit (w_len_list (w_arg rfl))));rw[lM]at h5;refine Nat.le_of_not_lt λq=>?_
  have q':(n:Int) < ((ns.length:Nat):Int):=by lia
  first
   |(rw[dZ q']at h5;exact absurd h5 (by decide))
   |(simp at h5;lia)
 cases hwl with
 |cons w1 w2=>
   cases w2;cases w1 with
   |list ho hall=>exact⟨_,_,ns,rfl,rfl,ho,Gh ns _ hall,hlen⟩
theorem Oj(l:OpenLaw)(args:List WData):l.row.toRowW.claim.post args (.bool true) args=true:=
 postW_of (r:=l.row.toRowW) (X:=(true == true))
  (show WShape.has [] (.bool true) .bool=true by first|rfl|decide|simp[WShape.has,WShape.arms,WShape.armsAll])
  (show(WTm.eq .res (.lit (.bool true))).value [] {args:=args,res:=some (.bool true),after:=args}=some (.bool (true == true))from w_eq_bool (w_res rfl) w_lit) rfl
theorem Lh{l:OpenLaw}{q:Program}{loose:List Str}{XP:(Str->Option Value)->Heap->Prop}{YP:World->Heap->Prop}{d:DefRec}
 (hn:l.most=some n)(hdf:d.params.defaults=[])
 (call:∀(w:World) (s₀ s₁:Shared) (mg mb:Str->Option Value) (fa:Addr) (o:Obj) (pm cd doc:Value) (a:Addr) (vs:List Value) (ns:List Int),
  Ground q loose [] XP w s₀ mg mb s₁.heap->YP w s₁.heap->
  s₁.heap.get? fa=some o->o.data= .func (docDef d.name d.params d.body d.scope pm cd doc)->s₁.heap.CodeRec cd d.name->mg d.name=some (.ref fa)->
  s₁.heap.get? a=some {cls:=.type "list",data:=.seq vs.toArray}->IntsAre vs ns->ns.length<=n->s₁.gens= #[]->
  codeAny (model l.prog w) callerA (.call (.ref fa) ⟨[.ref a],[]⟩) (λr s'=>r= .ok (.ret (.bool true))/\OldK s₁.heap s'.heap/\s'.os=s₁.os/\AllBare s'.gens) s₁):
 WalkO q loose XP YP l.row.toRowW d [] (λf vs=>PySem.call f vs):=by
 intro w s₀ s₁ mg mb G Y fa o pm cd doc dV kV ho hd hcd hD hmg hg args vals as hpre hlay hrd hwl hlo;obtain rfl:dV= .none:=Dflts.none hD hdf;obtain rfl:kV= .none:=Dflts.noKw hD;obtain⟨a,vs,ns,rfl,rfl,hobj,hints,hlen⟩:=Oe hn hpre hwl;refine enter_call (codeAny_mono (call w s₀ s₁ mg mb fa o pm cd doc a vs ns G Y ho (fd_plain hd) hcd hmg hobj hints hlen hg) λr s' hq=>?_);obtain⟨rfl,h2,h3,h4⟩:=hq;exact⟨.inl ⟨.bool true,.bool true,[],rfl,λ_=>rfl,.bool true,Oj l _,λ_=>⟨List.Pairwise.nil,λ_ hm=>(nomatch hm)⟩⟩,h2,h3,h4⟩
end Att
namespace L2
open PySem PySem.Spec PyProof.Rows
theorem HW:∀{vs:List Value} {ns:List Int},IntsAre vs ns->Vals (ns.map V.int) vs
 |_,_,.nil=>.nil
 |_,_,.cons n t h=>.cons ⟨t,rfl⟩ (HW h)
def inClass(s:Stmt)(j:Nat):Stmt:=match s with
 |.ClassDef _ _ _ body _ _ _ _ _ _ _=>body.getD j (.Pass ⟨0,0,0,0⟩)
 |_=>.Pass ⟨0,0,0,0⟩
def JD(s:Stmt):Arguments:=match s with
 |.FunctionDef _ a _ _ _ _ _ _ _ _=>a
 |_=>{posonlyargs:=[],args:=[],vararg:=none,kwonlyargs:=[],kw_defaults:=[],kwarg:=none,defaults:=[]}
def CB(s:Stmt):List Stmt:=match s with
 |.FunctionDef _ _ b _ _ _ _ _ _ _=>b
 |_=>[]
def Aj(s:Stmt):Scope:=match s with
 |.FunctionDef _ _ _ _ _ _ sc _ _ _=>sc
 |_=>{kind:=.function,names:=[],isGenerator:=false,isCoroutine:=false}
abbrev E0:XK:=λ_ _ _=>False
structure SJ(K:Frag)(x qual:Str)(st:Stmt)(f:Addr)(fd:FuncData):Prop where
 ex:∃(oc:Value) (od:Option Addr) (kV doc pm:Value) (an:Option Addr) (cdv ct:Value) (osl:Array (Option Value)),
   fd=fnOf x qual (JD st) (CB st) (Aj st) .none kV doc pm an cdv ct/\K.lookup f=some ⟨oc,od,.func fd,osl⟩/\codeIn K cdv qual=true
 kp:keepIn K (.ref f)=true
section
variable{P:Program}{w:World}{K:Frag}{mg:Str->Option Value}{base:Heap}
theorem SJ.binds{qual:Str}{st:Stmt}{fd:FuncData}{ps:List Str}(F:SJ K x qual st f fd)
 (h:∀(kV doc pm:Value) (an:Option Addr) (cdv ct:Value) (us:List Value),us.length=ps.length->bindArgs (fnOf x qual (JD st) (CB st) (Aj st) .none kV doc pm an cdv ct) ⟨us,[]⟩=pure (ps.zip us)):Binds K fd ps []:=by
 obtain⟨oc,od,kV,doc,pm,an,cdv,ct,osl,rfl,lk,hcd⟩:=F.ex;exact .all (h kV doc pm an cdv ct)
end
variable{X:Cx}
def DU(H H':Hp):Prop:=∀b o,H b=some o->H' b=some o
theorem DU.refl(H:Hp):DU H H:=λ_ _ h=>h
theorem DU.trans{H H1 H2:Hp}(a:DU H H1)(b:DU H1 H2):DU H H2:=λc o h=>b c o (a c o h)
def HB(cells:List (Str×Addr)):List (Str×NameKind)->List (Str×Addr)->List (Str×Addr)
 |[],cs=>cs
 |(n,k)::r,cs=>if(k == NameKind.free)=true then HB cells r ((n,(cells.lookup n).getD 0)::cs)else HB cells r cs
variable{env:Env}
theorem NG:∀(l:List (Str×NameKind)) (cs:List (Str×Addr)),(∀x∈l,x.2= .free->∃c,env.cells.lookup x.1=some c)->
 (forIn l cs (λ(x:Str×NameKind) (r:List (Str×Addr))=>(match x with|(name,kind)=>if(kind == NameKind.free)=true then(do let a <-cellOf env name;pure (ForInStep.yield ((name,a)::r)))else pure (ForInStep.yield r):Sem _)))=(pure (HB env.cells l cs):Sem _)
 |[],cs,_=>by simp[HB]
 | (n, k)::r,cs,h=>by
   have ih:=λcs'=>NG r cs' λx hx=>h x (mC hx)
   rw[List.forIn_cons]
   by_cases hk:k= .free
   .subst hk;obtain⟨c,e⟩:=h (n,.free) mS rfl
    have hb:(if(NameKind.free == NameKind.free)=true then(do let a <-cellOf env n;pure (ForInStep.yield ((n,a)::cs)))else pure (ForInStep.yield cs):Sem (ForInStep (List (Str×Addr))))=pure (ForInStep.yield ((n,c)::cs)):=by
     have e:env.cells.lookup n=some c:=e;rw[iP (by rfl)];unfold cellOf;rw[e];exact pure_bind _ _
    show((if(NameKind.free == NameKind.free)=true then(do let a <-cellOf env n;pure (ForInStep.yield ((n,a)::cs)))else pure (ForInStep.yield cs):Sem (ForInStep (List (Str×Addr)))) >>= _)=_;rw[hb,pure_bind];refine(ih _).trans ?_;have e:env.cells.lookup n=some c:=e;show _=pure (if(NameKind.free == NameKind.free)=true then HB env.cells r ((n,(env.cells.lookup n).getD 0)::cs)else HB env.cells r cs);rw[iP (by rfl),e];rfl
   .have hb:(k == NameKind.free)=false:=by simpa using hk
    show((if(k == NameKind.free)=true then(do let a <-cellOf env n;pure (ForInStep.yield ((n,a)::cs)))else pure (ForInStep.yield cs):Sem (ForInStep (List (Str×Addr)))) >>= _)=_;rw[iN (by rw[hb];decide),pure_bind];refine(ih _).trans ?_;show _=pure (if(k == NameKind.free)=true then HB env.cells r ((n,(env.cells.lookup n).getD 0)::cs)else HB env.cells r cs);rw[iN (by rw[hb];decide)]
theorem CN{scope:Scope}(h:∀x∈scope.names,x.2= .free->∃c,env.cells.lookup x.1=some c):closureFor scope env=pure (HB env.cells scope.names []):=by
 unfold closureFor;have:=NG (env:=env) scope.names [] h
 first
  |(simp only[bind_pure];exact this)
  |(rw[show(forIn scope.names ([]:List (Str×Addr)) _:Sem _)=_ from this];rfl)
theorem EZ{cells:List (Str×Addr)}{c:Addr}:∀(l:List (Str×NameKind)) (cs:List (Str×Addr)),(∀y∈l,y.2= .free->∃c,cells.lookup y.1=some c)->(∀y d,cs.lookup y=some d->cells.lookup y=some d)->
 (HB cells l cs).lookup x=some c->cells.lookup x=some c
 |[],cs,_,hc,e=>hc x c e
 | (n, k)::r,cs,hl,hc,e=>by
   have hl':∀y∈r,y.2= .free->∃c,cells.lookup y.1=some c:=λy hy=>hl y (mC hy)
   unfold HB at e
   by_cases hk:(k == NameKind.free)=true
   .rw[iP hk]at e;refine EZ r _ hl' (λy d q=>?_) e;obtain⟨d',e'⟩:=hl (n,k) mS (by simpa using hk);rw[lookup_cons]at q;cases hy:y == n with
    |true=>
      rw[hy]at q;have:y=n:=by simpa using hy
      subst this;dsimp only at e';rw[e']at q ⊢;exact q
    |false=>rw[hy]at q;exact hc y d q
   .rw[iN hk]at e;exact EZ r cs hl' hc e
theorem Ed{cells:List (Str×Addr)}{x:Str}:∀(l:List (Str×NameKind)) (cs:List (Str×Addr)),((∃y∈l,y.1=x/\y.2= .free)\/∃c,cs.lookup x=some c)->∃c,(HB cells l cs).lookup x=some c
 | [],cs,h=>by
   rcases h with⟨y,hy,_⟩|h
   .simp at hy
   .exact h
 | (n, k)::r,cs,h=>by
   unfold HB
   by_cases hk:(k == NameKind.free)=true
   .rw [iP hk];refine Ed r _ ?_;rcases h with⟨y,hy,e1,e2⟩|⟨c,h⟩
    .rcases mK hy with q|q
     .refine .inr ?_;subst q;have e1:n=x:=e1;subst e1;exact⟨_,by rw[lookup_cons];simp;rfl⟩
     .exact .inl ⟨y,q,e1,e2⟩
    .refine .inr ?_;rw[lookup_cons];cases hy:x == n with
     |true=>exact⟨_,rfl⟩
     |false=>exact⟨c,h⟩
   .rw [iN hk];refine Ed r cs ?_;rcases h with⟨y,hy,e1,e2⟩|h
    .rcases mK hy with q|q
     .subst q;have e2:k= .free:=e2;subst e2;exact absurd rfl hk
     .exact .inl ⟨y,q,e1,e2⟩
    .exact .inr h
noncomputable def AQ(X:Cx)(N:List Str)(scope:Scope)(C:Addr)(s:Shared)(H:Hp)(fp:List Addr):Cx where
 prog:=X.prog
 w:=X.w
 K:=X.K
 mg:=X.mg
 base:=X.base
 A:=X.A
 N:=N
 s₀:=s
 H₀:=H
 env:=compEnvC scope (HB X.env.cells scope.names []) C X.env
 outer:=X.stack
 stack:=X.stack
 ex:=fp
 calm:=X.calm
 fn:=λ_=>false
 pn:=[]
 xe:=λ_ _=>False
def En(fr:List (Option Nat))(σ:St):St:=fr.map λo=>o.bind λi=>(σ[i]?).join
noncomputable def Mw(N0:List Str)(sc0:Scope)(N:List Str)(scope:Scope)(fr:List (Option Nat)):Bool:=
 (scope.kind == .function) && scope.names.all (λy=>y.2 != .cell) && scope.names.all (λy=>y.2 != .local || scope.names.lookup y.1 == some .local) &&
 scope.names.all (λy=>y.2 != .free || sc0.names.lookup y.1 == some .cell || sc0.names.lookup y.1 == some .free) && (fr.length == N.length) &&
 (List.range fr.length).all λj=>match fr[j]? with
  |some (some i)=>(N[j]? == N0[i]?) && (match N[j]? with|some x=>scope.names.lookup x == some .free|none=>false)
  |_=>true
structure Dw(N0:List Str)(sc0:Scope)(N:List Str)(scope:Scope)(fr:List (Option Nat)):Prop where
 kind:scope.kind= .function
 D1:∀y∈scope.names,y.2≠.cell
 own:∀y∈scope.names,y.2= .local->scope.names.lookup y.1=some .local
 free:∀y∈scope.names,y.2= .free->sc0.names.lookup y.1=some .cell\/sc0.names.lookup y.1=some .free
 len:fr.length=N.length
 FI:∀(j i:Nat),fr[j]? =some (some i)->∃x,N[j]? =some x/\N0[i]? =some x/\scope.names.lookup x=some .free
theorem Dw.of{N0:List Str}{sc0:Scope}{N:List Str}{scope:Scope}{fr:List (Option Nat)}(h:Mw N0 sc0 N scope fr=true):Dw N0 sc0 N scope fr:=by
 unfold Mw at h;simp only[bA,all_eq_true]at h;obtain⟨⟨⟨⟨⟨h1,h2⟩,h3⟩,h4⟩,h5⟩,h6⟩:=h;refine⟨by simpa using h1,λy hy=>by simpa using h2 y hy,λy hy e=>?_,λy hy e=>?_,by simpa using h5,λj i e=>?_⟩
 .have:=h3 y hy;simp[e]at this;exact this
 .have:=h4 y hy;simp[e]at this;exact this
 .have hj:j < fr.length:=(List.getElem?_eq_some_iff.mp e).1;have q:=h6 j (mem_range.mpr hj);rw[e]at q;dsimp only at q;rw[bA]at q;obtain⟨q1,q2⟩:=q;cases ex:N[j]? with
  |none=>rw[ex]at q2;cases q2
  |some x=>
    rw[ex]at q1 q2;exact⟨x,rfl,(by simpa using q1:some x=N0[i]?).symm,by simpa using q2⟩
theorem BS{env:Env}:∀{names:List (Str×NameKind)} {x:Str},names.lookup x=some .free->
 (names.map λ(n,k)=>if(k^^^n&&&env)then(n,NameKind.cell)else(n,k)).lookup x=some .free\/
 (names.map λ(n,k)=>if(k^^^n&&&env)then(n,NameKind.cell)else(n,k)).lookup x=some .cell
 |[],_,h=>by simp at h
 | (n,k)::r,x,h=>by
   have ih:=@BS env r x;show List.lookup x ((if(k^^^n&&&env)=true then(n,NameKind.cell)else(n,k))::_)=_\/List.lookup x ((if(k^^^n&&&env)=true then(n,NameKind.cell)else(n,k))::_)=_;cases hx:x == n with
   |true=>
     simp only[lookup_cons,hx]at h;cases h
     by_cases hc:(NameKind.free == NameKind.free && env.scope.kind == .function && env.kindOf n == some .cell)=true
     .rw[iP hc];right;rw[lookup_cons,hx]
     .rw[iN hc];left;rw[lookup_cons,hx]
   |false=>
     simp only[lookup_cons,hx]at h
     by_cases hc:(k^^^n&&&env)=true
     .rw[iP hc];simp only[lookup_cons,hx];exact ih h
     .rw[iN hc];simp only[lookup_cons,hx];exact ih h
theorem EG{env:Env}:∀{names:List (Str×NameKind)} {x:Str},(∀y∈names,y.2≠.cell)->
 ((names.map λ(n,k)=>if(k^^^n&&&env)then(n,NameKind.cell)else(n,k)).lookup x=some .cell\/
 (names.map λ(n,k)=>if(k^^^n&&&env)then(n,NameKind.cell)else(n,k)).lookup x=some .free)->∃y∈names,y.1=x/\y.2= .free
 |[],_,_,h=>by simp at h
 | (n, k)::r,x,hn,h=>by
   have ih:=@EG env r x λy hy=>hn y (mC hy)
   have hnk:k≠.cell:=hn (n,k) mS
   have h:List.lookup x ((if(k^^^n&&&env)=true then(n,NameKind.cell)else(n,k))::(r.map λ(n,k)=>if(k^^^n&&&env)then(n,NameKind.cell)else(n,k)))=some .cell\/
    List.lookup x ((if(k^^^n&&&env)=true then(n,NameKind.cell)else(n,k))::(r.map λ(n,k)=>if(k^^^n&&&env)then(n,NameKind.cell)else(n,k)))=some .free:=h
   by_cases hc:(k^^^n&&&env)=true
   .rw [iP hc]at h;cases hx:x == n with
    |true=>
      have hk:k= .free:=by
       simp only[bA]at hc;simpa using hc.1.1
      exact⟨(n,k),mS,(by simpa using hx:x=n).symm,hk⟩
    |false=>
      simp only[lookup_cons,hx]at h;obtain⟨y,hy,q⟩:=ih h;exact⟨y,mC hy,q⟩
   .rw[iN hc]at h;cases hx:x == n with
    |true=>
      simp only[lookup_cons,hx,Option.some.injEq]at h;refine⟨(n,k),mS,(by simpa using hx:x=n).symm,?_⟩;rcases h with h|h
      .exact absurd h hnk
      .exact h
    |false=>
      simp only[lookup_cons,hx]at h;obtain⟨y,hy,q⟩:=ih h;exact⟨y,mC hy,q⟩
section
variable{pins:Oa}{σ:St}{H:Hp}{s:Shared}{N:List Str}{scope:Scope}{fr:List (Option Nat)}{fp:List Addr}{C:Addr}
theorem RU(I:Inv X pins σ H s)(ok:Dw X.N X.env.scope N scope fr)(hf:∀b∈fp,FX X pins H b)(hfl:∀b∈fp,b < s.heap.objs.size){h1:Heap}{m:Str->Option Value}{tk:Nat}(hC:s.heap.objs.size<=C)(hns:h1.Ns C m)
 (k:∀b o,s.heap.get? b=some o->h1.get? b=some o):Inv (AQ X N scope C s H fp) [] (En fr σ) H {s with heap:=h1,toks:=tk}:=by
 have Cw:∀y∈scope.names,y.2= .free->∃c,X.env.cells.lookup y.1=some c:=λy hy e=>I.ok.has y.1 (ok.free y hy e)
 have FI:∀{x:Str} {c:Addr},(HB X.env.cells scope.names []).lookup x=some c->X.env.cells.lookup x=some c:=λ{x c} e=>EZ scope.names [] Cw (λy d q=>by simp at q) e
 refine⟨⟨I.ok.mod,ok.kind,I.ok.glob,I.ok.blt,hC,λx y c e1 e2=>I.ok.inj x y c (FI e1) (FI e2),λx hx=>?_,λx c hf' _=>?_,I.ok.hd,I.ok.frames,.inl rfl,λb hb=>⟨?_,λx c e=>?_⟩,I.bs,Nat.le_trans I.ok.SV I.sz,λb o e hb=>?_,λb hb hs=>?_,I.stack,I.DY⟩,
  rfl,I.bare,Un.kept k,⟨m,hns,λj x v e1 e2 e3=>?_⟩,λx c e=>?_,I.Aq.fresh hC,λx c e=>I.CS x c (FI e),λp hp=>?_,I.Aq.kept k,?_⟩
 .obtain⟨y,hy,e1,e2⟩:=EG (env:=X.env) ok.D1 hx;exact Ed scope.names [] (.inl ⟨y,hy,e1,e2⟩)
 .exact absurd hf' (by show ¬(false=true);decide)
 .exact Nat.ne_of_lt (Nat.lt_of_lt_of_le (hfl b hb) hC)
 .exact(hf b hb).2.2.2.2.1 x c (FI e)
 .rcases(hf b hb).2.2.2.1 with z|z
  .exact I.ok.Ot b o e z
  .exact absurd (Nat.lt_of_lt_of_le (Heap.lt_size e) (Nat.le_trans I.ok.SV z)) (Nat.lt_irrefl _)
 .rcases mK (I.GP b hs)with e|e
  .exact(hf b hb).2.1 e
  .exact(hf b hb).2.2.1 e
 .have e2:(fr.map λo=>o.bind λi=>(σ[i]?).join)[j]? =some (some v):=e2;rw[List.getElem?_map]at e2;cases ef:fr[j]? with
  |none=>rw[ef]at e2;cases e2
  |some o=>
    rw[ef]at e2;have e2:(o.bind λi=>(σ[i]?).join)=some v:=Option.some.inj e2;cases o with
    |none=>cases e2
    |some i=>
      have e2:(σ[i]?).join=some v:=e2
      have eσ:σ[i]? =some (some v):=by
       cases q:σ[i]? with
       |none=>rw[q]at e2;cases e2
       |some z=>rw[q]at e2;exact congrArg some e2
      obtain⟨x',n1,n2,fx⟩:=ok.FI j i ef;have:x'=x:=Option.some.inj (n1.symm.trans e1);subst this;have hsc:=ok.free _ (PySem.mem_of_lookup fx) rfl;obtain⟨m0,hn0,hl0⟩:=I.loc;obtain⟨u,r,l⟩:=hl0 i x' v n2 eσ (by rcases hsc with z|z;exact .inr (.inl z);exact .inr (.inr z));refine⟨u,r,?_⟩;rcases l with⟨q,_⟩|⟨_,c,ec,⟨oc,hoc,hod⟩⟩
      .have q:X.env.scope.names.lookup x'=some .local:=q;rcases hsc with z|z
       .rw[z]at q;cases q
       .rw[z]at q;cases q
      .obtain⟨c',e'⟩:=Ed (cells:=X.env.cells) scope.names [] (.inl ⟨_,PySem.mem_of_lookup fx,rfl,rfl⟩);have:c'=c:=Option.some.inj ((FI e').symm.trans ec);subst this;refine .inr ⟨?_,c',e',oc,k _ _ hoc,hod⟩;rcases BS (env:=X.env) fx with z|z
       .exact .inr z
       .exact .inl z
 .obtain⟨v,oc,hoc,hod⟩:=I.cell x c (FI e);exact⟨v,oc,k _ _ hoc,hod⟩
 .exact absurd (show p∈([]:Oa)from hp) (by simp)
 .unfold En;rw[lM];exact ok.len
theorem Inv.au{xs:List V}{its:List Value}{n:Nat}(I:Inv X pins σ H s)(hD:FX X pins H D)(hz:xs.length<=sizeLine)(r:Vals xs its)(e:s.heap.get? D=some {cls:=.type "list",data:=.seq its.toArray n}):
 Inv X pins σ (upd H D (.lst xs)) s:=by
 have hn:=hD.1;have ne:∀b u,H b=some u->b≠D:=λb u q=>Bb q hn
 refine I.step (h':=s.heap) (g':=s.gens) (d':=s.drawn) (t':=s.toks) (ch:=[D]) (λb hb=>?_) (λb o _ _ _ q _=>q) (λb o _ _ _ q _=>⟨o.slots,q⟩) (λb o hb _ q=>?_) (λb o _ q=>⟨o,q⟩)
  (λb xs q=>by rw[Ac (ne b _ q)];exact q) (λb o u q=>by rw[Ac (ne b _ q)];exact q) (λb ps q=>⟨#[],by rw[Ac (ne b _ q),q];simp⟩) (λm q=>q) (λb u q=>?_) I.bare
 .have:b=D:=by simpa using hb
  subst this;exact⟨hD.2.2.2.1,hD.2.1,hD.2.2.2.2.1,hD.2.2.2.2.2⟩
 .rw[Ac (λz=>hb (by simp[z]))];exact q
 .by_cases hb:b=D
  .subst hb;rw[Ag]at q;cases q;exact⟨hz,its,n,r,e⟩
  .rw[Ac hb]at q;exact(I.Aq b u q).CW (λc v _ z=>z) (λc z=>by rw[Ac (ne c _ z)];exact z) λc xs z=>by rw[Ac (ne c _ z)];exact z
def CompEnd(X:Cx)(pins:Oa)(σ:St)(Q:List V->Hp->Prop)(acc:Value)(C:Addr)(r:Result)(s':Shared):Prop:=
 r= .ok .next/\∃(D:Addr) (H':Hp) (xs:List V),acc= .ref D/\H' D=none/\Inv X pins σ (upd H' D (.lst xs)) s'/\(∃m,s'.heap.Ns C m)/\FX X pins (upd H' D (.lst xs)) C/\Q xs H'
end
end L2
namespace PySem
open Sem (wp)
open AutoSeq1 (wpAny_loadPart')
namespace RV
theorem Ob:Slot "reversed" "__init__" "object.__init__":=
 .of (owner:="object") (n:="__init__") (by rw[typeLookup_type,builtinLookup_eq_fast];kernel_rfl) (by decide +kernel) (by decide +kernel) (by decide +kernel)
  (by first|exact .inl (by decide +kernel)|exact .inr (by decide +kernel)) (by rw[isSubtype_type];kernel_rfl)
theorem Mz:TypeCalled "reversed" "reversed.__new__" "object.__init__":=
 ⟨by decide +kernel,by decide +kernel,⟨_,_,F.mro_reversed⟩,F.made_reversed,by decide +kernel,F.sub_reversed_self,Ob⟩
theorem JW:typeLookup (.type "tuple") "__reversed__"=pure none:=by rw[typeLookup_type,builtinLookup_eq_fast];kernel_rfl
theorem IS:isSubtype (.type "tuple") (.type "dict")=pure false:=by rw[isSubtype_type];kernel_rfl
theorem slot_next:Slot "reversed" "__next__" "reversed.__next__":=
 .of (owner:="reversed") (n:="__next__") (by rw[typeLookup_type,builtinLookup_eq_fast];kernel_rfl) (by decide +kernel) (by decide +kernel) (by decide +kernel)
  (by first|exact .inl (by decide +kernel)|exact .inr (by decide +kernel)) (by rw[isSubtype_type];kernel_rfl)
theorem entry_next:entryFor table "reversed.__next__"=some Builtin.«reversed.__next__»:=entryFor_of_tree (by kernel_rfl)
theorem H9:Manifest.owners.lookup (String.ofList ['d','e','s','r','e','v','e','r'].reverse)=some Manifest.sig_reversed:=by kernel_rfl
theorem args_next(a:Value):argsOk "reversed.__next__" ⟨[a],[]⟩:=by
 unfold argsOk;rw[signature?_of (id:="reversed.__next__") (n:=['_','_','t','x','e','n','_','_']) (o:=['d','e','s','r','e','v','e','r']) (by kernel_rfl) H9];kernel_rfl
theorem Ia:Slot "reversed" "__iter__" "reversed.__iter__":=
 .of (owner:="reversed") (n:="__iter__") (by rw[typeLookup_type,builtinLookup_eq_fast];kernel_rfl) (by decide +kernel) (by decide +kernel) (by decide +kernel)
  (by first|exact .inl (by decide +kernel)|exact .inr (by decide +kernel)) (by rw[isSubtype_type];kernel_rfl)
theorem P2(a:Value):argsOk "reversed.__iter__" ⟨[a],[]⟩:=by
 unfold argsOk;rw[signature?_of (id:="reversed.__iter__") (n:=['_','_','r','e','t','i','_','_']) (o:=['d','e','s','r','e','v','e','r']) (by kernel_rfl) H9];kernel_rfl
theorem Mm:entryFor table "reversed.__iter__"=some Builtin.«dict_keyiterator.__iter__»:=
 entryFor_alias (id':="dict_keyiterator.__iter__") (by kernel_rfl) (by first|rfl|decide +kernel|(unfold String.splitOn;simp +decide [String.splitOnAux])) (by decide +kernel) (by kernel_rfl)
theorem E2:Slot "reversed" "__length_hint__" "reversed.__length_hint__":=
 .of (owner:="reversed") (n:="__length_hint__") (by rw[typeLookup_type,builtinLookup_eq_fast];kernel_rfl) (by decide +kernel) (by decide +kernel) (by decide +kernel)
  (by first|exact .inl (by decide +kernel)|exact .inr (by decide +kernel)) (by rw[isSubtype_type];kernel_rfl)
theorem Hx:entryFor table "reversed.__length_hint__"=some Builtin.«reversed.__length_hint__»:=entryFor_of_tree (by kernel_rfl)
theorem IJ(a:Value):argsOk "reversed.__length_hint__" ⟨[a],[]⟩:=by
 unfold argsOk;rw[signature?_of (id:="reversed.__length_hint__") (n:=['_','_','t','n','i','h','_','h','t','g','n','e','l','_','_']) (o:=['d','e','s','r','e','v','e','r']) (by kernel_rfl) H9];kernel_rfl
theorem QE:typeLookup (.type "reversed") "__len__"=pure none:=by rw[typeLookup_type,builtinLookup_eq_fast];kernel_rfl
end RV
def CG(t:Addr)(i:Int):Obj:={cls:=.type "reversed",data:=.fields #[.ref t,rawInt i]}
open Sem (wp)
open AutoSeq1 (wpAny_loadPart')
open PyProof.Rows
section
variable{prog:Program}{w:World}{A:Around}{E:Va}{s:Shared}
theorem aR{i n:Nat}(h:i < n):seqIndex? (i:Int) n=some i:=by
 have hng:¬((i:Int) < 0):=by omega
 unfold seqIndex?;simp[hng,h]
theorem Xv{items:Array Value}(hz:(items.size:Int) < 2 ^ 63):
 Meets (Builtin.«reversed.__new__» ⟨[.type "reversed",.ref t],[]⟩) (λ_ R s=>IsTup s.heap t items/\∀tk,R (.ok (.ret (.ref s.heap.objs.size))) {s with heap:=s.heap.push (CG t ((items.size:Int)-1)),toks:=tk}):=
 .of_wp λprog w A R s h=>by
  obtain⟨ht,h⟩:=h;unfold Builtin.«reversed.__new__»;refine wB (wpAny_of_eq (newClass_reversed _) ?_)
  try dsimp only
  refine wB (wpAny_of_eq (a:=()) (by first|rfl|kernel_rfl) ?_);refine wB (wpAny_of_eq (a:=()) (by first|rfl|kernel_rfl) ?_)
  try dsimp only
  refine wB (wpAny_specialOf ht.typeIs RV.JW ?_)
  try dsimp only
  refine wB ?_
  wp_delta
  refine wB (wpAny_isInstance (T:="tuple") (b:=false) ht.typeIs RV.IS ?_);refine wpAny_ite_split (λhab=>absurd hab (by decide)) (λ_=>?_);refine wB (wpAny_specialOf ht.typeIs F.slot_tuple_getitem.lookup ?_)
  try dsimp only
  refine wpAny_ite_split (λ_=>?_) (λhab=>absurd (by decide +kernel) hab);refine wP ?_;refine wpAny_ite_split (λhab=>absurd hab (by decide)) (λ_=>?_);refine wB (len_tuple ht hz ?_);refine wB (m:=asInt? _) (wP ?_)
  try dsimp only
  refine wB ?_;show wpAny _ _ (newObj (.type "reversed") (.fields #[.ref t,rawInt ((items.size:Int)-1)])) _ _ _;refine wpAny_newObj_type ?_ (by size_fits);exact wP ⟨_,rfl,h _⟩
theorem Vr{items:Array Value}{Q:Va}(ht:IsTup s.heap t items)(hz:(items.size:Int) < 2 ^ 63)
 (h:∀tk,Q (.ref s.heap.objs.size) {s with heap:=s.heap.push (CG t ((items.size:Int)-1)),toks:=tk}):wpAny (model prog w) A (call (.type "reversed") [.ref t]) Q E s:=
 callType_new RV.Mz (by decide) (F.typeCall_reversed_1 _) (F.newCall_reversed_1 _) (λobj=>F.args_object_init_2 obj _) F.entry_reversed_new (Xv hz)
  ⟨ht,λtk=>⟨⟨_,Heap.get?_push_size _ rfl,rfl⟩,h tk⟩⟩
theorem BM(hr:s.heap.get? r=some (CG t i)):s.TypeIs (.ref r) "reversed":=⟨_,hr,rfl⟩
theorem MV{Q:Va}(hr:s.heap.get? r=some (CG t i))(h:Q (.ref r) s):wpAny (model prog w) A (pyIter (.ref r)) Q E s:=by
 refine wpAny_pyIter_slot (BM hr) RV.Ia (wpAny_call_entry RV.Ia (BM hr) RV.Mm ?_ (RV.P2 _));show wpAny _ _ (ret (.ref r)) _ _ s;exact wP ⟨_,rfl,"reversed",_,BM hr,RV.slot_next.lookup,h⟩
theorem TN{i:Nat}{items:Array Value}{x:Value}{Q:Option Value->Shared->Prop}(hr:s.heap.get? r=some (CG t (i:Int)))(ht:IsTup s.heap t items)(hx:items[i]? =some x)(hz:(items.size:Int) < 2 ^ 63)
 (hQ:∀h' tk,h'.get? r=some (CG t ((i:Int)-1))->Heap.SameBut r s.heap h'->Q (some x) {s with heap:=h',toks:=tk}):wpAny (model prog w) A (pyNext (.ref r)) Q E s:=by
 have hi:i < items.size:=by
  rcases Nat.lt_or_ge i items.size with z|z
  .exact z
  .rw[Array.getElem?_eq_none z]at hx;cases hx
 unfold pyNext
 refine wB (wpAny_attempt (wpAny_callSpecial?_slot (name:=Str.ofString "__next__") (BM hr) RV.slot_next
  (wpAny_call_entry RV.slot_next (BM hr) RV.entry_next ?_ (RV.args_next _))))
 unfold Builtin.«reversed.__next__»;refine wB (wpAny_of_eq (a:=(Value.ref r,[])) rfl ?_)
 try dsimp only
 refine wB (wpAny_field hr rfl (x:=.ref t) rfl ?_);refine wB (wpAny_field hr rfl (x:=rawInt (i:Int)) rfl ?_);show wpAny _ _ (if(i:Int) < 0 then _ else _) _ _ s;rw[iN (by omega)];refine wB (wpAny_specialOf ht.typeIs F.slot_tuple_getitem.lookup ?_);refine wpAny_ite_split (λhab=>absurd hab (by decide)) (λ_=>?_);refine wB (wpAny_mkInt' ?_);refine wB (wpAny_attempt (PyProof.Rows.getItem_tuple (j:=i) (x:=x) (by exact ht) (by omega) (by omega) (aR hi) hx ?_))
 try dsimp only
 refine wB (wpAny_field (s:={s with toks:=_}) hr rfl (x:=rawInt (i:Int)) rfl ?_)
 try dsimp only
 refine wB (wpAny_setField hr rfl (by simp) ?_);refine wP ⟨x,rfl,wP (hQ _ _ ?_ (Heap.SameBut.update ..))⟩;exact Heap.get?_update_self _ hr rfl
theorem Xw{items:Array Value}{Q:Option Value->Shared->Prop}(hh:A.handled=none)(hr:s.heap.get? r=some (CG t (-1)))
 (hQ:∀h' tk,Heap.ExtBut r s.heap h'->Q none {s with heap:=h',toks:=tk}):wpAny (model prog w) A (pyNext (.ref r)) Q E s:=by
 unfold pyNext
 refine wB (wpAny_attempt (wpAny_callSpecial?_slot (name:=Str.ofString "__next__") (BM hr) RV.slot_next
  (wpAny_call_entry RV.slot_next (BM hr) RV.entry_next ?_ (RV.args_next _))))
 unfold Builtin.«reversed.__next__»;refine wB (wpAny_of_eq (a:=(Value.ref r,[])) rfl ?_)
 try dsimp only
 refine wB (wpAny_field hr rfl (x:=.ref t) rfl ?_);refine wB (wpAny_field hr rfl (x:=rawInt (-1)) rfl ?_);show wpAny _ _ (if(-1:Int) < 0 then _ else _) _ _ s;rw[iP (by decide)];refine wB (wpAny_rule ?_);refine wB ?_
 wp_delta
 refine wB (wpAny_setField hr rfl (by simp) ?_);have hr2:=Heap.get?_update_self (Obj.mapFields λxs=>xs.setIfInBounds 1 (rawInt (-1))) hr rfl;refine wpAny_setField (s:={s with heap:=_}) hr2 rfl (by simp) ?_;refine wB ?_;show wpAny _ _ (newExc (.type "StopIteration") [] >>= _) _ _ _;refine wB ?_;simp only[newExc,newTuple];refine wB (wpAny_newObj_type ?_ (by size_fits));refine wB (m:=firstArgMember _ _) (wpAny_of_eq (a:=Value.none) (by first|rfl|(simp only[firstArgMember];rfl)) ?_);refine wpAny_newObj_type ?_ (by size_fits);simp only[raiseNew];refine wB (wpAny_handled ?_)
 first|rw[show A.in1.handled=none from hh]|rw[hh]
 refine wB (wP (wpAny_throw ?_));refine wB (wpAny_isInstance (T:="StopIteration") (b:=true) ⟨_,Heap.get?_push_size _ rfl,rfl⟩ isSubtype_stop ?_);refine wP (hQ _ _ ?_);refine Heap.ExtBut.push ?_ _;refine Heap.ExtBut.push ?_ _;intro b o hb e;exact(Heap.get?_update_other _ _ (Ne.symm hb)).trans ((Heap.get?_update_other _ _ (Ne.symm hb)).trans e)
theorem TR{items:Array Value}{Q:Bool->Shared->Prop}(hr:s.heap.get? r=some (CG t ((items.size:Int) - 1)))(ht:IsTup s.heap t items)(hz:items.size<=sizeLine)
 (h:∀b tk,Q b {s with toks:=tk}):wpAny (model prog w) A (Builtin.List.listLengthHint (.ref r)) Q E s:=by
 have hz':(items.size:Int) < 2 ^ 63:=by rw[sizeLine_eq]at hz;omega
 unfold Builtin.List.listLengthHint;refine wB (wpAny_specialOf (BM hr) RV.QE ?_)
 try dsimp only
 refine wpAny_ite_split (λhab=>absurd hab (by decide +kernel)) (λ_=>?_);refine wpAny_ite_split (λhab=>absurd hab (by decide)) (λ_=>?_);refine wB (wpAny_specialOf (BM hr) RV.E2.lookup ?_);generalize hid:("reversed.__length_hint__":String)=id0
 try dsimp only
 rw[show splitId id0=some ("reversed","__length_hint__")from by subst hid;decide +kernel];subst hid
 try dsimp only
 refine wB (wpAny_isInstance (T:="reversed") (b:=true) (BM hr) F.sub_reversed_self ?_);refine wpAny_ite_split (λhab=>absurd hab (by decide)) (λ_=>?_);refine wpAny_ite_split (λhab=>absurd hab (by decide +kernel)) (λ_=>?_);refine wB (wpAny_rule ?_);refine wB (wpAny_of_eq (RV.E2.bind _) ?_)
 try dsimp only
 refine wB (wpAny_attempt (wpAny_call_entry RV.E2 (BM hr) RV.Hx ?_ (RV.IJ _)));unfold Builtin.«reversed.__length_hint__»;refine wB (wpAny_of_eq (a:=Value.ref r) rfl ?_);refine wB (wpAny_field hr rfl (x:=.ref t) rfl ?_);refine wpAny_ite_split (λhab=>absurd hab (by intro z;cases z)) (λ_=>?_);refine wB (len_tuple ht hz' ?_);refine wB (m:=asInt? _) (wP ?_)
 try dsimp only
 refine wB (wpAny_field (s:={s with toks:=_}) hr rfl (x:=rawInt ((items.size:Int)-1)) rfl ?_);show wpAny _ _ (if(items.size:Int) < (items.size:Int)-1+1 then _ else _) _ _ _;rw[iN (by omega)];refine wB (wpAny_mkInt' (wP ⟨_,rfl,?_⟩))
 try dsimp only
 refine wB (m:=asInt? _) (wP ?_)
 try dsimp only
 have e1:(items.size:Int)-1+1=(items.size:Int):=by omega
 rw[e1]
 have hfit:Builtin.List.listFitsIndex (items.size:Int)=true:=by
  have h2:(-(2 ^ 63):Int)<=(items.size:Int):=by omega
  simp only[Builtin.List.listFitsIndex,bA,decide_eq_true_eq];exact⟨h2,hz'⟩
 have hneg:¬((items.size:Int) < 0):=by omega
 have hlong:Builtin.List.listTooLong ((items.size:Int).toNat)=false:=by
  rw[Int.toNat_natCast];unfold Builtin.List.listTooLong;exact dF (by omega)
 simp only[hfit,hneg,hlong,Bool.not_true,Bool.false_eq_true,if_false];exact wP (h _ _)
theorem Q1(hh:A.handled=none)(I t:Addr)(hne:t≠I)(items:Array Value)(hz:(items.size:Int) < 2 ^ 63):
 Walks prog w A I [I,t] [I] items.size (λi v=>items[items.size-1-i]? =some v) (λi h=>i<=items.size/\h.get? I=some (CG t ((items.size:Int)-1-(i:Int)))/\IsTup h t items) where
 sub:=λb hb=>by simp at hb;simp[hb]
 frame:=λ_ _ _ x hk=>⟨x.1,hk I (by simp) _ x.2.1,let⟨o,ho,q⟩:=x.2.2;⟨o,hk t (by simp) o ho,q⟩⟩
 item:=λi s Q E hi x hQ=>by
  have e:(items.size:Int)-1-(i:Int)=((items.size-1-i:Nat):Int):=by omega
  have hit:=x.2.1;rw[e]at hit;have hx:items[items.size-1-i]? =some (items[items.size-1-i]'(by omega)):=Array.getElem?_eq_getElem (by omega);refine TN hit x.2.2 hx hz λh' tk hit' hs'=>?_
  have e2:((items.size-1-i:Nat):Int)-1=(items.size:Int)-1-((i+1:Nat):Int):=by omega
  rw[e2]at hit';exact hQ _ h' tk hx ⟨hi,hit',x.2.2.extBut hs'.extBut hne⟩ λb o hb eo=>hs'.extBut b o (λh=>hb (by simp[h])) eo
 done:=λs Q E x hQ=>by
  have e:(items.size:Int)-1-(items.size:Int)= -1:=by omega
  have hit:=x.2.1;rw[e]at hit;exact Xw (items:=items) hh hit λh' tk he'=>hQ h' tk λb o hb eo=>he' b o (λh=>hb (by simp[h])) eo
 self:=λ_ _ _ _ x hQ=>MV x.2.1 hQ
variable{R:Result->Shared->Prop}
theorem Of{items:Array Value}(hh:A.handled=none)(hr:s.heap.get? r=some (CG t ((items.size:Int) - 1)))(ht:IsTup s.heap t items)(hz:items.size<=sizeLine)(hrt:t≠r)(S:Addr)(hSr:S≠r)(hSt:S≠t)(res:Value)(c₀:Nat)
 (hS:s.heap.get? S=some {cls:=.type "list",data:=.seq #[] c₀})
 (hR:∀h' tk acc' c',(∀b o,b≠S->b≠r->s.heap.get? b=some o->h'.get? b=some o)->h'.get? S=some {cls:=.type "list",dict:=none,data:=.seq acc' c',slots:=#[]}->ItemsOf (λi v=>items[items.size-1-i]? =some v) acc' items.size->R (.ok (.ret res)) {s with heap:=h',toks:=tk}):
 wpAny (model prog w) A.in1 (Builtin.List.listExtendWith (.ref S) (.ref r) res)
  (λfin s'=>match fin with| .done f=>R (.ok f) s'| .again c'=>c'.quiet=true/\codeAny (model prog w) A c' R s') (λe s'=>R (.error e) s') s:=by
 have hz':(items.size:Int) < 2 ^ 63:=by rw[sizeLine_eq]at hz;omega
 have hSf:S∉[r,t]:=by simp only[mem_cons,not_mem_nil,or_false,not_or];exact⟨hSr,hSt⟩
 have W:=Q1 (prog:=prog) (w:=w) (A:=A.in1) hh r t hrt items hz'
 have key:∀(h:Heap) (c₁ tk:Nat),(h.get? r=some (CG t ((items.size:Int) - 1))/\IsTup h t items)->(∀b o,b≠S->s.heap.get? b=some o->h.get? b=some o)->
  h.get? S=some {cls:=.type "list",data:=.seq #[] c₁}->codeAny (model prog w) A (.builtin "list.extend.loop" ⟨[.ref S,.ref r,res],[]⟩) R {s with heap:=h,toks:=tk}:=by
  intro h c₁ tk hst hk hS₁;refine codeAny_extend_loopS W.toS hz S hSf res items.size 0 _ #[] c₁ rfl (Nat.zero_le _) ⟨Nat.zero_le _,by simpa using hst.1,hst.2⟩ hS₁ (ItemsOf.nil _) λs' acc' c' hm hS' hacc=>?_
  have hb0:=λb o (hb:b≠S) (hb2:b≠r) (e:s.heap.get? b=some o)=>hm.heap b o (λhmem=>by
   rcases mK hmem with e'|hmem
   .exact hb e'
   .exact hb2 (mE hmem)) (hk b o hb e)
  rw[Moved.eq_with hm];exact hR s'.heap s'.toks acc' c' hb0 hS' hacc
 unfold Builtin.List.listExtendWith;refine wB (wpAny_typeOf (T:="reversed") (BM hr) ?_);have h1:Builtin.List.listSameRef (.ref S) (.ref r)=false:=by simp[Builtin.List.listSameRef,hSr]
 have h2:(Value.type "reversed" == Value.type "list")=false:=by decide
 have h3:(Value.type "reversed" == Value.type "tuple")=false:=by decide
 simp only[h1,h2,h3,Bool.or_false,Bool.false_eq_true,if_false];refine wB (MV hr ?_);refine wB (wpAny_holding (TR hr ht hz λb tk=>?_));refine wpAny_ite_split (λ_=>?_) (λ_=>wP ⟨plainId_quiet PySem.F.plain_extend_loop _,key _ c₀ _ ⟨hr,ht⟩ (λb o _ e=>e) hS⟩);refine wB (wpAny_rule ?_);refine wB ?_;show wpAny _ _ (updateSeq S (·.push .none) >>= λ_=>updateSeq S (·.pop)) _ _ _;refine wB (wpAny_updateSeq hS rfl ?_);have hS₂:=Heap.get?_update_self (Obj.mapSeq (·.push Value.none)) hS rfl;refine wpAny_updateSeq (hz:=by seq_fits) hS₂ rfl ?_;have hS₃:=Heap.get?_update_self (Obj.mapSeq (·.pop)) hS₂ rfl
 have oth:∀b o,b≠S->s.heap.get? b=some o->((s.heap.update S (Obj.mapSeq (·.push Value.none))).update S (Obj.mapSeq (·.pop))).get? b=some o:=λb o hb e=>
  (Heap.get?_update_other _ _ (Ne.symm hb)).trans ((Heap.get?_update_other _ _ (Ne.symm hb)).trans e)
 refine wP ⟨plainId_quiet PySem.F.plain_extend_loop _,key _ _ _ ⟨oth _ _ (Ne.symm hSr) hr,?_⟩ oth hS₃⟩;obtain⟨o,ho,q⟩:=ht;exact⟨o,oth _ _ (Ne.symm hSt) ho,q⟩
theorem TQ{items:Array Value}(hh:A.handled=none)(hr:s.heap.get? r=some (CG t ((items.size:Int) - 1)))(ht:IsTup s.heap t items)(hz:items.size<=sizeLine)(hrt:t≠r)(S:Addr)(hSr:S≠r)(hSt:S≠t)
 (hS:s.heap.get? S=some {cls:=.type "list",data:=.seq #[]})
 (hR:∀h' tk acc' c',(∀b o,b≠S->b≠r->s.heap.get? b=some o->h'.get? b=some o)->h'.get? S=some {cls:=.type "list",dict:=none,data:=.seq acc' c',slots:=#[]}->ItemsOf (λi v=>items[items.size-1-i]? =some v) acc' items.size->R (.ok (.ret .none)) {s with heap:=h',toks:=tk}):
 wpAny (model prog w) A.in1 (Builtin.«list.__init__» ⟨[.ref S,.ref r],[]⟩)
  (λfin s'=>match fin with| .done f=>R (.ok f) s'| .again c'=>c'.quiet=true/\codeAny (model prog w) A c' R s') (λe s'=>R (.error e) s') s:=by
 show wpAny _ _ (do let old <-Builtin.List.listItems (.ref S);Builtin.List.listUpdate (.ref S) (λ_=>#[]);letGo old.toList.reverse;Builtin.List.listExtendWith (.ref S) (.ref r) .none) _ _ s;refine wB ?_;unfold Builtin.List.listItems;refine wB (wpAny_seqItems hS rfl (wP ?_));show wpAny _ _ (updateSeq S (λ_=>#[]) >>= λ_=>letGo (#[]:Array Value).toList.reverse >>= λ_=>Builtin.List.listExtendWith (.ref S) (.ref r) .none) _ _ s;refine wB (wpAny_updateSeq hS rfl ?_);have hS₂:=Heap.get?_update_self (Obj.mapSeq (λ_=>(#[]:Array Value))) hS rfl
 have oth:∀b o,b≠S->s.heap.get? b=some o->(s.heap.update S (Obj.mapSeq (λ_=>(#[]:Array Value)))).get? b=some o:=
  λb o hb e=>(Heap.get?_update_other _ _ (Ne.symm hb)).trans e
 refine wB (wpAny_letGo ?_);refine Of (s:={s with heap:=_}) hh (oth _ _ (Ne.symm hSr) hr) (let⟨o,ho,q⟩:=ht;⟨o,oth _ _ (Ne.symm hSt) ho,q⟩) hz hrt S hSr hSt .none _ hS₂ (λh' tk acc' c' hk hS' hacc=>?_);exact hR h' tk acc' c' (λb o hb hb2 e=>hk b o hb hb2 (oth b o hb e)) hS' hacc
theorem TM{Q:Va}{items:Array Value}(hh:A.handled=none)(hr:s.heap.get? r=some (CG t ((items.size:Int) - 1)))(ht:IsTup s.heap t items)(hz:items.size<=sizeLine)(hrt:t≠r)
 (hQ:∀h' tk acc' c',(∀b o,b≠r->s.heap.get? b=some o->h'.get? b=some o)->h'.get? s.heap.objs.size=some {cls:=.type "list",dict:=none,data:=.seq acc' c',slots:=#[]}->ItemsOf (λi v=>items[items.size-1-i]? =some v) acc' items.size->Q (.ref s.heap.objs.size) {s with heap:=h',toks:=tk}):
 wpAny (model prog w) A (call (.type "list") [.ref r]) Q E s:=by
 refine callType_codes (Q₁:=λobj s₁=>obj= .ref s.heap.objs.size/\s₁={s with heap:=s.heap.push {cls:=.type "list",data:=.seq #[]}}) PySem.F.called_list (PySem.F.typeCall_list_1 _) PySem.F.entry_list_init
  (code_list_new _ ⟨rfl,rfl⟩) λobj s₁ h₁=>?_
 obtain⟨rfl,rfl⟩:=h₁;have hS:(s.heap.push {cls:=.type "list",data:=.seq #[]}).get? s.heap.objs.size=some {cls:=.type "list",data:=.seq #[]}:=Heap.get?_push_size _ rfl;have lt1:=Heap.lt_size hr;have lt2:t < s.heap.objs.size:=let⟨o,ho,_⟩:=ht;Heap.lt_size ho;refine⟨⟨_,hS,rfl⟩,PySem.F.args_list_init_2 _ _,TQ (A:=A.in1) (s:={s with heap:=_}) hh (gP hr) (let⟨o,ho,q⟩:=ht;⟨o,gP ho,q⟩) hz hrt _ (Nat.ne_of_gt lt1) (Nat.ne_of_gt lt2) hS (λh' tk acc' c' hk hS' hacc=>?_)⟩;exact⟨rfl,hQ h' tk acc' c' (λb o hb e=>hk b o (Nat.ne_of_lt (Heap.lt_size e)) hb (gP e)) hS' hacc⟩
end
end PySem
namespace L2
open PySem PySem.Spec PyProof.Rows
section
variable{X:Cx}{tg e:Expr}{pos p p1 p2 p3:Pos}{ta te:TE}
def gv(K:Frag)(a:Addr)(xs:List V):It:=
 ⟨λi H=>i < xs.length/\Ep K H a xs,λi H x H'=>H'=H/\xs[xs.length-1-i]? =some x,λi H=>xs.length<=i⟩
theorem Pr{P:Program}{w:World}{K:Frag}{tg:Expr}(a it:Addr)(xs:List V):Turn P w K tg (gv K a xs) [it] it (λi h=>i<=xs.length/\h.IsRevIter it a ((xs.length:Int) - 1 - (i:Int))) where
 mem:=by simp
 obj:=λi h st b hb=>by
  have e:b=it:=by simpa using hb
  subst e;obtain⟨_,o,e,c,d⟩:=st;exact⟨o,e,λv z=>by rw[d]at z;cases z⟩
 keep:=λi h h' st k=>⟨st.1,st.2.at λo e=>k it (by simp) o e⟩
 item:=by
  intro X hP hw hK hc i pins s σ H E I hf st hg;subst hP hw hK;obtain⟨hi,hq⟩:=hg;obtain⟨its,rv,p,hz⟩:=I.list hq;have hlen:=rv.length;have hx:xs[xs.length-1-i]? =some (xs[xs.length-1-i]'(by lia)):=List.getElem?_eq_getElem (by lia);obtain⟨u,hu,ru⟩:=rv.get hx;obtain⟨f0,f1,f2,f3,f4,f5⟩:=hf it (by simp);have e1:(xs.length:Int)-1-(i:Int)=((xs.length-1-i:Nat):Int):=by lia
  have st2:=st.2;rw[e1]at st2;refine wpAny_pyNext_rev_item st2 p.isList (x:=u) (by simpa using hu) λh' st' sb=>?_
  have e2:((xs.length-1-i:Nat):Int)-1=(xs.length:Int)-1-((i+1:Nat):Int):=by lia
  rw[e2]at st';have I1:Inv X pins σ H {s with heap:=h'}:=I.turned (t':=s.toks) (λb o hb e=>(sb.2 b hb).trans e) f0 f1 f3 f4 f5;obtain⟨o,e,c,d⟩:=id st';exact⟨u,rfl,KG (s:={s with heap:=h'}) e c d (by decide) ⟨_,H,I1,ru,⟨rfl,hx⟩,⟨hi,st'⟩,λb hb=>(hf b hb).1⟩⟩
 done:=by
  intro X hP hw hK hc i pins s σ H E I hf st hg;subst hP hw hK;have hg:xs.length<=i:=hg;have hi:i=xs.length:=Nat.le_antisymm st.1 hg;obtain⟨f0,f1,f2,f3,f4,f5⟩:=hf it (by simp);have st2:=st.2;rw[show(xs.length:Int)-1-(i:Int)= -1 by lia]at st2;exact wpAny_pyNext_rev_end (I.ok.hd hc) st2 λh' eb=>⟨rfl,I.turned (t':=s.toks) (λb o hb e=>eb b o hb e) f0 f1 f3 f4 f5⟩
 self:=λ_ _ _ _ _ st h=>wpAny_pyIter_revIter st.2 h
def fU(K:Frag)(tl:TE):TI:=λσ H R=>tl σ H λx H1=>∃a xs,x= .ref a/\Ep K H1 a xs/\R (gv K a xs) H1
theorem fq{tl:TE}(hg:Gl X "reversed")(hm:X.mg "reversed"=none)(hl:PE X l tl)(hs:starEach [l] X.env=[(false,eval l X.env)]:=by rfl):PI X tg (.Call (.Name "reversed" p) [l] [] pos) (fU X.K tl):=by
 intro pins s σ H R I h;have h':JZ tl PJ σ H (λvs H1=>match vs with|[x]=>(∃a xs,x= .ref a/\Ep X.K H1 a xs/\R (gv X.K a xs) H1)|_=>False):=h;refine Call_ (DO I hg hm boot_reversed (PyProof.Rows.callWith_type1 (thn (AU hl BR hs pos pins s σ H _ I h') λus s1 ⟨vs,H1,I1,r1,q1⟩=>?_) hs rfl))
 match vs,r1,q1 with
 |[x],r1,q1=>
   obtain⟨u,rfl,ru⟩:=vals1 r1;obtain⟨a,xs,rfl,hq,q⟩:=q1;cases ru;obtain⟨its,rv,pl,hz⟩:=I1.list hq;have hlen:=rv.length;refine call_reversed_list pl.isList ?_;have e0:(its.toArray.size:Int)-1=(xs.length:Int)-1:=by rw[size_toArray,hlen]
   rw[e0];have st:(s1.heap.push (revObj a ((xs.length:Int)-1))).IsRevIter s1.heap.objs.size a ((xs.length:Int)-1-((0:Nat):Int)):=⟨_,Heap.get?_push_size _ rfl,rfl,by simp[revObj]⟩;refine wpAny_pyIter_revIter st ?_;refine⟨s1.heap.objs.size,[s1.heap.objs.size],_,_,H1,rfl,I1.kept (t':=s1.toks) λb o e=>gP e,Pr a _ xs,⟨Nat.zero_le _,st⟩,λb hb=>?_,q⟩;have e:b=s1.heap.objs.size:=by simpa using hb
   subst e;exact I1.ON (lR) (I1.Aq.fresh (lR))
def jy(K:Frag)(ta:TE):TE:=λσ H Q=>ta σ H λx H1=>∃t xs,x= .ref t/\DF K H1 t xs/\∀l,H1 l=none->Q (.ref l) (upd H1 l (.lst xs.reverse))
theorem LM(hc:X.calm=true)(hg1:Gl X "list")(hm1:X.mg "list"=none)(hg2:Gl X "reversed")(hm2:X.mg "reversed"=none)(he:PE X e te)(hs2:starEach [e] X.env=[(false,eval e X.env)]:=by rfl)
 (hs1:starEach [.Call (.Name "reversed" p2) [e] [] p3] X.env=[(false,eval (.Call (.Name "reversed" p2) [e] [] p3) X.env)]:=by rfl):
 PE X (.Call (.Name "list" p1) [.Call (.Name "reversed" p2) [e] [] p3] [] pos) (jy X.K te):=by
 intro pins s σ H Q I h;refine wpAny_Call_Name_kw (DO I hg1 hm1 boot_list ?_ (by decide) (by decide));refine PyProof.Rows.callWith_type1 ?_ hs1 rfl;rw[hs1];show wpAny _ _ (spliced ((false,eval (.Call (.Name "reversed" p2) [e] [] p3) X.env)::backTo pos [])) _ _ s;refine Calls.spliced_cons ?_;refine wpAny_Call_Name_kw (DO I hg2 hm2 boot_reversed ?_ (by decide) (by decide));have h':JZ te PJ σ H (λvs H1=>match vs with|[x]=>(∃t xs,x= .ref t/\DF X.K H1 t xs/\∀l,H1 l=none->Q (.ref l) (upd H1 l (.lst xs.reverse)))|_=>False):=h;refine PyProof.Rows.callWith_type1 (thn (AU he BR hs2 p3 pins s σ H _ I h') λus s1 ⟨vs,H1,I1,r1,q1⟩=>?_) hs2 rfl
 match vs,r1,q1 with
 |[x],r1,q1=>
   obtain⟨u,rfl,ru⟩:=vals1 r1;obtain⟨t,xs,rfl,hq,q⟩:=q1;cases ru;obtain⟨its,rv,pl,hz⟩:=I1.tuple hq;have hlen:=rv.length;have hzs:its.toArray.size<=sizeLine:=by rw[size_toArray];lia
   refine Vr pl (by rw[size_toArray];have:=Dl;lia) λtk=>?_
   refine Calls.spliced_nil ?_;have lt:t < s1.heap.objs.size:=let⟨o,ho,_⟩:=pl;Heap.lt_size ho;refine TM (t:=t) (items:=its.toArray) (I1.ok.hd hc) (Heap.get?_push_size _ rfl) (let⟨o,ho,z⟩:=pl;⟨o,gP ho,z⟩) hzs (Nat.ne_of_lt lt) λh' tk' acc c' hk hS hacc=>?_
   have hD:s1.heap.objs.size<=(s1.heap.push (CG t ((its.toArray.size:Int)-1))).objs.size:=by rw[Heap.size_push];exact Nat.le_succ _
   have eacc:acc.toList=its.reverse:=by
    apply ext_getElem?;intro j;have hsz:acc.size=its.length:=by rw[hacc.1,size_toArray]
    by_cases hj:j < its.length
    .have ha:acc.toList[j]? =some (acc[j]'(by lia)):=by simp[hsz,hj]
     have hP:=hacc.2 j (acc[j]'(by lia)) (by simp[hsz,hj]);rw[ha,List.getElem?_reverse hj];have hP:its.toArray[its.toArray.size-1-j]? =some (acc[j]'(by lia)):=hP;rw[size_toArray,List.getElem?_toArray]at hP;rw[<-hP]
    .rw[List.getElem?_eq_none (by simp;lia),List.getElem?_eq_none (by simp;lia)]
   refine⟨.ref (s1.heap.push (CG t ((its.toArray.size:Int)-1))).objs.size,_,I1.laid (t':=tk') (o:=.lst xs.reverse) (λb o e=>hk b o (Nat.ne_of_lt (Heap.lt_size e)) (gP e)) hD ?_,rfl,q _ (I1.Aq.fresh hD)⟩;refine⟨by rw[List.length_reverse];exact hz,its.reverse,c',rv.reverse,?_⟩;rw[hS,<-eacc]
def eY:V->Option Int->Option Int->Hp->VK->Prop:=λx lo hi H Q=>∃y,x= .str y/\y.length<=sizeLine/\Q (.str (Txt.slice y lo hi)) H
theorem LC:ZC X eY:=by
 intro pins s σ H x v vl vu lo hi sl Q I rx hs pl pu h;obtain⟨y,rfl,hz,q⟩:=h;obtain⟨t,rfl⟩:=rx;refine⟨"str",_,F.slot_str_getitem.lookup,typeIs_str _ _ _,?_⟩;have fin:∀t' k,EP X pins σ Q (.str (Txt.slice y lo hi) t') {s with toks:=k}:=λt' k=>⟨.str (Txt.slice y lo hi),H,I.tok k,⟨t',rfl⟩,q⟩
 obtain⟨o,h1,h2,h3⟩:=hs;cases pl with
 |none=>
   cases pu with
   |none=>exact wpAny_getItem_str_slice (l:=none) (u:=none) (st:=none) ⟨o,h1,h2,h3⟩ rfl (post_val_or_str ⟨Nat.le_trans (Txt.slice_le y _ _) hz,fin⟩)
   |int j u=>exact wpAny_getItem_str_slice (l:=none) (u:=some (j,u)) (st:=none) ⟨o,h1,h2,h3⟩ rfl (post_val_or_str ⟨Nat.le_trans (Txt.slice_le y _ _) hz,fin⟩)
 |int i u=>
   cases pu with
   |none=>exact wpAny_getItem_str_slice (l:=some (i,u)) (u:=none) (st:=none) ⟨o,h1,h2,h3⟩ rfl (post_val_or_str ⟨Nat.le_trans (Txt.slice_le y _ _) hz,fin⟩)
   |int j u'=>exact wpAny_getItem_str_slice (l:=some (i,u)) (u:=some (j,u')) (st:=none) ⟨o,h1,h2,h3⟩ rfl (post_val_or_str ⟨Nat.le_trans (Txt.slice_le y _ _) hz,fin⟩)
theorem L5(hc:X.calm=true):DB X (.builtin "all") (λxs H Q=>∃(l:Addr) (bs:List Bool),xs=[.ref l]/\Ep X.K H l (bs.map V.bl)/\Q (.bl (bs.all id)) H):=by
 intro pins s σ H xs us Q I r h;obtain⟨l,bs,rfl,hq,q⟩:=h;obtain⟨u,rfl,ru⟩:=vals1 r;cases ru;obtain⟨its,rv,pl,hz⟩:=I.list hq;have hlen:=rv.length;rw[lM]at hlen;refine call_all_walk (wpAny_pyIter_list pl.isList ?_);have lt:l < s.heap.objs.size:=Heap.lt_size pl.isList.choose_spec.1;refine⟨_,_,_,_,_,_,λi=>(bs[i]?).getD true,rfl,Walks.list (A:=X.A.in1) (show X.A.in1.handled=none from I.ok.hd hc) _ l (Nat.ne_of_lt lt) its.toArray,⟨⟨_,Heap.get?_push_size _ rfl,rfl,rfl⟩,pl.isList.at λo e=>gP e⟩,?_,λh' tk hk=>?_⟩
 .intro i v s' Q' E' hP hQ;have hP:its.toArray[i]? =some v:=hP;rw[List.getElem?_toArray]at hP
  have hi:i < bs.length:=by
   have:=(List.getElem?_eq_some_iff.mp hP).1
   lia
  have hb:(bs.map V.bl)[i]? =some (.bl bs[i]):=by rw[List.getElem?_map,List.getElem?_eq_getElem hi];rfl
  obtain⟨u,hu,ru⟩:=rv.get hb;have:u=v:=Option.some.inj (hu.symm.trans hP);subst this;cases ru;refine wpAny_truthy_bool ?_;have e:(bs[i]?).getD true=bs[i]:=by rw[List.getElem?_eq_getElem hi];rfl
  have hQ:Q' ((bs[i]?).getD true) s':=hQ;rw[e]at hQ;exact hQ
 .have e:(List.range its.toArray.size).all (λi=>(bs[i]?).getD true)=bs.all id:=by
   rw[size_toArray,<-hlen];rw[Bool.eq_iff_iff,all_eq_true,all_eq_true];constructor
   .intro h b hb;obtain⟨i,hi,e⟩:=List.mem_iff_getElem.mp hb;have:=h i (mem_range.mpr hi);rw[List.getElem?_eq_getElem hi,e]at this;exact this
   .intro h i hi;have hi:=mem_range.mp hi;have:=h bs[i] (getElem_mem hi);rw[List.getElem?_eq_getElem hi];exact this
  have ee:EP X pins σ Q (.bool (bs.all id)) {s with heap:=h',toks:=tk}:=by
   refine⟨.bl (bs.all id),H,I.kept (t':=tk) λb o e=>hk b o (λz=>?_) (gP e),rfl,q⟩;exact absurd (Heap.lt_size e) (by rw[mE z];exact Nat.lt_irrefl _)
  rw[e];exact ee
end
variable{g:TG}{te:TE}{σ:St}{H:Hp}{Q:List V->Hp->Prop}{K:Frag}{a:Addr}{xs:List V}
end L2
namespace PySem
open AutoSeq1 (wpAny_loadPart')
theorem V3(l:Addr)(xs:Array Value)(n:Nat)(b:Addr)(ys:Array Value)(n2:Nat)(BC:Option Addr)(sl:Array (Option Value))(h0:¬(!xs.isEmpty && Builtin.List.listTooLong (xs.size + ys.size))=true)(h1:xs.size<=sizeLine)(h2:xs.size + ys.size<=sizeLine + 1):
 Meets (Builtin.«list.extend» ⟨[.ref l,.ref b],[]⟩) (λ_ R s=>s.heap.get? l=some {cls:=.type "list",dict:=none,data:=.seq xs n,slots:=#[]}/\
  s.heap.get? b=some {cls:=.type "tuple",dict:=BC,data:=.seq ys n2,slots:=sl}/\R (.ok (.ret Value.none)) {s with heap:=s.heap.update l (Obj.mapSeq λx=>x++ys),toks:=s.toks}):=
 .of_wp λprog w A R s h=>by
  obtain⟨hp,g,d,tk,os⟩:=s;obtain⟨hl,hb,h⟩:=h;have hz':(xs++ys).size<=sizeLine+1:=by rw[Array.size_append];exact h2
  wp_walk using(wpAny_updateSeq hl rfl (hz:=h1) (_hz':=hz')),wpAny_loadPart' hl,wpAny_loadPart' hb
  exact⟨_,rfl,h⟩
end PySem
namespace L2
open PySem PySem.Spec PyProof.Rows
section
variable{X:Cx}{tg e:Expr}{pos p p1 p2 p3:Pos}{ta te:TE}
def jf(y:Str):It:=⟨λi _=>i < y.length,λi H x H'=>H'=H/\∃c,y.cps[i]? =some c/\x= .str ⟨#[c]⟩,λi _=>y.length<=i⟩
theorem Pq{P:Program}{w:World}{K:Frag}{tg:Expr}(it:Addr)(y:Str)(t:Tok):Turn P w K tg (jf y) [it] it (λi h=>h.IsStrIter it "str_ascii_iterator" y t i) where
 mem:=by simp
 obj:=λi h st b hb=>by
  have e:b=it:=by simpa using hb
  subst e;obtain⟨o,e,c,d⟩:=st;exact⟨o,e,λv z=>by rw[d]at z;cases z⟩
 keep:=λi h h' st k=>by
  obtain⟨o,e,r⟩:=st;exact⟨o,k it (by simp) o e,r⟩
 item:=by
  intro X hP hw hK hc i pins s σ H E I hf st hg;subst hP hw hK;have hg:i < y.cps.size:=hg;obtain⟨f0,f1,f2,f3,f4,f5⟩:=hf it (by simp);refine wpAny_pyNext_ascii_item st (c:=y.cps[i]) (Array.getElem?_eq_getElem hg) λh' st' sb=>?_
  have I1:Inv X pins σ H {s with heap:=h',toks:=s.toks+1}:=I.turned (λb o hb e=>(sb.2 b hb).trans e) f0 f1 f3 f4 f5;obtain⟨o,e,c,d⟩:=id st';exact⟨_,rfl,KG (s:={s with heap:=h',toks:=s.toks+1}) e c d (by decide) ⟨.str ⟨#[y.cps[i]]⟩,H,I1,⟨_,rfl⟩,⟨rfl,_,Array.getElem?_eq_getElem hg,rfl⟩,st',λb hb=>(hf b hb).1⟩⟩
 done:=by
  intro X hP hw hK hc i pins s σ H E I hf st hg;subst hP hw hK;have hg:y.cps.size<=i:=hg;obtain⟨f0,f1,f2,f3,f4,f5⟩:=hf it (by simp);exact wpAny_pyNext_ascii_end (I.ok.hd hc) st (Array.getElem?_eq_none hg) λh' eb=>⟨rfl,I.turned (t':=s.toks) (λb o hb e=>eb b o hb e) f0 f1 f3 f4 f5⟩
 self:=λA i s Q E st h=>by
  refine wpAny_pyIter_slot st.typeIs PySem.F.slot_str_ascii_iterator_iter (wpAny_call_entry PySem.F.slot_str_ascii_iterator_iter st.typeIs PySem.F.entry_str_ascii_iterator_iter ?_ (PySem.F.args_str_ascii_iterator_iter_1 _));show wpAny _ _ (ret (.ref it)) _ _ s;exact wP ⟨_,rfl,"str_ascii_iterator",_,st.typeIs,PySem.F.slot_str_ascii_iterator_next.lookup,h⟩
theorem Oo:BA X (compareOp .LtE) (λx y H Q=>∃i j,x= .str i/\y= .str j/\Q (.bl (!decide (j.cps.toList < i.cps.toList))) H):=by
 intro pins s σ H x y v u Q I rx ry h;obtain⟨i,j,rfl,rfl,q⟩:=h;obtain⟨t,rfl⟩:=rx;obtain⟨t',rfl⟩:=ry;exact PySem.P.le_str (Mi I q rfl)
end
end L2
namespace PySem
open Sem (wp)
open AutoSeq1 (wpAny_loadPart')
open PyProof.Rows
namespace LV
theorem E2:Slot "list_reverseiterator" "__length_hint__" "list_reverseiterator.__length_hint__":=
 .of (owner:="list_reverseiterator") (n:="__length_hint__") (by rw[typeLookup_type,builtinLookup_eq_fast];kernel_rfl) (by decide +kernel) (by decide +kernel) (by decide +kernel)
  (by first|exact .inl (by decide +kernel)|exact .inr (by decide +kernel)) (by rw[isSubtype_type];kernel_rfl)
theorem Hx:entryFor table "list_reverseiterator.__length_hint__"=some Builtin.«list_reverseiterator.__length_hint__»:=entryFor_of_tree (by kernel_rfl)
theorem Qu:Manifest.owners.lookup (String.ofList ['r','o','t','a','r','e','t','i','e','s','r','e','v','e','r','_','t','s','i','l'].reverse)=some Manifest.sig_list_reverseiterator:=by kernel_rfl
theorem IJ(a:Value):argsOk "list_reverseiterator.__length_hint__" ⟨[a],[]⟩:=by
 unfold argsOk;rw[signature?_of (id:="list_reverseiterator.__length_hint__") (n:=['_','_','t','n','i','h','_','h','t','g','n','e','l','_','_']) (o:=['r','o','t','a','r','e','t','i','e','s','r','e','v','e','r','_','t','s','i','l']) (by kernel_rfl) Qu];kernel_rfl
theorem QE:typeLookup (.type "list_reverseiterator") "__len__"=pure none:=by rw[typeLookup_type,builtinLookup_eq_fast];kernel_rfl
end LV
end PySem
namespace HT
open PySem PyProof.Rows
section
variable{prog:Program}{w:World}{A:Around}{E:Va}{s:Shared}
theorem Ej{sl:Addr}{items:Array Value}{vl vu:Value}{lo hi:Option Int}{Q:Va}(ht:IsTup s.heap t items)(hs:s.heap.IsSliceOf sl vl vu .none)(pl:IsPart vl lo)(pu:IsPart vu hi)
 (hw:BL items.size 0 lo=0/\BL items.size items.size hi=items.size)(h:Q (.ref t) s):wpAny (model prog w) A (getItem (.ref t) (.ref sl)) Q E s:=by
 obtain⟨os,hos,hcs,hds⟩:=id hs;have hTs:s.TypeIs (.ref sl) "slice":=⟨os,hos,hcs⟩;unfold getItem
 try with_reducible refine wpAny_holding ?_
 first|refine wB (wP ?_)|skip
 refine wB (wpAny_sequenceKey ht.typeIs (by decide) ?_)
 refine wB (wpAny_callSpecial?_slot (name:=Str.ofString "__getitem__") ht.typeIs PyProof.Rows.slot_tuple_getitem
  (wpAny_call_entry PyProof.Rows.slot_tuple_getitem ht.typeIs entry_tuple_getitem ?_ (args_tuple_getitem _ _)))
 show wpAny _ _ (Builtin.Tuple.tupleItemsOf (.ref t) >>= _) _ _ s;refine wB (tupleItemsOf_ ht ?_);refine wB (wpAny_typeOf hTs ?_);rw[iP (by decide)];refine wB (D4 hs pl pu ?_)
 have hyes:((((BL items.size 0 lo:Nat):Int) == 0 && (1:Int) == 1 && (BL items.size items.size hi - BL items.size 0 lo) == items.size)=true):=by
  rw[hw.1,hw.2];simp
 show wpAny _ _ (if(((BL items.size 0 lo:Nat):Int) == 0 && (1:Int) == 1 && (BL items.size items.size hi-BL items.size 0 lo) == items.size)=true then _ else _) _ _ s;rw[iP hyes];unfold Builtin.Tuple.tupleIsExact;refine wB (wB (wpAny_typeOf ht.typeIs (wP ?_)));rw[iP (by decide)];refine wB (wpAny_rule ?_);exact wP ⟨_,rfl,wP h⟩
end
end HT
namespace L2
open PySem PySem.Spec PyProof.Rows
variable{X:Cx}
def aX(K:Frag):V->Option Int->Option Int->Hp->VK->Prop:=λx lo hi H Q=>∃a xs,x= .ref a/\DF K H a xs/\
 (HT.BL xs.length 0 lo=0/\HT.BL xs.length xs.length hi=xs.length)/\Q (.ref a) H
theorem TC:ZC X (aX X.K):=by
 intro pins s σ H x v vl vu lo hi sl Q I rx hs pl pu h;obtain⟨a,xs,rfl,hx,hw,q⟩:=h;cases rx;obtain⟨its,r,ht,hz⟩:=I.tuple hx;have hlen:its.toArray.size=xs.length:=by rw[size_toArray];exact r.length.symm
 refine⟨"tuple",_,PyProof.Rows.slot_tuple_getitem.lookup,ht.typeIs,?_⟩;refine HT.Ej ht hs pl pu (by rw[hlen];exact hw) ?_;exact⟨.ref a,_,I,rfl,q⟩
end L2
namespace Nv
open PySem L2
section
variable{α β:Type}{F:α->β->Prop}
theorem Pd.get:∀{xs:List α} {ys:List β} {i:Nat} {x:α},Paired F xs ys->xs[i]? =some x->∃y,ys[i]? =some y/\F x y
 |_,_,_,_,.nil,e=>by cases e
 |_,_,0,_,.cons h _,e=>by cases e;exact⟨_,rfl,h⟩
 |_,_,i+1,_,.cons _ t,e=>Pd.get (i:=i) t e
theorem Pd.flip:∀{xs:List α} {ys:List β},Paired F xs ys->Paired (λy x=>F x y) ys xs
 |_,_,.nil=>.nil
 |_,_,.cons h t=>.cons h (Pd.flip t)
theorem Pd.append:∀{xs xs':List α} {ys ys':List β},Paired F xs ys->Paired F xs' ys'->Paired F (xs++xs') (ys++ys')
 |_,_,_,_,.nil,k=>k
 |_,_,_,_,.cons h t,k=>.cons h (Pd.append t k)
theorem Pd.drop:∀{xs:List α} {ys:List β} (n:Nat),Paired F xs ys->Paired F (xs.drop n) (ys.drop n)
 |_,_,0,h=>h
 |_,_,_+1,.nil=>.nil
 |_,_,n+1,.cons _ t=>Pd.drop n t
theorem Pd.take:∀{xs:List α} {ys:List β} (n:Nat),Paired F xs ys->Paired F (xs.take n) (ys.take n)
 |_,_,0,_=>.nil
 |_,_,_+1,.nil=>.nil
 |_,_,n+1,.cons h t=>.cons h (Pd.take n t)
theorem Pd.reverse:∀{xs:List α} {ys:List β},Paired F xs ys->Paired F xs.reverse ys.reverse
 |_,_,.nil=>.nil
 |_,_,.cons h t=>by rw[reverse_cons,reverse_cons];exact Pd.append (Pd.reverse t) (.cons h .nil)
theorem Pd.set{x:α}{y:β}(h:F x y):∀{xs:List α} {ys:List β} (i:Nat),Paired F xs ys->Paired F (xs.set i x) (ys.set i y)
 |_,_,_,.nil=>.nil
 |_,_,0,.cons _ t=>.cons h t
 |_,_,i+1,.cons k t=>.cons k (Pd.set h i t)
theorem Pd.insert{x:α}{y:β}(h:F x y){xs:List α}{ys:List β}(i:Nat)(t:Paired F xs ys):Paired F (xs.take i++x::xs.drop i) (ys.take i++y::ys.drop i):=Pd.append (Pd.take i t) (.cons h (Pd.drop i t))
end
structure Wd where
 K:Frag
 w:World
 CD:Nat->Addr
 xh:Bool
 xa:Addr
 xn:Nat
 xv:V
 fa:Nat->List P->Addr->Prop
 tabs:List (Addr×Pos×Str)
 OX:List (Addr×Str)
def dv(H:Hp)(a:Addr)(t:Nat)(vs:List V):Prop:=(t=0/\∃o,H a=some (.Dz o (.lst vs)))\/(t=1/\∃o u,H a=some (.Dz o u)/\o.cls= .type "dict")
mutual
noncomputable def Af (W:Wd) (H:Hp):P->V->Prop
 |.A8,v=>v= .A8
 |.bl b,v=>v= .bl b
 |.int i,v=>v= .int i
 |.str x,v=>v= .str x
 |.fn i c,v=>∃a,W.fa i c a/\v= .ref a
 |.tup ps,v=>∃a vs,v= .ref a/\DF W.K H a vs/\C7 W H ps vs
 |.box t ps,v=>∃a vs,v= .ref a/\dv H a t vs/\C7 W H ps vs
noncomputable def C7 (W:Wd) (H:Hp):List P->List V->Prop
 |[],vs=>vs=[]
 |p::ps,vs=>∃v r,vs=v::r/\Af W H p v/\C7 W H ps r
end
variable{W:Wd}{H H':Hp}{v:V}
theorem Oh:∀{ps:List P} {vs:List V},C7 W H ps vs↔Paired (Af W H) ps vs
 |[],vs=>⟨λh=>by unfold C7 at h;subst h;exact .nil,λh=>by cases h;unfold C7;rfl⟩
 | p ::ps,vs=>⟨λh=>by
     unfold C7 at h;obtain⟨v,r,rfl,h1,h2⟩:=h;exact .cons h1 (Oh.mp h2),λh=>by
     cases h with
     |cons h1 h2=>unfold C7;exact⟨_,_,rfl,h1,Oh.mpr h2⟩⟩
abbrev CU(W:Wd)(H:Hp):List P->List V->Prop:=Paired (Af W H)
theorem Ao :Af W H (.int i) v↔v= .int i:=by unfold Af;exact Iff.rfl
theorem Dj{i:Bool}:Af W H (.bl i) v↔v= .bl i:=by unfold Af;exact Iff.rfl
theorem By :Af W H (.str i) v↔v= .str i:=by unfold Af;exact Iff.rfl
theorem DJ:Af W H .A8 v↔v= .A8:=by unfold Af;exact Iff.rfl
theorem Gp{i:Nat} :Af W H (.fn i c) v↔∃a,W.fa i c a/\v= .ref a:=by unfold Af;exact Iff.rfl
theorem AX{ps:List P}:Af W H (.tup ps) v↔∃a vs,v= .ref a/\DF W.K H a vs/\CU W H ps vs:=by
 unfold Af;exact⟨λ⟨a,vs,h1,h2,h3⟩=>⟨a,vs,h1,h2,Oh.mp h3⟩,λ⟨a,vs,h1,h2,h3⟩=>⟨a,vs,h1,h2,Oh.mpr h3⟩⟩
theorem DK{t:Nat}{ps:List P}:Af W H (.box t ps) v↔∃a vs,v= .ref a/\dv H a t vs/\CU W H ps vs:=by
 unfold Af;exact⟨λ⟨a,vs,h1,h2,h3⟩=>⟨a,vs,h1,h2,Oh.mp h3⟩,λ⟨a,vs,h1,h2,h3⟩=>⟨a,vs,h1,h2,Oh.mpr h3⟩⟩
def AS(H H':Hp):Prop:=∀a,(∀xs,H a=some (.tup xs)->H' a=some (.tup xs))/\∀o u,H a=some (.Dz o u)->H' a=some (.Dz o u)
theorem AS.refl(H:Hp):AS H H:=λa=>⟨λ_ h=>h,λ_ _ h=>h⟩
theorem AS.trans{H1 H2:Hp}(a:AS H H1)(b:AS H1 H2):AS H H2:=λc=>⟨λxs h=>(b c).1 xs ((a c).1 xs h),λo u h=>(b c).2 o u ((a c).2 o u h)⟩
theorem AS.rd(k:AS H H'){u:HO}(hu:∀xs,u= .tup xs->True)(h:Rd H a u)(ht:∃xs,u= .tup xs):Rd H' a u:=by
 obtain⟨xs,rfl⟩:=ht;rcases h with h|⟨o,h⟩
 .exact .inl ((k a).1 _ h)
 .exact .inr ⟨o,(k a).2 _ _ h⟩
theorem AS.jF{K:Frag}{xs:List V}(k:AS H H')(h:DF K H a xs):DF K H' a xs:=h.imp (λh=>k.rd (λ_ _=>trivial) h ⟨xs,rfl⟩) id
variable{vs:List V}
theorem dv.mono{t:Nat}(k:AS H H')(h:dv H a t vs):dv H' a t vs:=
 h.imp (λ⟨h,o,e⟩=>⟨h,o,(k a).2 _ _ e⟩) λ⟨h,o,u,e,c⟩=>⟨h,o,u,(k a).2 _ _ e,c⟩
mutual
theorem Af.conv {W':Wd} (hK:W'.K=W.K) (hf:∀i c a,W.fa i c a->W'.fa i c a) (k:AS H H'):∀{p:P} {v:V},Af W H p v->Af W' H' p v
 |.A8,_,h| .bl _,_,h| .int _,_,h| .str _,_,h=>by unfold Af at h ⊢;exact h
 | .fn i c,_,h=>by
   unfold Af at h ⊢;exact h.imp λa h=>⟨hf _ _ _ h.1,h.2⟩
 | .box t ps,v,h=>by
   unfold Af at h ⊢;obtain⟨a,vs,e,h1,h2⟩:=h;exact⟨a,vs,e,h1.mono k,C7.conv hK hf k h2⟩
 | .tup ps,v,h=>by
   unfold Af at h ⊢;obtain⟨a,vs,e,h1,h2⟩:=h;exact⟨a,vs,e,hK▸k.jF h1,C7.conv hK hf k h2⟩
theorem C7.conv {W':Wd} (hK:W'.K=W.K) (hf:∀i c a,W.fa i c a->W'.fa i c a) (k:AS H H'):∀{ps:List P} {vs:List V},C7 W H ps vs->C7 W' H' ps vs
 |[],_,h=>by unfold C7 at h ⊢;exact h
 | p::ps,vs,h=>by
   unfold C7 at h ⊢;obtain⟨v,r,e,h1,h2⟩:=h;exact⟨v,r,e,Af.conv hK hf k h1,C7.conv hK hf k h2⟩
end
theorem Af.mono(k:AS H H')(h:Af W H p v):Af W H' p v:=Af.conv rfl (λ_ _ _ h=>h) k h
theorem CU.mono(k:AS H H'){ps:List P}(h:CU W H ps vs):CU W H' ps vs:=Paired.Kp h λ_ _ h=>h.mono k
theorem AS.of(h:DU H H'):AS H H':=λa=>⟨λ_ q=>h a _ q,λ_ _ q=>h a _ q⟩
def Em(w:World):P->Int
 |.int i=>hashInt i
 |.str x=>hashStr w x
 |_=>0
def DX(a:Addr)(es:List DictEntry):HO:=.ext λh=>∃o,h.get? a=some o/\o.ExactDict/\o.data= .dict es.toArray es.length
def Fg(W:Wd)(H:Hp)(q:P×P)(e:DictEntry):Prop:=e.hash=Em W.w q.1/\(∃k,RelV k e.key/\Af W H q.1 k)/\∃v,RelV v e.val/\Af W H q.2 v
def lq(K:Frag)(a:Addr)(es:List DictEntry):Prop:=∃o,K.lookup a=some o/\o.ExactDict/\∃ep,o.data= .dict es.toArray ep
structure JR(W:Wd)(H:Hp)(a:Addr)(kvs:List (P×P))(es:List DictEntry):Prop where
 pr:Paired (Fg W H) kvs es
 nd:(kvs.map (·.1)).Nodup
 ks:∀q∈kvs,keyOk q.1=true
 len:kvs.length<=big
 sm:(a == sysModules)=false
theorem JR.mono{kvs:List (P×P)}{es:List DictEntry}(k:AS H H')(h:JR W H a kvs es):JR W H' a kvs es:=
 ⟨Paired.Kp h.pr λ_ _ z=>⟨z.1,let⟨v,a,b⟩:=z.2.1;⟨v,a,b.mono k⟩,let⟨v,a,b⟩:=z.2.2;⟨v,a,b.mono k⟩⟩,h.nd,h.ks,h.len,h.sm⟩
def dh(K:Frag)(H:Hp)(own bor:Addr->Prop)(o:Bool)(a:Addr)(vs:List V):Prop:=if o=true then H a=some (.lst vs)/\own a else(H a=some (.lst vs)/\bor a)\/∃ob,H a=some (.Dz ob (.lst vs))
def dq(K:Frag)(H:Hp)(own bor:Addr->Prop)(o:Bool)(a:Addr)(es:List DictEntry):Prop:=if o=true then H a=some (DX a es)/\own a else(H a=some (DX a es)/\bor a)\/lq K a es
noncomputable def AI(W:Wd)(H:Hp)(own bor:Addr->Prop):C->V->Prop
 |.p x,v=>Af W H x v
 |.lst o ps,v=>∃a vs,v= .ref a/\dh W.K H own bor o a vs/\CU W H ps vs
 |.BC o kvs,v=>∃a es,v= .ref a/\dq W.K H own bor o a es/\JR W H a kvs es
 |.exc x p,v=>v= .ref W.xa/\(W.xh=true/\x=W.xn)/\Af W H p W.xv
def Dy:HO->Bool
 |.JS _=>true
 |_=>false
structure Ext(H H':Hp):Prop where
 but:∀b x,H b=some x->Dy x=false->H' b=some x
 there:∀b x,H b=some x->∃y,H' b=some y
variable{H1 H2:Hp}{a:Addr}
theorem Ext.refl(H:Hp):Ext H H:=⟨λ_ _ h _=>h,λ_ x h=>⟨x,h⟩⟩
theorem Ext.trans(p:Ext H H1)(q:Ext H1 H2):Ext H H2:=⟨λb x h n=>q.but b x (p.but b x h n) n,λb x h=>let⟨y,h⟩:=p.there b x h;q.there b y h⟩
theorem Ext.of(s:DU H H'):Ext H H':=⟨λb x h _=>s b x h,λb x h=>⟨x,s b x h⟩⟩
theorem Ext.keep(p:Ext H H'):AS H H':=λa=>⟨λ_ h=>p.but a _ h rfl,λ_ _ h=>p.but a _ h rfl⟩
theorem Ext.none(p:Ext H H')(h:H' a=none):H a=none:=by
 cases e:H a with
 |none=>rfl
 |some x=>obtain⟨y,z⟩:=p.there a x e;rw[h]at z;cases z
theorem AF(h:H a=none):DU H (upd H a o):=λb x e=>by rw[Ac (Bb e h)];exact e
def ME(H:Hp)(q:Addr×Str):Prop:=∃(oc:Obj) (u:HO) (vs:Array Value) (t:Tok),H q.1=some (.Dz oc u)/\oc.data= .fields vs/\vs[1]? =some (.str q.2 t)
variable{H H':Hp}
theorem ME.keep{q:Addr×Str}(h:ME H q)(k:AS H H'):ME H' q:=let⟨oc,u,vs,t,e1,e2⟩:=h;⟨oc,u,vs,t,(k _).2 _ _ e1,e2⟩
def BX(W:Wd)(H:Hp):Prop:=(∀q∈W.tabs,∃ps:Array Value,H q.1=some (.JS ps)/\TriplesOk ps.toList/\∀cv,codeAmong q.2.1 ps.toList=some cv->∃c,cv= .ref c/\ME H (c,q.2.2))/\∀q∈W.OX,ME H q
variable{W:Wd}
theorem BX.keep(h:BX W H)(k:AS H H')(n:∀b ps,H b=some (.JS ps)->H' b=some (.JS ps)):BX W H':=
 ⟨λq hq=>
   let⟨ps,a,b,c⟩:=h.1 q hq
   ⟨ps,n _ ps a,b,λcv e=>let⟨d,e1,e2⟩:=c cv e;⟨d,e1,e2.keep k⟩⟩,λq hq=>(h.2 q hq).keep k⟩
theorem BX.same(h:BX W H)(s:DU H H'):BX W H':=h.keep (AS.of s) λ_ ps e=>s _ _ e
section
variable{own own' bor bor':Addr->Prop}
theorem AI.mono(h:AI W H own bor c v)(k:AS H H')(ho:∀a x,own a->H a=some x->Dy x=false->H' a=some x/\own' a)(hb:∀a x,bor a->H a=some x->Dy x=false->H' a=some x/\bor' a):AI W H' own' bor' c v:=by
 cases c with
 |p x=>exact Af.mono k h
 |exc x p=>exact⟨h.1,h.2.1,h.2.2.mono k⟩
 |lst o ps=>
   obtain⟨a,vs,e,h1,h2⟩:=h;refine⟨a,vs,e,?_,CU.mono k h2⟩;unfold dh at h1 ⊢;cases o with
   |true=>exact ho a _ h1.2 h1.1 rfl
   |false=>exact h1.imp (λh=>hb a _ h.2 h.1 rfl) λ⟨ob,h⟩=>⟨ob,(k a).2 _ _ h⟩
 |BC o kvs=>
   obtain⟨a,es,e,h1,h2⟩:=h;refine⟨a,es,e,?_,h2.mono k⟩;unfold dq at h1 ⊢;cases o with
   |true=>exact ho a _ h1.2 h1.1 rfl
   |false=>exact h1.imp (λh=>hb a _ h.2 h.1 rfl) id
theorem AI.ext(h:AI W H own bor c v)(e:Ext H H')(ho:∀a,own a->own' a)(hb:∀a,bor a->bor' a):AI W H' own' bor' c v:=
 h.mono e.keep (λa x p q n=>⟨e.but a x q n,ho a p⟩) λa x p q n=>⟨e.but a x q n,hb a p⟩
theorem AI.borrow{c:C}(h:AI W H own bor c v)(ho:∀a,own a->bor a):AI W H own' bor c.bor v:=by
 cases c with
 |p x=>exact h
 |exc x p=>exact h
 |lst o ps=>
   obtain⟨a,vs,e,h1,h2⟩:=h;refine⟨a,vs,e,?_,h2⟩;cases o with
   |true=>exact .inl ⟨h1.1,ho a h1.2⟩
   |false=>exact h1
 |BC o kvs=>
   obtain⟨a,es,e,h1,h2⟩:=h;refine⟨a,es,e,?_,h2⟩;cases o with
   |true=>exact .inl ⟨h1.1,ho a h1.2⟩
   |false=>exact h1
abbrev Ef(W:Wd)(H:Hp):C->V->Prop:=AI W H (λ_=>True) (λ_=>True)
theorem AI.rd(h:AI W H own bor c v):Ef W H c v:=h.ext (Ext.refl H) (λ_ _=>trivial) λ_ _=>trivial
end
structure Lo(W:Wd)(B:Addr->Prop)(H:Hp)(ρ:Env)(σ:St):Prop where
 len:σ.length=ρ.length
 tb:BX W H
 HI:∀a,B a->∃x,H a=some x
 get:∀i c,Ap ρ i=some c->∃v,σ[i]? =some (some v)/\AI W H B B c v
section
variable{B:Addr->Prop}{ρ:Env}{σ:St}
theorem Lo.ext(h:Lo W B H ρ σ)(e:Ext H H')(t:BX W H'):Lo W B H' ρ σ:=
 ⟨h.len,t,λa b=>let⟨x,q⟩:=h.HI a b;e.there a x q,λi c q=>let⟨v,q1,q2⟩:=h.get i c q;⟨v,q1,q2.ext e (λ_ z=>z) λ_ z=>z⟩⟩
abbrev XP:=Nat->P->St->Hp->Prop
abbrev Rp(α β:Type):=(Addr->Prop)->Hp->Hp->α->β->Prop
section
variable (W:Wd)(EX:XP){α β:Type}
def Di(rep:Rp α β)(B:Addr->Prop)(H:Hp)(σ:St)(r:Res α)(Q:β->Hp->Prop):Prop:=match r with
 |.stuck=>False
 |.ok a=>∀b H',Ext H H'->BX W H'->rep B H H' a b->Q b H'
 |.err x p=>∀H',Ext H H'->BX W H'->EX x p σ H'
def tG(rep:Rp α β)(F:Env->Res α):St->Hp->(β->Hp->Prop)->Prop:=λσ H Q=>∃ρ B,Lo W B H ρ σ/\Di W EX rep B H σ (F ρ) Q
def rV:Rp C V:=λB H H' c v=>AI W H' (λa=>H a=none) B c v
def rB:Rp Bool Bool:=λ_ _ _ b b'=>b=b'
def CC(H:Hp)(own:Nat->Addr->Prop)(bor:Addr->Prop):Nat->List C->List V->Prop
 |_,[],vs=>vs=[]
 |j,c::cs,vs=>∃v r,vs=v::r/\AI W H (own j) bor c v/\CC H own bor (j+1) cs r
def W9:Rp (List C) (List V):=λB H H' cs vs=>∃O:Addr->Nat,CC W H' (λj a=>H a=none/\O a=j) B 0 cs vs
def U0:Rp (List P) (List V):=λ_ _ H' ps vs=>CU W H' ps vs
end
variable{EX:XP}{α β γ δ:Type}
def SK(rep:Rp α β):Prop:=∀B H H1 H' a b,Ext H H1->rep B H1 H' a b->rep B H H' a b
theorem AB:SK (rV W):=λ_ _ _ _ _ _ e h=>h.ext (Ext.refl _) (λ_=>e.none) λ_ z=>z
theorem EH:SK rB:=λ_ _ _ _ _ _ _ h=>h
theorem Ka:SK (U0 W):=λ_ _ _ _ _ _ _ h=>h
theorem CC.imp{own own':Nat->Addr->Prop}{bor bor':Addr->Prop}(e:Ext H H')(ho:∀j a,own j a->own' j a)(hb:∀a,bor a->bor' a):∀{j:Nat} {cs:List C} {vs:List V},CC W H own bor j cs vs->CC W H' own' bor' j cs vs
 |_,[],_,h=>h
 |j,_::_,_,⟨v,r,q,h1,h2⟩=>⟨v,r,q,h1.ext e (ho j) hb,CC.imp e ho hb h2⟩
theorem Di.later{rep:Rp α β}(an:SK rep){r:Res α}{Q:β->Hp->Prop}(h:Di W EX rep B H σ r Q)(e:Ext H H1):Di W EX rep B H1 σ r Q:=by
 cases r with
 |stuck=>exact h
 |ok a=>exact λb H' e1 t1 r1=>h b H' (e.trans e1) t1 (an _ _ _ _ _ _ e r1)
 |err x p=>exact λH' e1 t1=>h H' (e.trans e1) t1
variable{rA:Rp α β}
theorem Di.step{rep:Rp γ δ}(an:SK rep){r:Res α}{G:α->Res γ}{Q:δ->Hp->Prop}{K:β->Hp->Prop}(h:Di W EX rep B H σ (r.bind G) Q)
 (k:∀a b H1,r= .ok a->Ext H H1->BX W H1->rA B H H1 a b->Di W EX rep B H1 σ (G a) Q->K b H1):Di W EX rA B H σ r K:=by
 cases r with
 |stuck=>exact h
 |err x p=>exact h
 |ok a=>exact λb H1 e1 t1 r1=>k a b H1 rfl e1 t1 r1 (Di.later an (r:=G a) h e1)
theorem Di.HY{rep:Rp γ δ}{r:Res α}{G:α->Res γ}{Q:δ->Hp->Prop}{K:β->Hp->Prop}(h:Di W EX rep B H σ (r.bind G) Q)(f:Ext H H1)
 (k:∀a b H2,Ext H1 H2->BX W H2->rA B H1 H2 a b->Di W EX rep B H σ (G a) Q->K b H2):Di W EX rA B H1 σ r K:=by
 cases r with
 |stuck=>exact h
 |err x p=>exact λH2 e2 t2=>h H2 (f.trans e2) t2
 |ok a=>exact λb H2 e1 t1 r1=>k a b H2 e1 t1 r1 h
theorem Di.imp{rep:Rp α β}{r:Res α}{Q Q':β->Hp->Prop}(h:Di W EX rep B H σ r Q)(k:∀b H',Q b H'->Q' b H'):Di W EX rep B H σ r Q':=by
 cases r with
 |stuck=>exact h
 |err x p=>exact h
 |ok a=>exact λb H1 e1 t1 r1=>k _ _ (h b H1 e1 t1 r1)
theorem Di.of{rep:Rp α β}{o:Option α}{Q:β->Hp->Prop}(h:Di W EX rep B H σ (Res.of o) Q):∃a,o=some a/\Di W EX rep B H σ (.ok a) Q:=by
 cases o with
 |none=>exact h.elim
 |some a=>exact⟨a,rfl,h⟩
theorem Di.C2{rep:Rp α β}{o:Option γ}{G:γ->Res α}{Q:β->Hp->Prop}(h:Di W EX rep B H σ ((Res.of o).bind G) Q):∃a,o=some a/\Di W EX rep B H σ (G a) Q:=by
 cases o with
 |none=>exact h.elim
 |some a=>exact⟨a,rfl,h⟩
section
variable (W:Wd)
def Cq(H:Hp)(c:C)(Q:VK):Prop:=∀v H',DU H H'->AI W H' (λa=>H a=none) (λ_=>False) c v->Q v H'
def AY(g:C->C->Option C):R2:=λx y H Q=>∃c1 c2 c,Ef W H c1 x/\Ef W H c2 y/\g c1 c2=some c/\Cq W H c Q
def BJ(g:C->Option C):V->Hp->VK->Prop:=λx H Q=>∃c1 c,Ef W H c1 x/\g c1=some c/\Cq W H c Q
end
theorem Cq.plain{Q:VK}(q:Cq W H (.p x) Q)(r:Af W H x v):Q v H:=q v H (DU.refl H) r
variable{vs:List V}
theorem Cq.list{ps:List P}{Q:VK}(q:Cq W H (.lst true ps) Q)(r:CU W H ps vs)(p:Addr)(hp:H p=none):Q (.ref p) (upd H p (.lst vs)):=
 q (.ref p) _ (AF hp) ⟨p,vs,rfl,⟨Ag,hp⟩,r.mono (AS.of (AF hp))⟩
theorem Cq.tup{ps:List P}{Q:VK}(q:Cq W H (.p (.tup ps)) Q)(r:CU W H ps vs)(p:Addr)(hp:H p=none):Q (.ref p) (upd H p (.tup vs)):=
 q (.ref p) _ (AF hp) (AX.mpr ⟨p,vs,rfl,DF.of Ag,r.mono (AS.of (AF hp))⟩)
theorem Di.new{Q:VK}(h:Di W EX (rV W) B H σ (.ok c) Q)(t:BX W H):Cq W H c Q:=λv H' s r=>h v H' (.of s) (t.same s) (r.ext (Ext.refl _) (λ_ z=>z) λ_ z=>z.elim)
variable{F G:Env->Res C}{Q:VK}
theorem VQ{g:C->Option C}(h:tG W EX (rV W) (λρ=>(F ρ).bind λx=>Res.of (g x)) σ H Q):tG W EX (rV W) F σ H λx H1=>BJ W g x H1 Q:=by
 obtain⟨ρ,B,R,hA⟩:=h;refine⟨ρ,B,R,hA.step AB λc v H1 _ e1 t1 r1 h1=>?_⟩;obtain⟨r,er,h1⟩:=h1.of;exact⟨c,r,r1.rd,er,h1.new t1⟩
theorem MJ{g:C->C->Option C}(h:tG W EX (rV W) (λρ=>(F ρ).bind λx=>(G ρ).bind λy=>Res.of (g x y)) σ H Q):aI (AY W g) (tG W EX (rV W) F) (tG W EX (rV W) G) σ H Q:=by
 obtain⟨ρ,B,R,hA⟩:=h;refine⟨ρ,B,R,hA.step AB λc v H1 _ e1 t1 r1 h1=>⟨ρ,B,R.ext e1 t1,h1.step AB λd u H2 _ e2 t2 r2 h2=>?_⟩⟩;obtain⟨r,er,h2⟩:=h2.of;exact⟨c,d,r,r1.rd.ext e2 (λ_ z=>z) λ_ z=>z,r2.rd,er,h2.new t2⟩
variable{Q':List V->Hp->Prop}
theorem PD(h:tG W EX (W9 W) (λ_=>.ok []) σ H Q'):PJ σ H Q':=by
 obtain⟨ρ,B,R,hA⟩:=h;exact hA [] H (Ext.refl H) R.tb ⟨λ_=>0,rfl⟩
theorem CC.shift{own:Nat->Addr->Prop}{bor:Addr->Prop}:∀{j:Nat} {cs:List C} {vs:List V},CC W H (λj=>own (j + 1)) bor j cs vs->CC W H own bor (j + 1) cs vs
 |_,[],_,h=>h
 |_,_::_,_,⟨v,r,q,h1,h2⟩=>⟨v,r,q,h1,CC.shift h2⟩
open Classical in
theorem Lx {Gs:Env->Res (List C)} (h:tG W EX (W9 W) (λρ=>(F ρ).bind λc=>(Gs ρ).bind λcs=>.ok (c::cs)) σ H Q'):JZ (tG W EX (rV W) F) (tG W EX (W9 W) Gs) σ H Q':=by
 obtain⟨ρ,B,R,hA⟩:=h;refine⟨ρ,B,R,hA.HY (Ext.refl H) λc v H1 e1 t1 r1 h1=>⟨ρ,B,R.ext e1 t1,h1.HY e1 λcs vs H2 e2 t2 ⟨O,r2⟩ h2=>?_⟩⟩;refine h2 (v::vs) H2 (e1.trans e2) t2 ⟨λa=>if H1 a=none then O a+1 else 0,v,vs,rfl,?_,CC.shift (r2.imp (Ext.refl _) (λj a z=>⟨e1.none z.1,?_⟩) λ_ z=>z)⟩
 .refine AI.mono r1 e2.keep (λa x p q n=>⟨e2.but a x q n,p,?_⟩) λa x p q n=>⟨e2.but a x q n,p⟩
  exact iN λz=>by rw[q]at z;cases z
 .show(if H1 a=none then O a+1 else 0)=j+1;rw[iP z.1,z.2]
end
end Nv
namespace Nv
open PySem L2 PyProof.Rows
variable{X:Cx}{W:Wd}{EX:XP}
theorem Au{t t':TE}(h:PE X e t)(k:∀σ H Q,t' σ H Q->t σ H Q):PE X e t':=λpins s σ H Q I z=>h pins s σ H Q I (k σ H Q z)
theorem GW{t t':TT}(h:PT X e t)(k:∀σ H Q,t' σ H Q->t σ H Q):PT X e t':=λpins s σ H Q I z=>h pins s σ H Q I (k σ H Q z)
theorem Je{t t':TA}(h:PA X e t)(k:∀σ H Q,t' σ H Q->t σ H Q):PA X e t':=λpos pins s σ H Q I z=>h pos pins s σ H Q I (k σ H Q z)
variable{t':TS}
theorem C1{e:Stmt}{t:TS}(h:PS X e t)(k:∀D σ H,t' D σ H->t D σ H):PS X e t':=λpins s σ H D I z=>h pins s σ H D I (k D σ H z)
theorem J2{e:List Stmt}{t:TS}(h:Lp X e t)(k:∀D σ H,t' D σ H->t D σ H):Lp X e t':=λpins s σ H D I z=>h pins s σ H D I (k D σ H z)
def VI(a:Addr)(u:HO)(o:Obj):Prop:=(∃xs,u= .lst xs)\/((∃es,u=DX a es)/\o.cls= .type "dict")
def iH(t:TE):TE:=λσ H Q=>t σ H λv H1=>Q v H1\/∃a u,v= .ref a/\H1 a=some u/\((∃xs,u= .lst xs)\/∃es,u=DX a es)/\∀o,VI a u o->Q v (upd H1 a (.Dz o u))
theorem bp{t:TE}(h:PE X e t):PE X e (iH t):=by
 intro pins s σ H Q I z;refine thn (h pins s σ H _ I z) λw s1 ⟨v,H1,I1,r,q⟩=>?_
 rcases q with q|⟨a,u,e1,e2,e3,q⟩
 .exact⟨v,H1,I1,r,q⟩
 .have Aq:=I1.Aq a u e2
  have key:ZV (H1 a)/\∃o,s1.heap.get? a=some o/\VI a u o:=by
   rcases e3 with⟨xs,rfl⟩|⟨es,rfl⟩
   .obtain⟨_,its,n,_,e⟩:=Aq;exact⟨by rw[e2];trivial,_,e,.inl ⟨xs,rfl⟩⟩
   .obtain⟨⟨o,h1,h2,_⟩,_⟩:=Aq;exact⟨by rw[e2];trivial,o,h1,.inr ⟨⟨es,rfl⟩,h2.1⟩⟩
  obtain⟨mu,o,ho,fz⟩:=key;refine⟨v,upd H1 a (.Dz o u),I1.write (x:=a) (e:=a) (t':=s1.toks) mu (.inl rfl) (λb u hb q=>q) ⟨o,ho⟩ ⟨ho,?_⟩,r,q o fz⟩;rcases e3 with⟨xs,rfl⟩|⟨es,rfl⟩
  .exact Aq
  .exact Aq
variable{σ:L2.St}{H:Hp}{F:Env->Res C}
variable{H1:Hp}
theorem V5{u:HO}(e:Ext H H1)(hn:H a=none):Ext H (upd H1 a u'):=
 ⟨λb x h n=>by rw[Ac (Bb h hn)];exact e.but b x h n,λb x h=>by rw[Ac (Bb h hn)];exact e.there b x h⟩
theorem D7{u:HO}(ha:H1 a=some u)(hu:∀xs,u≠.tup xs)(hv:∀o w,u≠.Dz o w):AS H1 (upd H1 a u'):=λc=>by
 by_cases hc:c=a
 .subst hc;exact⟨λxs q=>(by rw[ha]at q;cases q;exact absurd rfl (hu _)),λo w q=>(by rw[ha]at q;cases q;exact absurd rfl (hv _ _))⟩
 .rw[Ac hc];exact⟨λ_ q=>q,λ_ _ q=>q⟩
theorem Py{u:HO}(t:BX W H1)(ha:H1 a=some u)(hu:∀xs,u≠.tup xs)(hv:∀o w,u≠.Dz o w)(hn:Dy u=false):BX W (upd H1 a u'):=
 t.keep (D7 ha hu hv) λb ps e=>by rw[Ac λz=>by rw[z,ha]at e;cases e;cases hn];exact e
variable{Q':List V->Hp->Prop}
theorem WX(h:tG W EX (U0 W) (λ_=>.ok []) σ H Q'):PJ σ H Q':=by
 obtain⟨ρ,B,R,hA⟩:=h;exact hA [] H (Ext.refl H) R.tb .nil
variable{Gs:Env->Res (List P)}
theorem Di.Wx{B:Addr->Prop}(R:Lo W B H1 ρ σ)(rx:Af W H1 x v)(h:Di W EX (U0 W) B H1 σ ((Gs ρ).bind λxs=>.ok (x::xs)) Q'):tG W EX (U0 W) Gs σ H1 λvs H2=>Q' (v::vs) H2:=
 ⟨ρ,B,R,h.HY (Ext.refl _) λxs vs H2 e2 t2 r2 h2=>h2 (v::vs) H2 e2 t2 (.cons (rx.mono e2.keep) r2)⟩
theorem Tb(h:tG W EX (U0 W) (λρ=>(F ρ).bind λc=>(Res.of c.Dz).bind λx=>(Gs ρ).bind λxs=>.ok (x::xs)) σ H Q'):JZ (iH (tG W EX (rV W) F)) (tG W EX (U0 W) Gs) σ H Q':=by
 obtain⟨ρ,B,R,hA⟩:=h;refine⟨ρ,B,R,hA.HY (Ext.refl H) λc v H1 e1 t1 r1 h1=>?_⟩;obtain⟨x,ex,h1⟩:=h1.C2
 have fz:∀(a:Addr) (u:HO),v= .ref a->H1 a=some u->H a=none->((∃xs,u= .lst xs)\/∃es,u=DX a es)->(∀o,VI a u o->AS H1 (upd H1 a (.Dz o u))->Af W (upd H1 a (.Dz o u)) x v)->
  ∃a u,v= .ref a/\H1 a=some u/\((∃xs,u= .lst xs)\/∃es,u=DX a es)/\∀o,VI a u o->tG W EX (U0 W) Gs σ (upd H1 a (.Dz o u)) λvs H2=>Q' (v::vs) H2:=λa u e ea hn hu hr=>by
  have n1:∀xs,u≠.tup xs:=λxs z=>by subst z;rcases hu with⟨_,z⟩|⟨_,z⟩<;>exact HO.noConfusion z
  have n2:∀o w,u≠.Dz o w:=λo w z=>by subst z;rcases hu with⟨_,z⟩|⟨_,z⟩<;>exact HO.noConfusion z
  have n3:Dy u=false:=by rcases hu with⟨_,rfl⟩|⟨_,rfl⟩<;>rfl
  refine⟨a,u,e,ea,hu,λo ho=>?_⟩;have e2:Ext H (upd H1 a (.Dz o u)):=V5 (u:=u) e1 hn;exact Di.Wx (R.ext e2 (Py t1 ea n1 n2 n3)) (hr o ho (D7 ea n1 n2)) (h1.later Ka e2)
 cases c with
 |p y=>cases ex;exact .inl (Di.Wx (R.ext e1 t1) r1 (h1.later Ka e1))
 |exc y p=>cases ex
 |lst o ps=>
   cases o with
   |false=>cases ex
   |true=>
     cases ex;obtain⟨a,vs,rfl,⟨k1,k2⟩,k3⟩:=r1;exact .inr (fz a _ rfl k1 k2 (.inl ⟨vs,rfl⟩) λo _ kp=>DK.mpr ⟨a,vs,rfl,.inl ⟨rfl,o,Ag⟩,k3.mono kp⟩)
 |BC o kvs=>
   cases o with
   |false=>cases ex
   |true=>
     cases kvs with
     |cons _ _=>cases ex
     |nil=>
       cases ex;obtain⟨a,es,rfl,⟨k1,k2⟩,_⟩:=r1;refine .inr (fz a _ rfl k1 k2 (.inr ⟨es,rfl⟩) λo ho kp=>DK.mpr ⟨a,[],rfl,.inr ⟨rfl,o,_,Ag,?_⟩,.nil⟩);rcases ho with⟨_,z⟩|⟨_,z⟩
       .exact HO.noConfusion z
       .exact z
theorem aF{F G:Env->Res Bool}{Q:Bool->Hp->Prop}(h:tG W EX rB (λρ=>(F ρ).bind λk=>if k then G ρ else .ok false) σ H Q):aN (tG W EX rB F) (tG W EX rB G) σ H Q:=by
 obtain⟨ρ,B,R,hA⟩:=h;refine⟨ρ,B,R,hA.step EH λk k' H1 _ e1 t1 r1 h1=>?_⟩;cases r1;cases k with
 |true=>exact⟨ρ,B,R.ext e1 t1,h1⟩
 |false=>exact h1 false H1 (Ext.refl _) t1 rfl
theorem eR{F G:Env->Res Bool}{Q:Bool->Hp->Prop}(h:tG W EX rB (λρ=>(F ρ).bind λk=>if k then .ok true else G ρ) σ H Q):iE (tG W EX rB F) (tG W EX rB G) σ H Q:=by
 obtain⟨ρ,B,R,hA⟩:=h;refine⟨ρ,B,R,hA.step EH λk k' H1 _ e1 t1 r1 h1=>?_⟩;cases r1;cases k with
 |false=>exact⟨ρ,B,R.ext e1 t1,h1⟩
 |true=>exact h1 true H1 (Ext.refl _) t1 rfl
theorem aC{F:Env->Res Bool}{Q:Bool->Hp->Prop}(h:tG W EX rB (λρ=>(F ρ).bind λk=>.ok (!k)) σ H Q):aJ (tG W EX rB F) σ H Q:=by
 obtain⟨ρ,B,R,hA⟩:=h;refine⟨ρ,B,R,hA.step EH λk k' H1 _ e1 t1 r1 h1=>?_⟩;cases r1;exact h1 _ H1 (Ext.refl _) t1 rfl
theorem Fc{c:C}{k:Bool}(h:c.Fj =some k):c= .p (.bl k):=by
 cases c with
 |p x=>cases x<;>first|(cases h;rfl)|cases h
 |_=>cases h
theorem K9{B:Addr->Prop}{k:Bool}:rV W B H H1 (.p (.bl k)) (.bl k):=(Dj (W:=W) (H:=H1)).mpr rfl
theorem Ek{own bor:Addr->Prop}{k:Bool}(h:AI W H1 own bor (.p (.bl k)) v):v= .bl k:=(Dj (W:=W) (H:=H1)).mp h
theorem WZ{F G:Env->Res C}{Q:VK}(h:tG W EX (rV W) (λρ=>(F ρ).bind λc=>(Res.of c.Fj).bind λk=>if k then G ρ else .ok (.p (.bl false))) σ H Q):VX (tG W EX (rV W) F) (tG W EX (rV W) G) σ H Q:=by
 obtain⟨ρ,B,R,hA⟩:=h;refine⟨ρ,B,R,hA.step AB λc v H1 _ e1 t1 r1 h1=>?_⟩;obtain⟨k,ek,h2⟩:=h1.C2;clear h1;cases Fc ek;refine⟨k,Ek r1,?_⟩;cases k with
 |true=>exact⟨ρ,B,R.ext e1 t1,h2⟩
 |false=>exact h2 _ H1 (Ext.refl _) t1 K9
theorem aB{F G:Env->Res C}{Q:VK}(h:tG W EX (rV W) (λρ=>(F ρ).bind λc=>(Res.of c.Fj).bind λk=>if k then .ok (.p (.bl true))else G ρ) σ H Q):aH (tG W EX (rV W) F) (tG W EX (rV W) G) σ H Q:=by
 obtain⟨ρ,B,R,hA⟩:=h;refine⟨ρ,B,R,hA.step AB λc v H1 _ e1 t1 r1 h1=>?_⟩;obtain⟨k,ek,h2⟩:=h1.C2;clear h1;cases Fc ek;refine⟨k,Ek r1,?_⟩;cases k with
 |false=>exact⟨ρ,B,R.ext e1 t1,h2⟩
 |true=>exact h2 _ H1 (Ext.refl _) t1 K9
theorem WW{Q:VK}(h:tG W EX (rV W) (λρ=>(F ρ).bind λc=>(Res.of c.Fj).bind λk=>.ok (.p (.bl (!k)))) σ H Q):VV (tG W EX (rV W) F) σ H Q:=by
 obtain⟨ρ,B,R,hA⟩:=h;refine⟨ρ,B,R,hA.step AB λc v H1 _ e1 t1 r1 h1=>?_⟩;obtain⟨k,ek,h2⟩:=h1.C2;clear h1;cases Fc ek;exact⟨k,Ek r1,h2 _ H1 (Ext.refl _) t1 K9⟩
theorem aE{B:Env->Res Bool}{F G:Env->Res C}{Q:VK}(h:tG W EX (rV W) (λρ=>(B ρ).bind λk=>if k then F ρ else G ρ) σ H Q):iG (tG W EX rB B) (tG W EX (rV W) F) (tG W EX (rV W) G) σ H Q:=by
 obtain⟨ρ,Bo,R,hA⟩:=h;refine⟨ρ,Bo,R,hA.step AB λk k' H1 _ e1 t1 r1 h1=>?_⟩;cases r1;cases k with
 |true=>exact⟨ρ,Bo,R.ext e1 t1,h1⟩
 |false=>exact⟨ρ,Bo,R.ext e1 t1,h1⟩
theorem VS{f g:C->C->Option C}{F1 F2 F3:Env->Res C}{Q:VK}(h:tG W EX (rV W) (λρ=>(F1 ρ).bind λx=>(F2 ρ).bind λy=>(Res.of ((f x y).bind C.Fj)).bind λk=>if k then(F3 ρ).bind λz=>Res.of (g y z)else .ok (.p (.bl false))) σ H Q):
 Lz (AY W f) (AY W g) (tG W EX (rV W) F1) (tG W EX (rV W) F2) (tG W EX (rV W) F3) σ H Q:=by
 obtain⟨ρ,B,R,hA⟩:=h;refine⟨ρ,B,R,hA.step AB λc v H1 _ e1 t1 r1 h1=>⟨ρ,B,R.ext e1 t1,h1.step AB λd u H2 _ e2 t2 r2 h2=>?_⟩⟩;obtain⟨k,ek,h5⟩:=h2.C2;clear h2;obtain⟨c',ec,ek⟩:=Option.bind_eq_some_iff.mp ek;cases Fc ek;refine⟨c,d,_,r1.rd.ext e2 (λ_ z=>z) λ_ z=>z,r2.rd,ec,λw H3 s3 r3=>⟨k,Ek r3,?_⟩⟩;have e3:=Ext.of s3;have t3:=t2.same s3;cases k with
 |true=>
   show tG W EX (rV W) F3 σ H3 _;refine⟨ρ,B,(R.ext (e1.trans e2) t2).ext e3 t3,(h5.later AB e3).step AB λz w H4 _ e4 t4 r4 h4=>?_⟩;obtain⟨r,er,h4⟩:=h4.of;exact⟨d,z,r,r2.rd.ext (e3.trans e4) (λ_ z=>z) λ_ z=>z,r4.rd,er,h4.new t4⟩
 |false=>exact h5 _ H3 e3 t3 K9
variable{α:Type}
theorem or_some{x y:Option α}{z:α}(h:(x <|> y)=some z):x=some z\/y=some z:=by
 cases x with
 |none=>exact .inr h
 |some a=>exact .inl h
theorem BH:big<=sizeLine:=by decide
theorem Ae{β:Type}{x:Option α}{f:α->Option β}{b:β}(h:x.bind f=some b):∃a,x=some a/\f a=some b:=Option.bind_eq_some_iff.mp h
theorem Bg{β:Type}{x:Option α}{f:α->β}{b:β}(h:x.map f=some b):∃a,x=some a/\f a=b:=oM h
theorem C.Cs{c:C}{x:P}(h:c.GZ =some x):c= .p x:=by cases c<;>cases h;rfl
theorem C.Bh{c:C}{i:Int}(h:c.int? =some i):c= .p (.int i):=let⟨_,h1,h2⟩:=Ae h;by rw[C.Cs h1,P.Bh h2]
theorem C.BE{c:C}{i:Str}(h:c.BZ =some i):c= .p (.str i):=let⟨_,h1,h2⟩:=Ae h;by rw[C.Cs h1,P.BE h2]
theorem C.Bx{c:C}{i:List P}(h:c.CV =some i):c= .p (.tup i):=let⟨_,h1,h2⟩:=Ae h;by rw[C.Cs h1,P.Bx h2]
section
variable{v:V}{own bor:Addr->Prop}
theorem JT(h:AI W H own bor (.p x) v):Af W H x v:=h
theorem Ba(h:AI W H own bor (.p (.int i)) v):v= .int i:=Ao.mp (JT h)
theorem BO(h:AI W H own bor (.p (.str i)) v):v= .str i:=By.mp (JT h)
theorem GV(h:AI W H own bor (.p .A8) v):v= .A8:=DJ.mp (JT h)
theorem Cb{ps:List P}(h:AI W H own bor (.p (.tup ps)) v):∃a vs,v= .ref a/\DF W.K H a vs/\CU W H ps vs:=AX.mp (JT h)
theorem UN{x:P}{ps:List P}(h:x.Il =some ps):x= .box 0 ps:=by
 obtain⟨r,h1,h2⟩:=Ae h;split at h2
 .rename_i h0;cases h2;rw[P.Sa h1,h0]
 .cases h2
theorem BF{c:C}{ps:List P}(e:c.Gg =some ps)(h:AI W H own bor c v):∃a vs,v= .ref a/\Rd H a (.lst vs)/\CU W H ps vs:=by
 cases c with
 |p x=>
   cases UN e;obtain⟨a,vs,e1,e2,e3⟩:=DK.mp (JT h);rcases e2 with⟨_,o,e2⟩|⟨z,_⟩
   .exact⟨a,vs,e1,.inr ⟨o,e2⟩,e3⟩
   .cases z
 |lst o qs=>
   cases e;obtain⟨a,vs,e1,e2,e3⟩:=h;refine⟨a,vs,e1,?_,e3⟩;cases o with
   |true=>exact .inl e2.1
   |false=>exact e2.imp (·.1) id
 |BC o kvs=>cases e
 |exc x p=>cases e
theorem Fx{c:C}{ps:List P}(e:c.seq? =some ps)(h:AI W H own bor c v):∃a vs,v= .ref a/\(Ep W.K H a vs\/DF W.K H a vs)/\CU W H ps vs:=by
 rcases or_some e with e|e
 .obtain⟨a,vs,e1,e2,e3⟩:=BF e h;exact⟨a,vs,e1,.inl (.inl e2),e3⟩
 .cases C.Bx e;obtain⟨a,vs,e1,e2,e3⟩:=Cb h;exact⟨a,vs,e1,.inr e2,e3⟩
theorem Cq.bl{b:Bool}{Q:VK}(q:Cq W H (bC b) Q):Q (.bl b) H:=q.plain (Dj.mpr rfl)
theorem Cq.int{Q:VK}(q:Cq W H (.p (.int b)) Q):Q (.int b) H:=q.plain (Ao.mpr rfl)
theorem Cq.str{Q:VK}(q:Cq W H (.p (.str b)) Q):Q (.str b) H:=q.plain (By.mpr rfl)
theorem MW{ps:List P}{vs:List V}(h:CU W H ps vs):vs=[]↔ps=[]:=by cases h<;>simp
end
theorem BA.or{f:Value->Value->Sem Value}{g g':C->C->Option C}(h:BA X f (AY W g))(h':BA X f (AY W g')):BA X f (AY W λa b=>g a b <|> g' a b):=by
 rintro pins s σ H x y v u Q I rx ry ⟨c1,c2,c,h1,h2,e,q⟩
 rcases or_some e with z|z
 .exact h pins s σ H x y v u Q I rx ry ⟨c1,c2,c,h1,h2,z,q⟩
 .exact h' pins s σ H x y v u Q I rx ry ⟨c1,c2,c,h1,h2,z,q⟩
theorem Fz{f:Value->Value->Sem Value}{g:Int->Int->Option Int}{r:R2}(ho:BA X f r)(hr:∀i j k H Q,g i j=some k->Q (.int k) H->r (.int i) (.int j) H Q):BA X f (AY W (A3 g)):=by
 rintro pins s σ H x y v u Q I rx ry ⟨c1,c2,c,h1,h2,e,q⟩
 obtain⟨i,ei,e⟩:=Ae e;obtain⟨j,ej,e⟩:=Ae e;obtain⟨k,ek,rfl⟩:=Bg e;cases C.Bh ei;cases C.Bh ej;cases Ba h1;cases Ba h2;exact ho pins s σ H _ _ v u Q I rx ry (hr i j k H Q ek q.int)
theorem A6{c:Prop}[Decidable c]{a b:α}(h:(if c then some a else none)=some b):c/\a=b:=by
 split at h
 .exact⟨‹_›,Option.some.inj h⟩
 .cases h
theorem bG:BA X (binaryOp .Sub) (AY W (A3 Et)):=Fz Y5 λi j k H Q e q=>by cases e;exact⟨i,j,rfl,rfl,q⟩
theorem bK:BA X (binaryOp .Mod) (AY W (A3 Ab)):=Fz Y9 λi j k H Q e q=>by obtain⟨h,rfl⟩:=A6 e;exact⟨i,j,rfl,rfl,h,q⟩
theorem Yh:BA X (binaryOp .FloorDiv) (AY W (A3 A7)):=Fz Ui λi j k H Q e q=>by obtain⟨h,rfl⟩:=A6 e;exact⟨i,j,rfl,rfl,h,q⟩
theorem bH:BA X (binaryOp .Pow) (AY W (A3 Ge)):=Fz Y7 λi j k H Q e q=>by obtain⟨h,rfl⟩:=A6 e;exact⟨i,j,rfl,rfl,⟨h.1,by lia,h.2.2⟩,q⟩
theorem bM(hK:W.K=X.K):BA X (binaryOp .Add) (AY W A5):=by
 refine BA.or (Fz Yc λi j k H Q e q=>by cases e;exact⟨i,j,rfl,rfl,q⟩) (BA.or ?_ (BA.or ?_ ?_))
 .rintro pins s σ H x y v u Q I rx ry ⟨c1,c2,c,h1,h2,e,q⟩
  obtain⟨i,ei,e⟩:=Ae e;obtain⟨j,ej,e⟩:=Ae e;obtain⟨hl,rfl⟩:=A6 e;cases C.BE ei;cases C.BE ej;cases BO h1;cases BO h2;exact LO pins s σ H _ _ v u Q I rx ry ⟨i,j,rfl,rfl,Nat.le_trans hl BH,q.str⟩
 .rintro pins s σ H x y v u Q I rx ry ⟨c1,c2,c,h1,h2,e,q⟩
  obtain⟨i,ei,e⟩:=Ae e;obtain⟨j,ej,e⟩:=Ae e;split at e
  .cases e
  rename_i hie;obtain⟨z,ez,rfl⟩:=Bg e;obtain⟨hl,rfl⟩:=A6 ez;cases C.Bx ei;cases C.Bx ej;obtain⟨a,vs,rfl,s1,r1⟩:=Cb h1;obtain⟨b,ws,rfl,s2,r2⟩:=Cb h2;rw[hK]at s1 s2;have l1:=Paired.length r1;have l2:=Paired.length r2;refine Uj pins s σ H _ _ v u Q I rx ry ⟨a,b,vs,ws,rfl,rfl,s1,s2,λz=>hie (by rw[(MW r1).mp z];rfl),?_,λz=>?_,λ_=>q.tup (Pd.append r1 r2)⟩
  .rw[<-l1,<-l2,<-lA];exact Nat.le_trans hl BH
  .rw[(MW r2).mp z,append_nil]at q;exact q.plain h1
 .rintro pins s σ H x y v u Q I rx ry ⟨c1,c2,c,h1,h2,e,q⟩
  obtain⟨i,ei,e⟩:=Ae e;obtain⟨j,ej,e⟩:=Ae e;obtain⟨z,ez,rfl⟩:=Bg e;obtain⟨hl,rfl⟩:=A6 ez;obtain⟨a,vs,rfl,s1,r1⟩:=BF ei h1;obtain⟨b,ws,rfl,s2,r2⟩:=BF ej h2;refine Yb pins s σ H _ _ v u Q I rx ry ⟨a,b,vs,ws,rfl,rfl,s1,s2,?_,q.list (Pd.append r1 r2)⟩;rw[<-Paired.length r1,<-Paired.length r2,<-lA];exact Nat.le_trans hl BH
theorem Pd.rep{β:Type}{F:α->β->Prop}{xs:List α}{ys:List β}(h:Paired F xs ys):∀n:Nat,Paired F (List.replicate n xs).flatten (List.replicate n ys).flatten
 |0=>.nil
 |n+1=>by rw[replicate_succ,replicate_succ,flatten_cons,flatten_cons];exact Pd.append h (Pd.rep h n)
theorem Yg:BA X (binaryOp .Mult) (AY W mulL):=by
 rintro pins s σ H x y v u Q I rx ry ⟨c1,c2,c,h1,h2,e,q⟩
 obtain⟨i,ei,e⟩:=Ae e;obtain⟨j,ej,e⟩:=Ae e;obtain⟨hl,rfl⟩:=A6 e;cases C.Bh ej;cases Ba h2;obtain⟨a,vs,rfl,s1,r1⟩:=BF ei h1;have:=Paired.length r1;have hb:(1000:Nat)<=sizeLine:=by decide
 refine Y6 pins s σ H _ _ v u Q I rx ry ⟨a,j,vs,rfl,rfl,s1,?_,by lia,by rw[<-this,hl.1,Nat.one_mul];lia,q.list (Pd.rep r1 _)⟩
 lia
end Nv
namespace Nv
open PySem
structure Ct where
 N:List Str
 sc:Scope
 fns:List (Str×Nat)
 cls:List (Str×Nat)
 sub:List (Str×List Nat)
 gl:List (Str×C)
 df:Bool
 Cw:List Nat
 QV:List (Pos×Nat)
 lt:Nat->Nat->T->Bool
def Ha(x:Str):Bool:=!(x == ("__debug__":Str)) && !(x == ("__classdict__":Str)) && decide (x≠"__name__")
def seen:Option NameKind->Bool
 |some .local=>true
 |some .cell=>true
 |some .free=>true
 |_=>false
def Ct.slot(ct:Ct)(x:Str):Option Nat:=if Ha x && seen (ct.sc.names.lookup x)then ct.N.idxOf? x else none
def bound(df:Bool):Option NameKind->Bool
 |some .local=>true
 |some .cell=>df
 |_=>false
def Ct.Bk(ct:Ct)(x:Str):Option Nat:=if Ha x && bound ct.df (ct.sc.names.lookup x)then ct.N.idxOf? x else none
def Ct.glob(ct:Ct)(x:Str):Bool:=Ha x && decide (ct.sc.names.lookup x=some .globalImplicit)
def Ct.name(ct:Ct)(x:Str):Option T:=match ct.slot x with
 |some i=>some (.var i)
 |none=>if ct.glob x then((ct.gl.lookup x).map .cst <|> (ct.fns.lookup x).map λn=>.cst (.p (.fn n [])))else none
def JK:List Str:=["len","list","tuple","all","abs","int","bool","str","range","enumerate","reversed","set","isinstance","ValueError"]
def Ct.own(ct:Ct)(x:Str):Bool:=ct.glob x && JK.contains x && (ct.gl.lookup x).isNone && (ct.fns.lookup x).isNone && (ct.cls.lookup x).isNone
def fM:Operator->Option (C->C->Option C)
 |.Add=>some A5| .Sub=>some (A3 Et)| .Mult=>some mulC| .Mod=>some (A3 Ab)| .FloorDiv=>some (A3 A7)| .Pow=>some (A3 Ge)|_=>none
def OH:CmpOp->C->C->Option C
 |.Eq=>Bq| .NotEq=>JU| .Lt=>Jm| .LtE=>HN| .Gt=>Hq| .GtE=>dM| .Is=>ZQ| .IsNot=>cn| .In=>Rl| .NotIn=>bO
def Vk(x:T):List CmpOp->List T->Option T
 |[o],[y]=>some (.A1 (OH o) x y)
 |[o1,o2],[y,z]=>some (.NI (OH o1) (OH o2) x y z)
 |_,_=>none
def DE:Expr->Option Str
 |.Name x _=>some x
 |_=>none
def OW:Expr->Option (Expr×List Expr×List Keyword×Pos)
 |.Call f as k p=>some (f,as,k,p)
 |_=>none
def cR:Expr->Option (Expr×Str×Pos)
 |.Attribute e m p=>some (e,m,p)
 |_=>none
def Yv:Expr->Option (Arguments×Expr×Scope×Pos)
 |.Lambda a b sc p=>some (a,b,sc,p)
 |_=>none
def Mc:Expr->Bool
 |.Slice _ _ _ _=>true
 |_=>false
def Dr:Expr->Bool
 |.Tuple _ _ _=>true
 |_=>false
def Ci:Expr->Bool
 |.ListComp _ _ _ _=>true
 |.SetComp _ _ _ _=>true
 |.DictComp _ _ _ _ _=>true
 |_=>false
def one{α:Type}:List α->Option α
 |[a]=>some a
 |_=>none
def two{α:Type}:List α->Option (α×α)
 |[a,b]=>some (a,b)
 |_=>none
def Ct.BW(ct:Ct)(x:Str)(e:Expr):Option Expr:=(OW e).bind λq=>(DE q.1).bind λy=>if y=x/\ct.own y=true/\q.2.2.1.isEmpty=true then one q.2.1 else none
noncomputable def special(ct:Ct)(x:Str)(e:Expr):Option (C->Option C):=
 if ct.own x && decide (x="list") && (ct.BW "reversed" e).isSome then some Ks else if ct.own x && decide (x="list") && (ct.BW "range" e).isSome then some E8
 else if ct.own x && decide (x="len") && (ct.BW "set" e).isSome then some Jo else none
def tyName(x:Str):Option Ty:=
 if x="int" then some .int else if x="bool" then some .bool else if x="str" then some .str else if x="tuple" then some .tuple else if x="list" then some .list else none
def dP(x:Str):Option (C->Option C):=
 if x="len" then some Av else if x="list" then some CL else if x="tuple" then some Eh else if x="all" then some FW
 else if x="abs" then some (DD VB)else if x="int" then some V0 else none
def Kx(ct:Ct):List Expr->Option (List Nat)
 |[]=>some []
 |e::es=>((DE e).bind ct.Bk).bind λi=>(Kx ct es).map λis=>i::is
def ZN(ct:Ct):Expr->Option Tg
 |.Name x _=>(ct.Bk x).map .nm
 |.Tuple es _ _=>(Kx ct es).map .tup
 |_=>none
noncomputable def Ct.block(ct:Ct)(sc:Scope):Ct×List (Option Nat):=
 let own:=(sc.names.filter λq=>q.2 == .local).map (·.1)
 let free:=(sc.names.filter λq=>q.2 == .free).map (·.1)
 ({ct with N:=own++free,sc:=sc,df:=false,QV:=[]},own.map (λ_=>none)++free.map λx=>ct.N.idxOf? x)
noncomputable def Sg(N0:List Str)(sc0:Scope)(N:List Str)(scope:Scope)(fr:List (Option Nat)):Bool:=
 (scope.kind == .function) && scope.names.all (λy=>y.2 != .cell) && scope.names.all (λy=>y.2 != .local || scope.names.lookup y.1 == some .local) &&
 scope.names.all (λy=>y.2 != .free || sc0.names.lookup y.1 == some .cell || sc0.names.lookup y.1 == some .free) && (fr.length == N.length) &&
 (List.range fr.length).all λj=>match fr[j]? with
  |some (some i)=>(N[j]? == N0[i]?) && (match N[j]? with|some x=>scope.names.lookup x == some .free|none=>false)
  |_=>true
def LY(n:Nat)(apos pos:Pos):Bool:=(apos.endLine == pos.line) && decide (n < 29)
def OG(a:Arguments)(sc:Scope):List Str:=a.args.map (·.arg)++(sc.names.filter λq=>q.2 == .free).map (·.1)
def Ct.lam(ct:Ct)(a:Arguments)(sc:Scope):Ct:={ct with N:=OG a sc,sc:=sc,df:=false,QV:=[]}
abbrev Kd:Str:="part"
noncomputable def QY(sc0:Scope)(a:Arguments)(sc:Scope):Bool:=(sc.kind == .function) && !sc.isCoroutine && !sc.isGenerator && sc.names.all (λy=>y.2 != .cell) && sc.names.all (λy=>y.2 != .local || (a.args.map (·.arg)).contains y.1) &&
 sc.names.all (λy=>y.2 != .free || sc0.names.lookup y.1 == some .cell || sc0.names.lookup y.1 == some .free) && decide ((OG a sc).Nodup) && (a.args.all λy=>sc.names.lookup y.arg == some .local) && (sc.names.all λy=>y.2 != .free || sc.names.lookup y.1 == some .free) &&
 decide (a.args.map (·.arg)=[Kd]) && a.posonlyargs.isEmpty && a.vararg.isNone && a.kwonlyargs.isEmpty && a.kwarg.isNone && a.defaults.isEmpty && a.kw_defaults.isEmpty
def Vq(ct:Ct):List Str->Option (List Nat)
 |[]=>some []
 |x::xs=>(ct.slot x).bind λi=>(Vq ct xs).map (i::·)
noncomputable def YE(ct:Ct)(x:Str)(a:T)(as:Arguments)(sc:Scope)(lp:Pos)(t:Option T):Option T:=if QY ct.sc as sc && ct.df && ct.glob x then
 (ct.fns.lookup x).bind λf=>(ct.QV.lookup lp).bind λl=>(Vq ct ((sc.names.filter λq=>q.2 == .free).map (·.1))).bind λG9=>t.bind λt=>if ct.lt l (OG as sc).length t then some (.L6 f a l G9)else none else none
def fP(ct:Ct)(x:Str)(ts:List T):Option T:=
 if ct.own x then(one ts).bind λt=>(dP x).map λf=>.Ai f t
 else match ct.slot x with
 |some i=>some (.app i ts)
 |none=>if ct.glob x then(ct.fns.lookup x).map λf=>.call f ts else none
noncomputable def fN(m:Str)(o:T)(ts:List T):Option T:=
 if m="get" then(one ts).bind λt=>if t.calm then some (.A1 Mf o t)else none
 else if m="index" then(one ts).bind λt=>if t.calm then some (.A1 D2 o t)else none
 else if m="upper"/\ts.isEmpty=true then some (.Ai GJ o)else none
def iS(x:T)(lo hi:Option T):Option T:=match lo,hi with
 |some l,none=>some (.A1 Fu x l)
 |none,some h=>some (.A1 DC x h)
 |some l,some h=>if h.calm then some (.Wi SO x l h)else none
 |none,none=>none
def ZO(ct:Ct)(tg e:Expr)(t:Option T)(a:Option T):Option (Sq×T):=match ct.BW "range" e,ct.BW "enumerate" e with
 |some _,_=>a.map λa=>(AM,a)
 |none,some _=>if Dr tg then a.map λa=>(Mo,a)else none
 |none,none=>t.map λt=>(Ar,t)
def UX(ct:Ct)(e:Expr):Option (C->Option C):=(DE e).bind λy=>if ct.own y then(if y="ValueError" then some (dJ ((ct.sub.lookup ("DeedsError":Str)).getD []))else(tyName y).map Dq)else if ct.glob y then(ct.sub.lookup y).map dJ else none
mutual
noncomputable def kE (ct:Ct):Expr->Option T
 | .Constant c _ _=>match c with
   |.none=>some (.cst (.p .A8))
   |.bool b=>some (.cst (.p (.bl b)))
   |.int i=>some (.cst (.p (.int i)))
   |.str x=>some (.cst (.p (.str x)))
   |_=>none
 |.Name x _=>ct.name x
 |.Tuple es _ _=>(SQ ct es).map .tup
 |.List es _=>(SQ ct es).map .lst
 |.Dict ks vs _=>if ks.isEmpty && vs.isEmpty then some (.Ai (λ_=>some (.BC true [])) (.cst (.p .A8)))else none
 |.BinOp a op b _=>(fM op).bind λo=>(kE ct a).bind λx=>(kE ct b).map λy=>.A1 o x y
 | .UnaryOp op a _=>(kE ct a).bind λx=>match op with
   |.Not=>some (.not x)
   |.USub=>some (.Ai (DD EM) x)
   |_=>none
 |.BoolOp op es _=>kB ct op es
 |.IfExp c a b _=>(kE ct c).bind λc=>(kE ct a).bind λx=>(kE ct b).map λy=>.ite c x y
 |.Compare a ops es _=>(kE ct a).bind λx=>(SQ ct es).bind λys=>Vk x ops ys
 |.Attribute o m _=>if m="place"/\(DE o).isSome=true then(kE ct o).map λx=>.Ai EK x else none
 |.Subscript v i _=>(kE ct v).bind λx=>if Mc i then(kI ct i).bind λq=>iS x q.1 q.2 else(kE ct i).map λy=>.A1 A2 x y
 |.ListComp elt gs sc _=>kG ct sc gs (kE (ct.block sc).1 elt)
 |.Call f args kws pos=>if kws.isEmpty then kC ct f args pos (SQ ct args) (cb ct args) (dI ct args) (fQ ct args)else none
 |_=>none
noncomputable def kI (ct:Ct):Expr->Option (Option T×Option T)
 |.Slice lo hi st _=>if st.isNone then(kO ct lo).bind λl=>(kO ct hi).map λh=>(l,h)else none
 |_=>none
noncomputable def kO (ct:Ct):Option Expr->Option (Option T)
 |none=>some none
 |some e=>(kE ct e).map some
noncomputable def kC (ct:Ct):Expr->List Expr->Pos->Option (List T)->Option T->Option T->Option T->Option T
 | .Name x _,args,_,ts,a1,l1,aa=>if ct.own x && decide (x="isinstance")then(two args).bind λq=>(UX ct q.2).bind λty=>a1.map λt=>.Ai ty t
   else match(two args).bind λq=>Yv q.2 with
   |some l=>a1.bind λa=>YE ct x a l.1 l.2.2.1 l.2.2.2 l1
   | none=>match(one args).bind (special ct x)with
     |some f=>aa.map λt=>.Ai f t
     |none=>ts.bind (fP ct x)
 |.Attribute o m ap,args,pos,ts,_,_,_=>if LY args.length ap pos && (DE o).isSome then(kE ct o).bind λo=>ts.bind (fN m o)else none
 |_,_,_,_,_,_,_=>none
noncomputable def cb (ct:Ct):List Expr->Option T
 |[]=>none
 |e::_=>kE ct e
noncomputable def dI (ct:Ct):List Expr->Option T
 |[]=>none
 |e::es=>fO ct e <|> dI ct es
noncomputable def fO (ct:Ct):Expr->Option T
 |.Lambda a b sc _=>kE (ct.lam a sc) b
 |_=>none
noncomputable def fQ (ct:Ct):List Expr->Option T
 |[]=>none
 |e::_=>Ra ct e
noncomputable def SQ (ct:Ct):List Expr->Option (List T)
 |[]=>some []
 |e::es=>(kE ct e).bind λt=>(SQ ct es).map λts=>t::ts
noncomputable def kB (ct:Ct) (op:PySem.BoolOp):List Expr->Option T
 |[]=>none
 |e::es=>(kE ct e).bind λx=>if es.isEmpty then some x else(kB ct op es).map λy=>match op with| .And=>.and x y| .Or=>.or x y
noncomputable def kG (ct:Ct) (sc:Scope):List Comprehension->Option T->Option T
 |[],_=>none
 |⟨tg,it,ifs,ia⟩::gs,elt=>(ZN (ct.block sc).1 tg).bind λg=>(ZO ct tg it (kE ct it) (Ra ct it)).bind λq=>(SQ (ct.block sc).1 ifs).bind λcs=>elt.bind λe=>
     if decide (ia=0) && gs.isEmpty && decide (cs.length<=1) && Sg ct.N ct.sc (ct.block sc).1.N sc (ct.block sc).2 && decide ((ct.block sc).1.N.Nodup)then some (.comp g q.1 q.2 cs e (ct.block sc).2)else none
noncomputable def Ra (ct:Ct):Expr->Option T
 |.Call _ args _ _=>cb ct args
 |_=>none
end
def fZ:Stmt->Option Expr
 |.Expr e _=>some e
 |_=>none
def R8(ct:Ct)(e:Expr):Option (Nat×Str×List Expr):=(OW e).bind λq=>(cR q.1).bind λa=>(DE a.1).bind λx=>if q.2.2.1.isEmpty && LY q.2.1.length a.2.2 q.2.2.2 then(ct.slot x).map λi=>(i,a.2.1,q.2.1)else none
def bP(m:Str):Option (C->List C->Option C):=
 if m="append" then some (BY AL)else if m="extend" then some (BY HQ)else none
noncomputable def R7(ct:Ct)(e:Expr):Option S:=(R8 ct e).bind λq=>if q.2.1="pop"/\q.2.2.isEmpty=true then some (.pop none q.1)else if q.2.1="clear"/\q.2.2.isEmpty=true then some (.Bu q.1 true RY [])
 else if q.2.1="insert" then(two q.2.2).bind λa=>(kE ct a.1).bind λt=>(kE ct a.2).map λu=>.Bu q.1 true (G1 KA) [t,u]else(bP q.2.1).bind λf=>(one q.2.2).bind λa=>(kE ct a).map λt=>.Bu q.1 true f [t]
def R6(ct:Ct)(e:Expr):Option Nat:=(R8 ct e).bind λq=>if q.2.1="pop"/\q.2.2.isEmpty=true then some q.1 else none
def M8(ct:Ct)(e:Expr):Option S:=(OW e).bind λq=>(DE q.1).bind λx=>(one q.2.1).bind λa=>if ct.glob x && q.2.2.1.isEmpty then(ct.cls.lookup x).bind λc=>if ct.Cw.contains c then(kE ct a).map (.raise c)else none else none
def gj:Stmt->Option (List Expr×Expr)
 |.Assign t e _=>some (t,e)
 |_=>none
def if1:Stmt->Option (Expr×List Stmt×List Stmt)
 |.If c a b _=>some (c,a,b)
 |_=>none
def Yj:Expr->Option Expr
 | .UnaryOp op a _=>match op with
   |.Not=>some a
   |_=>none
 |_=>none
def iR:Expr->Option (List Expr)
 | .BoolOp op es _=>match op with
   |.Or=>some es
   |_=>none
 |_=>none
def aq:Expr->Option (List Expr)
 |.Tuple es _ _=>some es
 |_=>none
def Ct.Cr(ct:Ct)(x:Str):List Nat:=(ct.sub.lookup x).getD []
def Ct.Kz(ct:Ct)(x:Str):Bool:=ct.glob x && (ct.cls.lookup x).isSome
noncomputable def ar(ct:Ct)(b:List Stmt):Option T:=(one b).bind λs=>(fZ s).bind λe=>(OW e).bind λq=>(DE q.1).bind λx=>(one q.2.1).bind λa=>(DE a).bind λy=>if ct.glob x && q.2.2.1.isEmpty then(ct.fns.lookup x).bind λf=>(ct.slot y).map λi=>.call f [.var i]else none
def Vl(ct:Ct):List Expr->Option (List Nat)
 |[]=>some []
 |e::es=>(DE e).bind λx=>if ct.Kz x then(Vl ct es).map (ct.Cr x++·)else none
def Jw(ct:Ct):ExceptHandler->Option (List Nat)
 |.ExceptHandler t n _ _=>if n.isNone then t.bind λt=>(aq t).bind λes=>if es.length<=1000 then Vl ct es else none else none
def YJ(ct:Ct)(en:Str)(e:Expr):Option Str:=(OW e).bind λq=>(DE q.1).bind λx=>(two q.2.1).bind λab=>(DE ab.1).bind λy=>(DE ab.2).bind λz=>if(decide (x="isinstance") && ct.own x && q.2.2.1.isEmpty && decide (y=en))=true then some z else none
def U7(en:Str)(s:Stmt):Option Str:=(gj s).bind λa=>(one a.1).bind λt=>(DE t).bind λy=>(cR a.2).bind λq=>(DE q.1).bind λe=>if e=en/\q.2.1="place" then some y else none
noncomputable def Vn(ct:Ct)(en:Str)(s:Stmt):Option Str:=(if1 s).bind λc=>(iR c.1).bind λos=>(two os).bind λab=>(Yj ab.1).bind λa=>(Yj ab.2).bind λb=>(YJ ct en a).bind λA=>(YJ ct en b).bind λB=>if(c.2.2.isEmpty && ct.Kz A && ct.own B && decide (B="ValueError"))=true then some A else none
noncomputable def Jx(ct:Ct):ExceptHandler->Option (List Nat×Nat×Nat)
 |.ExceptHandler t n b _=>t.bind λt=>(DE t).bind λd=>n.bind λen=>(two b).bind λss=>(U7 en ss.1).bind λy=>(Vn ct en ss.2).bind λA=>(ct.Bk y).bind λi=>(ct.Bk en).bind λie=>
   if(ct.Kz d && decide (ct.sc.names.lookup en=some .local) && decide (i≠ie))=true then some ((ct.Cr d).filter (λc=>ct.Cw.contains c && (ct.Cr A).contains c),ie,i)else none
def c9(ct:Ct):List ExceptHandler->Option (List Nat×Nat×Nat)
 |[]=>none
 |h::hs=>if hs.isEmpty then Jx ct h else(Jw ct h).bind λcs=>(c9 ct hs).map λq=>(q.1.filter λc=>!cs.contains c,q.2)
def YC(ct:Ct)(b:List Stmt)(hs:List ExceptHandler):Option S:=if ct.df then(ar ct b).bind λt=>(c9 ct hs).map λq=>.WV [.expr t] [(q.1,some q.2.1,[.asg (.nm q.2.2) (.Ai EK (.var q.2.1))])]else none
noncomputable def jU(ct:Ct)(e:Expr):Expr->Option S
 | .Name x _=>(ct.Bk x).bind λi=>match R6 ct e with
   |some j=>some (.pop (some i) j)
   |none=>(kE ct e).map λt=>.asg (.nm i) t
 |.Tuple es _ _=>if Dr e then none else(kE ct e).bind λt=>(Kx ct es).map λis=>.asg (.tup is) t
 |.Subscript v i _=>((DE v).bind ct.slot).bind λj=>(kE ct e).bind λt=>if Mc i then none else(kE ct i).map λk=>.Bu j false (G1 λc x k=>Ei c k x) [t,k]
 |_=>none
def kEx(ct:Ct)(e:Expr):Option S:=if Ci e then none else match R7 ct e with
 |some s=>some s
 |none=>(kE ct e).map .expr
def jT(ct:Ct)(e:Expr):Option S:=match(DE e).bind ct.slot with
 |some i=>some (.DI i)
 |none=>(kE ct e).map .ret
def Ct.src(ct:Ct)(e:Expr):Expr:=match ct.BW "range" e,ct.BW "enumerate" e with
 |some a,_=>a
 |none,some a=>a
 |none,none=>e
def bN(ct:Ct)(e:Expr)(t:T):Bool:=(ER t).isNone || (DE (ct.src e)).isSome
mutual
noncomputable def kS (ct:Ct):Stmt->Option S
 |.Assign tgs e _=>(one tgs).bind (jU ct e)
 |.Expr e _=>kEx ct e
 | .Return o _=>match o with
   |none=>some (.ret (.cst (.p .A8)))
   |some e=>jT ct e
 |.If c a b _=>(kE ct c).bind λt=>(UT ct a).bind λx=>(UT ct b).map λy=>.ifs t x y
 |.While c b o _=>if o.isEmpty then(kE ct c).bind λt=>(UT ct b).map λx=>.WI t x else none
 |.For tg it b o _=>if o.isEmpty then(ZN ct tg).bind λg=>(ZO ct tg it (kE ct it) (Ra ct it)).bind λq=>(UT ct b).bind λx=>if bN ct it q.2 then some (.Be g q.1 q.2 x)else none else none
 |.Pass _=>some .pass
 |.Break _=>some .brk
 |.Continue _=>some .cnt
 |.Raise e c _=>if c.isNone then e.bind (M8 ct)else none
 |.Try b hs o f _=>if o.isEmpty && f.isEmpty then YC ct b hs else none
 |_=>none
noncomputable def UT (ct:Ct):List Stmt->Option (List S)
 |[]=>some []
 |s::ss=>(kS ct s).bind λt=>(UT ct ss).map λts=>t::ts
end
end Nv
namespace Nv
open PySem L2 PyProof.Rows
def Al:Expr->Bool
 |.Starred _ _=>false
 |.Set _ _ _=>false
 |.Slice _ _ _ _=>false
 |_=>true
theorem A9(h:Al e=true)(es:List Expr)(env:PySem.Env):starEach (e::es) env=(false,eval e env)::starEach es env:=by
 cases e<;>first|rfl|cases h
theorem FT(h:Al e=true)(op:CmpOp):behindInMarks op e=false:=by
 cases e<;>first|rfl|cases h
theorem K1(h:Ci e=false)(tg:Option Expr)(l:Nat)(env:PySem.Env):swapsWith e tg l env=pure false:=by
 cases e<;>first|rfl|cases h
theorem Ir(h:Al e=true)(env:PySem.Env)(x:Value):foldedSetIterable e env x=pure x:=by
 cases e<;>first|rfl|cases h
variable{X:Cx}{W:Wd}{EX:XP}{σ:L2.St}{H:Hp}
def Q3(W:Wd):V->Hp->(Bool->Hp->Prop)->Prop:=λx H Q=>∃c b,Ef W H c x/\Gd c=some b/\Q b H
theorem VO{F:Env->Res C}{Q:Bool->Hp->Prop}(h:tG W EX rB (λρ=>(F ρ).bind λc=>Res.of (Gd c)) σ H Q):tG W EX (rV W) F σ H λx H1=>Q3 W x H1 Q:=by
 obtain⟨ρ,B,R,hA⟩:=h;refine⟨ρ,B,R,hA.step EH λc v H1 _ e1 t1 r1 h1=>?_⟩;obtain⟨b,eb,h1⟩:=h1.of;exact⟨c,b,r1.rd,eb,h1 b H1 (Ext.refl _) t1 rfl⟩
variable{vs:List V}
theorem Iz{ps:List P}(h:CU W H ps vs):(!ps.isEmpty)= !vs.isEmpty:=by cases h<;>rfl
theorem WT(hK:W.K=X.K):cX X (Q3 W):=by
 intro pins s σ H x v Q I rx h;obtain⟨c,b,h1,e,q⟩:=h;have ok:=λ(z:cW X.K x H b)=>WU pins s σ H x v Q I rx ⟨b,z,q⟩
 cases c with
 |BC o kvs=>cases e
 |exc y p=>cases e
 |lst o ps=>
   cases e;obtain⟨a,vs,rfl,k1,k2⟩:=BF rfl h1;exact ok (.inl ⟨vs,.inl k1,Iz k2⟩)
 |p y=>
   cases y with
   |A8=>cases e;cases GV h1;exact ok rfl
   |bl i=>cases e;cases Ek h1;exact ok rfl
   |int i=>cases e;cases Ba h1;exact ok rfl
   |str i=>
     cases BO h1;obtain⟨hl,rfl⟩:=A6 e;refine ok ⟨Nat.le_trans hl BH,?_⟩;cases i.length<;>simp<;>lia
   |tup ps=>
     cases e;obtain⟨a,vs,rfl,k1,k2⟩:=Cb h1;exact ok (.inr (.inl ⟨vs,hK▸k1,Iz k2⟩))
   |fn _ _=>cases e
   |box _ _=>cases e
theorem Wc(hK:W.K=X.K){a:Expr}{ta:TE}(ha:PE X a ta)(he:∀whole,isTrue a X.env whole=(do let v <-whole;standAt a.pos;holding [v] (truthy v))):PT X a (λσ H Q=>ta σ H λx H1=>Q3 W x H1 Q):=by
 intro pins s σ H Q I h;exact isTrue_plain (thn (ha pins s σ H _ I h) λv s1 ⟨x,H1,I1,r1,q1⟩=>WT hK pins s1 σ H1 x v Q I1 r1 q1) (he _)
structure Bt(X:Cx)(W:Wd)(EX:XP)(cf:CF)(e:Expr)(t:T):Prop where
 v:PE X e (tG W EX (rV W) (ev cf t))
 b:PT X e (tG W EX rB (tv cf t))
 st:Al e=true
 a:∀(i:Nat) (y:Str) (py spos:Pos),X.N.Nodup->X.N[i]? =some y->Loc X.env.scope y->(X.fn y=true\/X.env.scope.names.lookup y=some .local)->PS X (.Assign [.Name y py] e spos) (LA (tG W EX (rV W) (ev cf t)) (EU i))
abbrev HE(X:Cx)(W:Wd)(EX:XP)(cf:CF):List Expr->List T->Prop:=Paired (Bt X W EX cf)
variable{cf:CF}
theorem cU{t:TE}(nc:Ci e=false)(h:PE X e t)(i:Nat)(y:Str)(py spos:Pos)(hN:X.N.Nodup)(hi:X.N[i]? =some y)(hx:Loc X.env.scope y)(hf:X.fn y=true\/X.env.scope.names.lookup y=some .local):PS X (.Assign [.Name y py] e spos) (LA t (EU i)):=
 J5 hN hi hx h (K1 nc _ _ _) hf
theorem Bt.of(hK:W.K=X.K){e:Expr}(v:PE X e (tG W EX (rV W) (ev cf t)))(ht:tv cf t=λρ=>(ev cf t ρ).bind λc=>Res.of (Gd c))(he:∀whole,isTrue e X.env whole=(do let v <-whole;standAt e.pos;holding [v] (truthy v)):=by intro _;rfl)
 (st:Al e=true:=by rfl)(nc:Ci e=false:=by rfl):Bt X W EX cf e t:=
 ⟨v,GW (Wc hK v he) λσ H Q z=>VO (by rw[ht]at z;exact z),st,cU nc v⟩
theorem Bt.bF(v:PE X e (tG W EX (rV W) (ev cf t)))(b:PT X e (tG W EX rB (tv cf t)))(st:Al e=true:=by rfl)(nc:Ci e=false:=by rfl):Bt X W EX cf e t:=⟨v,b,st,cU nc v⟩
theorem E1(hK:W.K=X.K){e:Expr}{c:C}(h:PE X e (tC v))(hr:∀H own bor,AI W H own bor c.bor v)(he:∀whole,isTrue e X.env whole=(do let v <-whole;standAt e.pos;holding [v] (truthy v)))(st:Al e=true)(nc:Ci e=false):Bt X W EX cf e (.cst c):=
 Bt.of hK (Au h λσ H Q ⟨ρ,B,R,hA⟩=>hA v H (Ext.refl H) R.tb (hr _ _ _)) rfl he st nc
variable{pos:Pos}
theorem MR(hK:W.K=X.K){i:Nat}{x:Str}(hN:X.N[i]? =some x)(hv:cV X.env.scope x)(hd:ng x)(hcd:(x == ("__classdict__":Str))=false):Bt X W EX cf (.Name x pos) (.var i):=
 Bt.of hK (Au (Jb hN hv hd hcd) λσ H Q ⟨ρ,B,R,hA⟩=>by
  obtain⟨c,ec,hA⟩:=hA.of;obtain⟨c0,e0,rfl⟩:=Bg ec;obtain⟨v,e1,r⟩:=R.get i c0 e0
  exact⟨v,e1,hA v H (Ext.refl H) R.tb (r.borrow λ_ z=>z)⟩) rfl
theorem XU:∀{es:List Expr} {ts:List T},HE X W EX cf es ts->PA X es (tG W EX (U0 W) (FN cf ts))
 |_,_,.nil=>Je BR λσ H Q z=>WX z
 |_,_,.cons h r=>Je (AU (bp h.v) (XU r) (A9 h.st _ _)) λσ H Q z=>Tb z
theorem Qt:∀{es:List Expr} {ts:List T},HE X W EX cf es ts->PA X es (tG W EX (W9 W) (FO cf ts))
 |_,_,.nil=>Je BR λσ H Q z=>PD z
 |_,_,.cons h r=>Je (AU h.v (Qt r) (A9 h.st _ _)) λσ H Q z=>Lx z
variable{H:Hp}
theorem PF{σ:L2.St}{Q:VK}{F:Env->Res (List P)}{f:List P->C}{g:List V->HO}(h:tG W EX (rV W) (λρ=>(F ρ).bind λps=>if ps.length<=1000 then .ok (f ps)else .stuck) σ H Q)
 (hf:∀B H0 H1 ps vs p,Ext H0 H1->H1 p=none->CU W H1 ps vs->rV W B H0 (upd H1 p (g vs)) (f ps) (.ref p)):
 tG W EX (U0 W) F σ H λxs H1=>xs.length<=sizeLine/\∀p,H1 p=none->Q (.ref p) (upd H1 p (g xs)):=by
 obtain⟨ρ,B,R,hA⟩:=h;refine⟨ρ,B,R,hA.step AB λps vs H1 _ e1 t1 r1 h1=>?_⟩;split at h1
 .rename_i hl;have:=Paired.length r1;have hb:(1000:Nat)<=sizeLine:=by decide
  exact⟨by lia,λp hp=>h1 _ _ (.of (AF hp)) (t1.same (AF hp)) (hf B H1 H1 ps vs p (Ext.refl _) hp r1)⟩
 .exact h1.elim
theorem Tr(hK:W.K=X.K){es:List Expr}{ts:List T}{x1:_}(h:HE X W EX cf es ts):Bt X W EX cf (.Tuple es x1 pos) (.tup ts):=
 Bt.of hK (Au (XJ (XU h)) λσ H Q z=>PF (g:=.tup) z λB H0 H1 ps vs p _ hp r=>AX.mpr ⟨p,vs,rfl,DF.of Ag,r.mono (AS.of (AF hp))⟩) rfl
theorem Tt(hK:W.K=X.K){es:List Expr}{ts:List T}(h:HE X W EX cf es ts):Bt X W EX cf (.List es pos) (.lst ts):=
 Bt.of hK (Au (XQ (XU h)) λσ H Q z=>PF (g:=.lst) z λB H0 H1 ps vs p e hp r=>⟨p,vs,rfl,⟨Ag,e.none hp⟩,r.mono (AS.of (AF hp))⟩) rfl
theorem Tx(hK:W.K=X.K){op:Operator}{g:C->C->Option C}(ho:BA X (binaryOp op) (AY W g))(h1:Bt X W EX cf a x)(h2:Bt X W EX cf b y):Bt X W EX cf (.BinOp a op b pos) (.A1 g x y):=
 Bt.of hK (Au (bh ho h1.v h2.v) λσ H Q z=>MJ z) rfl
theorem Xd(hK:W.K=X.K){op:UnaryOp}{g:C->Option C}(ho:HS X (unaryOp op) (BJ W g))(he:∀whole,isTrue (.UnaryOp op a pos) X.env whole=(do let v <-whole;standAt (Expr.UnaryOp op a pos).pos;holding [v] (truthy v)))(h1:Bt X W EX cf a x):Bt X W EX cf (.UnaryOp op a pos) (.Ai g x):=
 Bt.of hK (Au (bf ho h1.v) λσ H Q z=>VQ z) rfl he
theorem PC{F:Env->Res C}{σ:L2.St}{Q:Bool->Hp->Prop}(hb:∀ρ c,F ρ= .ok c->∃b,c=bC b)(h:tG W EX rB (λρ=>(F ρ).bind λc=>Res.of (Gd c)) σ H Q):tG W EX (rV W) F σ H λx H1=>∃k,x= .bl k/\Q k H1:=by
 obtain⟨ρ,B,R,hA⟩:=h;refine⟨ρ,B,R,hA.step EH λc v H1 e0 e1 t1 r1 h1=>?_⟩;obtain⟨b,rfl⟩:=hb ρ c e0;exact⟨b,Ek r1,h1 b H1 (Ext.refl _) t1 rfl⟩
variable{α:Type}
theorem E5{β:Type}{r:Res α}{f:α->Res β}{b:β}(h:r.bind f= .ok b):∃a,r= .ok a/\f a= .ok b:=by
 cases r with
 |stuck=>cases h
 |err x p=>cases h
 |ok a=>exact⟨a,rfl,h⟩
theorem Wk{o:Option α}{b:α}(h:Res.of o= .ok b):o=some b:=by
 cases o with
 |none=>cases h
 |some a=>cases h;rfl
theorem Tv{op:CmpOp}{g:C->C->Option C}(ho:BA X (compareOp op) (AY W g))(hb:∀a b c,g a b=some c->∃k,c=bC k){a b:Expr}(h1:Bt X W EX cf a x)(h2:Bt X W EX cf b y):Bt X W EX cf (.Compare a [op] [b] pos) (.A1 g x y):=
 Bt.bF (Au (Uc ho h1.v h2.v (FT h2.st op)) λσ H Q z=>MJ z) (GW (U3 ho h1.v h2.v (FT h2.st op)) λσ H Q z=>MJ (PC (λρ c e=>by
  obtain⟨u,_,e⟩:=E5 e;obtain⟨w,_,e⟩:=E5 e
  exact hb _ _ _ (Wk e)) z))
theorem Tw{o1 o2:CmpOp}{f g:C->C->Option C}(h1:BA X (compareOp o1) (AY W f))(h2:BA X (compareOp o2) (AY W g))(hb:∀a b c,g a b=some c->∃k,c=bC k){a b c:Expr}(ha:Bt X W EX cf a x)(hb':Bt X W EX cf b y)(hc:Bt X W EX cf c z)
 (hm:lastMarks [o1,o2] [b,c]=false):Bt X W EX cf (.Compare a [o1,o2] [b,c] pos) (.NI f g x y z):=
 Bt.bF (Au (Qr h1 h2 ha.v hb'.v hc.v hm) λσ H Q z=>VS z) (GW (Q9 h1 h2 ha.v hb'.v hc.v hm) λσ H Q z=>VS (PC (λρ c e=>by
  obtain⟨u,_,e⟩:=E5 e;obtain⟨w,_,e⟩:=E5 e;obtain⟨k,_,e⟩:=E5 e;cases k with
  |true=>
    obtain⟨w,_,e⟩:=E5 e;exact hb _ _ _ (Wk e)
  |false=>cases e;exact⟨false,rfl⟩) z))
theorem snd_and{b:Expr}{rest:List Expr}(h1:Bt X W EX cf a x)(h2v:PE X (.BoolOp .And (b::rest) pos) (tG W EX (rV W) (ev cf y)))(h2b:PW X (.BoolOp .And (b::rest) pos) (tG W EX rB (tv cf y))):
 PE X (.BoolOp .And (a::b::rest) pos) (tG W EX (rV W) (ev cf (.and x y)))/\PW X (.BoolOp .And (a::b::rest) pos) (tG W EX rB (tv cf (.and x y))):=
 ⟨Au (XS h1.v h2v) λσ H Q z=>WZ z,λwhole pins s σ H Q I z=>XB h1.b h2b whole pins s σ H Q I (aF z)⟩
theorem Xe{b:Expr}{rest:List Expr}(h1:Bt X W EX cf a x)(h2v:PE X (.BoolOp .Or (b::rest) pos) (tG W EX (rV W) (ev cf y)))(h2b:PW X (.BoolOp .Or (b::rest) pos) (tG W EX rB (tv cf y))):
 PE X (.BoolOp .Or (a::b::rest) pos) (tG W EX (rV W) (ev cf (.or x y)))/\PW X (.BoolOp .Or (a::b::rest) pos) (tG W EX rB (tv cf (.or x y))):=
 ⟨Au (bg h1.v h2v) λσ H Q z=>aB z,λwhole pins s σ H Q I z=>Wb h1.b h2b whole pins s σ H Q I (eR z)⟩
theorem Ts(h1:Bt X W EX cf a x):Bt X W EX cf (.UnaryOp .Not a pos) (.not x):=
 Bt.bF (Au (XN h1.v) λσ H Q z=>WW z) (GW (LJ h1.b) λσ H Q z=>aC z)
theorem Tu(hK:W.K=X.K)(h0:Bt X W EX cf c z)(h1:Bt X W EX cf a x)(h2:Bt X W EX cf b y):Bt X W EX cf (.IfExp c a b pos) (.ite z x y):=
 Bt.bF (Au (Qp h0.b h1.v h2.v) λσ H Q z=>aE z) λ_ _ _ _ _ _ ⟨_,_,_,z⟩=>z.elim
def AD(as:List Nat)(σ σ':L2.St):Prop:=σ'.length=σ.length/\∀i,i∉as->σ'[i]? =σ[i]?
theorem AD.refl(as:List Nat)(σ:L2.St):AD as σ σ:=⟨rfl,λ_ _=>rfl⟩
variable{as:List Nat}
theorem AD.trans{σ σ1 σ2:L2.St}(a:AD as σ σ1)(b:AD as σ1 σ2):AD as σ σ2:=⟨b.1.trans a.1,λi h=>(b.2 i h).trans (a.2 i h)⟩
theorem AD.mono{bs:List Nat}{σ σ':L2.St}(a:AD as σ σ')(h:∀i∈as,i∈bs):AD bs σ σ':=⟨a.1,λi hi=>a.2 i λz=>hi (h i z)⟩
theorem AD.set{σ:L2.St}{i:Nat}{x:Option V}(h:i∈as):AD as σ (σ.set i x):=⟨length_set ..,λj hj=>by
 rw[List.getElem?_set_ne]
 exact λz=>hj (z▸h)⟩
structure Aw(W:Wd)(Hin:Hp)(A0:Addr->Prop)(Bo:Nat->Addr->Prop)(H:Hp)(ρ:Env)(σ:L2.St):Prop where
 len:σ.length=ρ.length
 tb:BX W H
 env:∃O:Addr->Nat,∀i c,Ap ρ i=some c->∃v,σ[i]? =some (some v)/\AI W H (λa=>O a=i/\(Hin a=none\/A0 a)) (Bo i) c v
 bo:∀i a,Bo i a->(∃x,Hin a=some x)/\¬A0 a
 FI:∀b x,Hin b=some x->¬A0 b->Dy x=false->H b=some x
 HI:∀b x,Hin b=some x->∃y,H b=some y
 kp:AS Hin H
section
variable{Hin:Hp}{A0:Addr->Prop}{Bo:Nat->Addr->Prop}{H1:Hp}{ρ:Env}
theorem Aw.ext(S:Aw W Hin A0 Bo H ρ σ)(e:Ext H H1)(t:BX W H1):Aw W Hin A0 Bo H1 ρ σ:=
 ⟨S.len,t,let⟨O,h⟩:=S.env;⟨O,λi c q=>let⟨v,q1,q2⟩:=h i c q;⟨v,q1,q2.ext e (λ_ z=>z) λ_ z=>z⟩⟩,S.bo,λb x q n nt=>e.but b x (S.FI b x q n nt) nt,λb x q=>let⟨y,z⟩:=S.HI b x q;e.there b y z,S.kp.trans e.keep⟩
theorem Aw.rev(S:Aw W Hin A0 Bo H ρ σ):Lo W (λa=>∃x,H a=some x) H ρ σ:=
 ⟨S.len,S.tb,λ_ z=>z,λi c q=>by
  obtain⟨O,h⟩:=S.env;obtain⟨v,q1,q2⟩:=h i c q
  exact⟨v,q1,q2.mono (λa=>⟨λ_ z=>z,λ_ _ z=>z⟩) (λa x _ e _=>⟨e,x,e⟩) λa x _ e _=>⟨e,x,e⟩⟩⟩
theorem Aw.new(S:Aw W Hin A0 Bo H ρ σ)(h:H a=none):Hin a=none:=by
 cases e:Hin a with
 |none=>rfl
 |some x=>obtain⟨y,z⟩:=S.HI a x e;rw[h]at z;cases z
theorem Ck{i j:Nat} :Ap (ρ.set i x) j=if i=j then(if i < ρ.length then x else none)else Ap ρ j:=by
 unfold Ap;rw[List.getElem?_set];split
 .subst_vars
  split<;>simp_all
 .rfl
theorem Nr{i:Nat}{c:C}(h:Ap ρ i=some c):i < ρ.length:=by
 unfold Ap at h;cases e:ρ[i]? with
 |none=>rw[e]at h;cases h
 |some x=>exact(List.getElem?_eq_some_iff.mp e).1
theorem Aw.set{i:Nat}{c:C}{B:Addr->Prop}(S:Aw W Hin A0 Bo H ρ σ)(e:Ext H H1)(t:BX W H1)(hi:i < σ.length)(ho:c.own=true)(r:rV W B H H1 c v):Aw W Hin A0 Bo H1 (ρ.set i (some c)) (σ.set i (some v)):=by
 obtain⟨O,h⟩:=S.env;have S1:=S.ext e t;refine⟨by rw[length_set,length_set];exact S.len,t,⟨λa=>if(H a).isNone then i else O a,λj d q=>?_⟩,S.bo,S1.FI,S1.HI,S1.kp⟩;rw[Ck]at q;split at q
 .rename_i hij;subst hij;split at q
  .cases q;refine⟨v,List.getElem?_set_self hi,?_⟩;have r':AI W H1 (λa=>H a=none) B c v:=r;cases c with
   |p x=>exact r'
   |exc x p=>cases ho
   |lst o ps=>
     cases (show o=true from ho);obtain⟨a,vs,e1,e2,e3⟩:=r';exact⟨a,vs,e1,⟨e2.1,by show(if(H a).isNone then i else O a)=i;rw[e2.2];rfl,.inl (S.new e2.2)⟩,e3⟩
   |BC o ps=>
     cases (show o=true from ho);obtain⟨a,vs,e1,e2,e3⟩:=r';exact⟨a,vs,e1,⟨e2.1,by show(if(H a).isNone then i else O a)=i;rw[e2.2];rfl,.inl (S.new e2.2)⟩,e3⟩
  .cases q
 .rename_i hij;obtain⟨u,q1,q2⟩:=h j d q;refine⟨u,by rw[List.getElem?_set_ne hij];exact q1,q2.mono e.keep (λa x p k n=>⟨e.but a x k n,?_,p.2⟩) λa x p k n=>⟨e.but a x k n,p⟩⟩;show(if(H a).isNone then i else O a)=j;rw[k];exact p.1
section
variable (W:Wd)(EX:XP)(Hin:Hp)(A0:Addr->Prop)
def Er(c:C)(v:V)(H':Hp):Prop:=AI W H' (λa=>Hin a=none\/A0 a) (λ_=>False) c v/\BX W H'/\(∀b x,Hin b=some x->¬A0 b->Dy x=false->H' b=some x)/\(∀b x,Hin b=some x->∃y,H' b=some y)/\AS Hin H'
variable (Bo:Nat->Addr->Prop)
def Bp(as:List Nat)(D:Ends)(σ:L2.St)(r:Fl):Prop:=match r with
 |.stuck=>False
 |.nx ρ'=>∀σ' H',Aw W Hin A0 Bo H' ρ' σ'->AD as σ σ'->D.nx σ' H'
 |.brk ρ'=>∀σ' H',Aw W Hin A0 Bo H' ρ' σ'->AD as σ σ'->D.bk σ' H'
 |.cnt ρ'=>∀σ' H',Aw W Hin A0 Bo H' ρ' σ'->AD as σ σ'->D.ct σ' H'
 |.ret c=>∀v H',Er W Hin A0 c v H'->D.rt v H'
 |.err x p ρ'=>∀σ' H',Aw W Hin A0 Bo H' ρ' σ'->AD as σ σ'->EX x p σ' H'
end
def tS(W:Wd)(EX:XP)(as:List Nat)(F:Env->Fl):TS:=λD σ H=>∃Hin A0 Bo ρ,Aw W Hin A0 Bo H ρ σ/\Bp W EX Hin A0 Bo as D σ (F ρ)
variable{as bs:List Nat}{D:Ends}{r:Fl}{F G:Env->Fl}
theorem Bp.later{σ1:L2.St}(h:Bp W EX Hin A0 Bo as D σ r)(u:AD as σ σ1):Bp W EX Hin A0 Bo as D σ1 r:=by
 cases r with
 |stuck=>exact h
 |ret c=>exact h
 |_=>exact λσ' H' s w=>h σ' H' s (u.trans w)
theorem Bp.more(h:Bp W EX Hin A0 Bo bs D σ r)(hm:∀i∈as,i∈bs):Bp W EX Hin A0 Bo as D σ r:=by
 cases r with
 |stuck=>exact h
 |ret c=>exact h
 |_=>exact λσ' H' s w=>h σ' H' s (w.mono hm)
theorem Bp.step{α β:Type}{rep:Rp α β}{B:Addr->Prop}{q:Res α}{G:α->Fl}{K:β->Hp->Prop}(S:Aw W Hin A0 Bo H ρ σ)(h:Bp W EX Hin A0 Bo as D σ (q.fl ρ G))
 (k:∀a b H1,Ext H H1->BX W H1->rep B H H1 a b->Bp W EX Hin A0 Bo as D σ (G a)->K b H1):Di W EX rep B H σ q K:=by
 cases q with
 |stuck=>exact h
 |err x p=>exact λH' e t=>h σ H' (S.ext e t) (AD.refl _ _)
 |ok a=>exact λb H1 e t r=>k a b H1 e t r h
theorem W6(h:tS W EX [] (λρ=>.nx ρ) D σ H):PK D σ H:=let⟨_,_,_,_,S,hA⟩:=h;hA σ H S (AD.refl _ _)
theorem aW(h:tS W EX [] (λρ=>.brk ρ) D σ H):PM D σ H:=let⟨_,_,_,_,S,hA⟩:=h;hA σ H S (AD.refl _ _)
theorem aV(h:tS W EX [] (λρ=>.cnt ρ) D σ H):VW D σ H:=let⟨_,_,_,_,S,hA⟩:=h;hA σ H S (AD.refl _ _)
theorem Xt(h:tS W EX (as++bs) (λρ=>(F ρ).then G) D σ H):aG (tS W EX as F) (tS W EX bs G) D σ H:=by
 obtain⟨Hin,A0,Bo,ρ,S,hA⟩:=h;have m1:∀i∈as,i∈as++bs:=λi hi=>mL hi
 have m2:∀i∈bs,i∈as++bs:=λi hi=>mR hi
 refine⟨Hin,A0,Bo,ρ,S,?_⟩;replace hA:Bp W EX Hin A0 Bo (as++bs) D σ ((F ρ).then G):=hA;cases eF:F ρ with
 |nx ρ1=>rw[eF]at hA;exact λσ' H' s w=>⟨Hin,A0,Bo,ρ1,s,(Bp.later (r:=G ρ1) hA (w.mono m1)).more m2⟩
 |stuck=>rw[eF]at hA;exact hA
 |ret c=>rw[eF]at hA;exact hA
 |_=>rw[eF]at hA;exact λσ' H' s w=>hA σ' H' s (w.mono m1)
theorem eW{B:Env->Res Bool}(h:tS W EX (as++bs) (λρ=>(B ρ).fl ρ λx=>if x then F ρ else G ρ) D σ H):aM (tG W EX rB B) (tS W EX as F) (tS W EX bs G) D σ H:=by
 obtain⟨Hin,A0,Bo,ρ,S,hA⟩:=h;refine⟨ρ,_,S.rev,hA.step S λa b H1 e t r h1=>?_⟩;cases r;cases a with
 |true=>exact⟨Hin,A0,Bo,ρ,S.ext e t,h1.more λi hi=>mL hi⟩
 |false=>exact⟨Hin,A0,Bo,ρ,S.ext e t,h1.more λi hi=>mR hi⟩
theorem Xs{F:Env->Res C}(h:tS W EX [] (λρ=>(F ρ).fl ρ λ_=>.nx ρ) D σ H):MK (tG W EX (rV W) F) D σ H:=by
 obtain⟨Hin,A0,Bo,ρ,S,hA⟩:=h;exact⟨ρ,_,S.rev,hA.step S λa b H1 e t r h1=>h1 σ H1 (S.ext e t) (AD.refl _ _)⟩
theorem Jf{c:C}{own own' bor bor':Addr->Prop}(ho:c.own=true)(r:AI W H own bor c v)(h:∀a x,own a->H a=some x->own' a):AI W H own' bor' c v:=by
 cases c with
 |p x=>exact r
 |exc x p=>cases ho
 |lst o ps=>cases (show o=true from ho);obtain⟨a,vs,e1,e2,e3⟩:=r;exact⟨a,vs,e1,⟨e2.1,h a _ e2.2 e2.1⟩,e3⟩
 |BC o ps=>cases (show o=true from ho);obtain⟨a,vs,e1,e2,e3⟩:=r;exact⟨a,vs,e1,⟨e2.1,h a _ e2.2 e2.1⟩,e3⟩
theorem W5{F:Env->Res C}(h:tS W EX [] (λρ=>(F ρ).fl ρ λc=>if c.own then .ret c else .stuck) D σ H):X0 (tG W EX (rV W) F) D σ H:=by
 obtain⟨Hin,A0,Bo,ρ,S,hA⟩:=h;refine⟨ρ,_,S.rev,hA.step S λc v H1 e t r h1=>?_⟩;split at h1
 .rename_i ho;have S1:=S.ext e t;exact h1 v H1 ⟨Jf ho r λa x z _=>.inl (S.new z),t,S1.FI,S1.HI,S1.kp⟩
 .exact h1.elim
theorem Xm{i:Nat}(h:tS W EX [] (λρ=>match Ap ρ i with|some c=>if c.own then .ret c else .stuck|none=>.stuck) D σ H):X0 (IL i) D σ H:=by
 obtain⟨Hin,A0,Bo,ρ,S,hA⟩:=h;obtain⟨O,hO⟩:=S.env;cases e:Ap ρ i with
 |none=>simp only[e]at hA;exact hA.elim
 |some c=>
   simp only[e]at hA;obtain⟨v,q1,q2⟩:=hO i c e;split at hA
   .rename_i ho;exact⟨v,q1,hA v H ⟨Jf ho q2 λa x z _=>z.2,S.tb,S.FI,S.HI,S.kp⟩⟩
   .exact hA.elim
theorem aS{i:Nat}{F:Env->Res C}(hi:i < σ.length)(h:tS W EX [i] (λρ=>(F ρ).fl ρ λc=>match GR (.nm i) c ρ with|some ρ'=>.nx ρ'|none=>.stuck) D σ H):LA (tG W EX (rV W) F) (EU i) D σ H:=by
 obtain⟨Hin,A0,Bo,ρ,S,hA⟩:=h;refine⟨ρ,_,S.rev,hA.step S λc v H1 e t r h1=>?_⟩;unfold GR at h1;dsimp only at h1;split at h1
 .rename_i ho;cases hc:c.own with
  |false=>rw[hc]at ho;cases ho
  |true=>
    rw[hc]at ho;cases ho;exact h1 _ H1 (S.set e t hi hc r) (AD.set mS)
 .exact h1.elim
theorem WJ{c:Env->Res Bool}{b:Env->Fl}(h:AW c b ρ≠.stuck):∃n,As c b n ρ=AW c b ρ:=by
 unfold AW at h ⊢;split
 .exact⟨_,rfl⟩
 .rename_i hn;rw[dif_neg hn]at h;exact absurd rfl h
theorem TL{B:Env->Res Bool}(h:tS W EX as (λρ=>AW B F ρ) D σ H):PH (tG W EX rB B) (tS W EX as F) D σ H:=by
 obtain⟨Hin,A0,Bo,ρ,S,hA⟩:=h;obtain⟨n,en⟩:=WJ (c:=B) (b:=F) (ρ:=ρ) λz=>by simp only[z]at hA;exact hA
 replace hA:Bp W EX Hin A0 Bo as D σ (AW B F ρ):=hA;rw[<-en]at hA;refine⟨λm σ' H'=>∃ρ',Aw W Hin A0 Bo H' ρ' σ'/\Bp W EX Hin A0 Bo as D σ' (As B F m ρ'),⟨n,ρ,S,hA⟩,?_⟩
 rintro m σ' H' ⟨ρ',S',hA'⟩
 cases m with
 |zero=>exact hA'.elim
 |succ m=>
   refine⟨ρ',_,S'.rev,Bp.step (q:=B ρ') (G:=λx=>if x then(F ρ').turn (As B F m)else .nx ρ') S' hA' λx b H1 e t r h1=>?_⟩;cases r;cases x with
   |false=>exact h1 σ' H1 (S'.ext e t) (AD.refl _ _)
   |true=>
     refine⟨λσ2 H2=>∃ρ',Aw W Hin A0 Bo H2 ρ' σ2/\Bp W EX Hin A0 Bo as D σ2 (As B F m ρ'),λσ2 H2 z=>⟨m,Nat.lt_succ_self m,z⟩,Hin,A0,Bo,ρ',S'.ext e t,?_⟩;have h1:Bp W EX Hin A0 Bo as D σ' ((F ρ').turn (As B F m)):=h1;cases eF:F ρ' with
     |nx ρ2=>rw[eF]at h1;exact λσ2 H2 s w=>⟨ρ2,s,Bp.later (r:=As B F m ρ2) h1 w⟩
     |cnt ρ2=>rw[eF]at h1;exact λσ2 H2 s w=>⟨ρ2,s,Bp.later (r:=As B F m ρ2) h1 w⟩
     |stuck=>rw[eF]at h1;exact h1
     |ret c=>rw[eF]at h1;exact h1
     |_=>rw[eF]at h1;exact h1
end
def eA(o:HO):Prop:=(∀xs,o≠.tup xs)/\(∀ob w,o≠.Dz ob w)/\Dy o=false
theorem FC{xs:List V}:eA (.lst xs):=⟨(λ_ z=>nomatch z),(λ_ _ z=>nomatch z),rfl⟩
theorem QI{es:List DictEntry}:eA (DX a es):=⟨(λ_ z=>nomatch z),(λ_ _ z=>nomatch z),rfl⟩
def dt(W:Wd)(H:Hp)(own bor:Addr->Prop)(c':C)(x:V)(Q:VK):Prop:=∀a o o' u,x= .ref a->own a->H a=some o->eA o->AI W (upd H a o') own bor c' x->Q u (upd H a o')
variable{Hin:Hp}{A0:Addr->Prop}{Bo:Nat->Addr->Prop}{ρ:Env}{D:Ends}
theorem Aw.chg{i:Nat}{c:C}{O:Addr->Nat}(S:Aw W Hin A0 Bo H ρ σ)(hO:∀i c,Ap ρ i=some c->∃v,σ[i]? =some (some v)/\AI W H (λa=>O a=i/\(Hin a=none\/A0 a)) (Bo i) c v)
 (hg:Ap ρ i=some c)(hx:σ[i]? =some (some x)){o:HO}(ho:O a=i/\(Hin a=none\/A0 a))(ha:H a=some o)(mu:eA o)(r:AI W (upd H a o') (λa=>O a=i/\(Hin a=none\/A0 a)) (Bo i) c' x):Aw W Hin A0 Bo (upd H a o') (ρ.set i (some c')) σ:=by
 have kp:AS H (upd H a o'):=D7 ha mu.1 mu.2.1
 have ZL:∀b,((∃x,Hin b=some x)/\¬A0 b)->b≠a:=λb h z=>by
  subst z;rcases ho.2 with k|k
  .rw[k]at h;obtain⟨⟨_,z⟩,_⟩:=h;cases z
  .exact h.2 k
 refine⟨by rw[length_set];exact S.len,Py S.tb ha mu.1 mu.2.1 mu.2.2,⟨O,λj d q=>?_⟩,S.bo,λb y q n nt=>?_,λb y q=>?_,S.kp.trans kp⟩
 .rw[Ck]at q;split at q
  .rename_i hij;subst hij;rw[iP (Nr hg)]at q;cases q;exact⟨x,hx,r⟩
  .rename_i hij;obtain⟨u,q1,q2⟩:=hO j d q;refine⟨u,q1,q2.mono kp (λb y p k n=>⟨by rw[Ac λz=>hij (by rw[<-ho.1,<-p.1,z])];exact k,p⟩) λb y p k n=>⟨by rw[Ac (ZL b (S.bo j b p))];exact k,p⟩⟩
 .rw[Ac (ZL b ⟨⟨y,q⟩,n⟩)];exact S.FI b y q n nt
 .by_cases hb:b=a
  .subst hb;exact⟨_,Ag⟩
  .rw[Ac hb];exact S.HI b y q
def G0(W:Wd)(f:C->List C->Option C):V->List V->Hp->VK->Prop:=λx vs H Q=>∃own bor c cs c',AI W H own bor c x/\CC W H (λ_ _=>True) (λ_=>True) 0 cs vs/\f c cs=some c'/\dt W H own bor c' x Q
variable{Fs:Env->Res (List C)}
theorem VR{i:Nat}{f:C->List C->Option C}(S:Aw W Hin A0 Bo H ρ σ)(h:Bp W EX Hin A0 Bo [] D σ ((Fs ρ).fl ρ λcs=>match(Ap ρ i).bind λc=>f c cs with|some c'=>.nx (ρ.set i (some c'))|none=>.stuck))(hg:Ap ρ i=some c)(hx:σ[i]? =some (some x)):
 tG W EX (W9 W) Fs σ H λvs H2=>G0 W f x vs H2 λ_ H3=>D.nx σ H3:=by
 refine⟨ρ,_,S.rev,h.step S λcs vs H1 e t ⟨P,r⟩ h1=>?_⟩;have S1:=S.ext e t;obtain⟨O,hO⟩:=S1.env;rw[hg]at h1;cases e1:f c cs with
 |none=>rw[show(some c).bind (λc=>f c cs)=none from e1]at h1;exact h1.elim
 |some c'=>
   rw[show(some c).bind (λc=>f c cs)=some c' from e1]at h1;obtain⟨v,q1,q2⟩:=hO i c hg;rw[hx]at q1;cases q1;exact⟨_,_,c,cs,c',q2,r.imp (Ext.refl _) (λ_ _ _=>trivial) (λ_ _=>trivial),e1,λa o o' u ex ho ha mu r'=>h1 σ _ (S1.chg hO hg hx ho ha mu r') (AD.refl _ _)⟩
theorem Rf{c:C}(h:c.Ew=true):∃ps,c= .lst true ps:=by
 cases c with
 |lst o ps=>cases (show o=true from h);exact⟨ps,rfl⟩
 |_=>cases h
theorem Q0{i:Nat}{f:C->List C->Option C}{r:V->List V->Hp->VK->Prop}(K:Frag)(hr:∀x vs H Q,G0 W f x vs H Q->r x vs H Q)
 (h:tS W EX [] (λρ=>if !(Ap ρ i).any C.Ew then .stuck else(Fs ρ).fl ρ λcs=>match(Ap ρ i).bind λc=>f c cs with|some c'=>.nx (ρ.set i (some c'))|none=>.stuck) D σ H):MK (iJ K "list" r (IL i) (tG W EX (W9 W) Fs)) D σ H:=by
 obtain⟨Hin,A0,Bo,ρ,S,hA⟩:=h;obtain⟨O,hO⟩:=S.env;cases hg:Ap ρ i with
 |none=>simp only[hg]at hA;exact hA.elim
 |some c=>
   cases hc:c.Ew with
   |false=>simp only[hg,Option.any_some,hc]at hA;exact hA.elim
   |true=>
     replace hA:Bp W EX Hin A0 Bo [] D σ (if(!(Ap ρ i).any C.Ew)=true then .stuck else(Fs ρ).fl ρ λcs=>match(Ap ρ i).bind λc=>f c cs with|some c'=>.nx (ρ.set i (some c'))|none=>.stuck):=hA;rw[iN (by rw[hg];simp[hc])]at hA;obtain⟨ps,rfl⟩:=Rf hc;obtain⟨v,q1,q2⟩:=hO i _ hg;have q3:=q2;obtain⟨a,vs,rfl,k1,k2⟩:=q3;refine⟨_,q1,.inl ⟨rfl,vs,Ep.of k1.1⟩,?_⟩;obtain⟨ρ',B,R,z⟩:=VR S hA hg q1;exact⟨ρ',B,R,z.imp λvs H' y=>hr _ _ _ _ y⟩
theorem EN{c:C}{ps:List P}(h:c.OA=some ps):c= .lst true ps:=by
 cases c with
 |lst o qs=>
   cases o with
   |true=>cases h;rfl
   |false=>cases h
 |_=>cases h
theorem DR{own bor:Addr->Prop}{ps qs:List P}{Q:VK}(h:AI W H own bor (.lst true ps) x)(q:dt W H own bor (nw qs) x Q):∃l vs,x= .ref l/\H l=some (.lst vs)/\CU W H ps vs/\∀ws u,CU W H qs ws->Q u (upd H l (.lst ws)):=by
 obtain⟨a,vs,e,k1,k2⟩:=h;refine⟨a,vs,e,k1.1,k2,λws u r=>q a _ _ u e k1.2 k1.1 FC ⟨a,ws,e,⟨Ag,k1.2⟩,r.mono (D7 k1.1 FC.1 FC.2.1)⟩⟩
theorem W8{own:Nat->Addr->Prop}{bor:Addr->Prop}{c:C}(h:CC W H own bor 0 [c] vs):∃v,vs=[v]/\AI W H (own 0) bor c v:=by
 obtain⟨v,r,rfl,h1,h2⟩:=h;exact⟨v,by rw[show r=[]from h2],h1⟩
theorem W7{own:Nat->Addr->Prop}{bor:Addr->Prop}{c d:C}(h:CC W H own bor 0 [c,d] vs):∃v u,vs=[v,u]/\AI W H (own 0) bor c v/\AI W H (own 1) bor d u:=by
 obtain⟨v,r,rfl,h1,u,r2,rfl,h2,h3⟩:=h;exact⟨v,u,by rw[show r2=[]from h3],h1,h2⟩
variable{c':C}
theorem Qz{g:C->C->Option C}{cs:List C}(h:BY g c cs=some c'):∃a,cs=[a]/\g c a=some c':=by
 unfold BY at h;split at h
 .exact⟨_,rfl,h⟩
 .cases h
theorem Qy{g:C->C->C->Option C}{cs:List C}(h:G1 g c cs=some c'):∃a b,cs=[a,b]/\g c a b=some c':=by
 unfold G1 at h;split at h
 .exact⟨_,_,rfl,h⟩
 .cases h
theorem QR:∀x vs H Q,G0 W (BY AL) x vs H Q->MZ x vs H Q:=by
 rintro x vs H Q ⟨own,bor,c,cs,c',h1,h2,e,q⟩
 obtain⟨a,rfl,e⟩:=Qz e;obtain⟨ps,ep,e⟩:=Ae e;obtain⟨y,ey,e⟩:=Ae e;obtain⟨hl,rfl⟩:=A6 e;cases EN ep;cases C.Cs ey;obtain⟨v,rfl,r⟩:=W8 h2;obtain⟨l,ws,rfl,k1,k2,k3⟩:=DR h1 q;have:=Paired.length k2;have:=BH;exact⟨l,ws,v,rfl,rfl,k1,by lia,k3 _ _ (Pd.append k2 (.cons r .nil))⟩
structure Walk(W:Wd)(J:It)(xs:List P)(g:Hp->Prop):Prop where
 go:∀i H,g H->i < xs.length->J.go i H
 P8:∀i H x H',g H->i < xs.length->J.P8 i H x H'->DU H H'/\∃p,xs[i]? =some p/\Af W H' p x
 stop:∀H,g H->J.stop xs.length H
def wI(W:Wd)(k:Sq)(tl:TE):TI:=λσ H R=>tl σ H λv H1=>∃c xs,Ef W H1 c v/\k c=some xs/\∀J,Walk W J xs (λH=>Ef W H c v)->R J H1
def ZR:List Nat->SW
 |[]=>cB
 |i::is=>Wt (EU i) (ZR is)
def gT(W:Wd):Tg->TG
 |.nm i=>EU i
 |.tup is=>YR W.K is.length (ZR is)
variable{as:List Nat}
theorem Aw.Od{i:Nat}(S:Aw W Hin A0 Bo H ρ σ)(hi:i < σ.length)(hp:Af W H p v):Aw W Hin A0 Bo H (ρ.set i (some (.p p))) (σ.set i (some v)):=S.set (c:=.p p) (B:=λ_=>True) (Ext.refl H) S.tb hi rfl hp
theorem Mg{Q:L2.St->Hp->Prop}:∀{is:List Nat} {ps:List P} {vs:List V} {ρ:Env} {σ:L2.St},CU W H ps vs->is.length=ps.length->Aw W Hin A0 Bo H ρ σ->(∀i∈is,i < σ.length)->
 (∀σ',Aw W Hin A0 Bo H ((is.zip ps).foldl (λr q=>r.set q.1 (some (.p q.2))) ρ) σ'->AD is σ σ'->Q σ' H)->ZR is vs σ H Q
 |[],_,_,ρ,σ,.nil,hl,S,hi,q=>⟨rfl,q σ S (AD.refl _ _)⟩
 |[],_,_,_,_,.cons _ _,hl,_,_,_=>by cases hl
 |i::is,_,_,_,_,.nil,hl,_,_,_=>by cases hl
 |i ::is,_,_,ρ,σ,.cons h1 h2,hl,S,hi,q=>⟨_,_,rfl,Mg h2 (Nat.succ.inj hl) (S.Od (hi i mS) h1) (λj hj=>by rw[length_set];exact hi j (mC hj)) λσ' s w=>
     q σ' s ((AD.set mS).trans (w.mono λj hj=>mC hj))⟩
variable{ρ':Env}
theorem cz{Q:L2.St->Hp->Prop}{g:Tg}(e:IX g p ρ=some ρ')(hp:Af W H p v)(S:Aw W Hin A0 Bo H ρ σ)(hi:∀i∈g.slots,i < σ.length)(q:∀σ',Aw W Hin A0 Bo H ρ' σ'->AD g.slots σ σ'->Q σ' H):gT W g v σ H Q:=by
 cases g with
 |nm i=>
   cases e;exact q _ (S.Od (hi i mS) hp) (AD.set mS)
 |tup is=>
   obtain⟨ps,e1,e⟩:=Ae e;obtain⟨hl,rfl⟩:=A6 e;cases P.Bx e1;obtain⟨a,vs,rfl,s1,r1⟩:=AX.mp hp;exact⟨a,vs,rfl,s1,by rw[<-Paired.length r1,<-hl],Mg r1 hl S hi q⟩
theorem FJ{g:Tg}{bs:List Nat}{B:Env->Fl}{J:It}{xs:List P}{gc:Hp->Prop}(hJ:Walk W J xs gc)(hgc:∀H' ρ' σ',Aw W Hin A0 Bo H' ρ' σ'->gc H')(hi:∀i∈g.slots,i < σ.length)(S:Aw W Hin A0 Bo H ρ σ)(hA:Bp W EX Hin A0 Bo (g.slots++bs) D σ (forL g B xs ρ)):
 ∃Wv:Nat->Nat->L2.St->Hp->Prop,(∃m,Wv 0 m σ H)/\∀i m σ' H',Wv i m σ' H'->(J.stop i H'/\D.nx σ' H')\/(J.go i H'/\∃N:L2.St->Hp->Prop,(∀σ2 H2,N σ2 H2->∃m',m' < m/\Wv (i+1) m' σ2 H2)/\∀x H2,J.P8 i H' x H2->gT W g x σ' H2 λσ3 H3=>tS W EX bs B {nx:=N,rt:=D.rt,bk:=D.nx,ct:=N} σ3 H3):=by
 refine⟨λi m σ' H'=>m=xs.length-i/\i<=xs.length/\∃ρ',Aw W Hin A0 Bo H' ρ' σ'/\AD (g.slots++bs) σ σ'/\Bp W EX Hin A0 Bo (g.slots++bs) D σ' (forL g B (xs.drop i) ρ'),⟨xs.length,rfl,Nat.zero_le _,ρ,S,AD.refl _ _,hA⟩,?_⟩
 rintro i m σ' H' ⟨rfl,hix,ρ',S',hU,hA'⟩
 have hg:=hgc H' ρ' σ' S';have m1:∀i∈g.slots,i∈g.slots++bs:=λi hi=>mL hi
 have m2:∀i∈bs,i∈g.slots++bs:=λi hi=>mR hi
 by_cases hlt:i < xs.length
 .rw[List.drop_eq_getElem_cons hlt]at hA';refine .inr ⟨hJ.go i H' hg hlt,λσ2 H2=>∃ρ',Aw W Hin A0 Bo H2 ρ' σ2/\AD (g.slots++bs) σ σ2/\Bp W EX Hin A0 Bo (g.slots++bs) D σ2 (forL g B (xs.drop (i+1)) ρ'),λσ2 H2 z=>⟨xs.length-(i+1),by lia,rfl,hlt,z⟩,λx H2 hy=>?_⟩;obtain⟨s2,p,ep,rp⟩:=hJ.P8 i H' x H2 hg hlt hy;have ep:xs[i]=p:=by rw[List.getElem?_eq_getElem hlt]at ep;exact Option.some.inj ep
  rw[ep]at hA';have S2:=S'.ext (.of s2) (S'.tb.same s2);replace hA':Bp W EX Hin A0 Bo (g.slots++bs) D σ' (match IX g p ρ' with|some ρ1=>(B ρ1).turn (forL g B (xs.drop (i+1)))|none=>.stuck):=hA';cases es:IX g p ρ' with
  |none=>rw[es]at hA';exact hA'.elim
  |some ρ2=>
    rw[es]at hA';refine cz es rp S2 (λj hj=>by rw[hU.1];exact hi j hj) λσ3 S3 w3=>⟨Hin,A0,Bo,ρ2,S3,?_⟩
    have h3:=Bp.later (r:=(B ρ2).turn (forL g B (xs.drop (i+1)))) hA' (w3.mono m1);have hU3:=hU.trans (w3.mono m1);cases eB:B ρ2 with
    |nx ρ4=>rw[eB]at h3;exact λσ4 H4 s w=>⟨ρ4,s,hU3.trans (w.mono m2),Bp.later (r:=forL g B (xs.drop (i+1)) ρ4) h3 (w.mono m2)⟩
    |cnt ρ4=>rw[eB]at h3;exact λσ4 H4 s w=>⟨ρ4,s,hU3.trans (w.mono m2),Bp.later (r:=forL g B (xs.drop (i+1)) ρ4) h3 (w.mono m2)⟩
    |brk ρ4=>rw[eB]at h3;exact λσ4 H4 s w=>h3 σ4 H4 s (w.mono m2)
    |err x p ρ4=>rw[eB]at h3;exact λσ4 H4 s w=>h3 σ4 H4 s (w.mono m2)
    |stuck=>rw[eB]at h3;exact h3
    |ret c=>rw[eB]at h3;exact h3
 .have e:i=xs.length:=by lia
  subst e;rw[List.drop_length]at hA';exact .inl ⟨hJ.stop H' hg,hA' σ' H' S' (AD.refl _ _)⟩
variable{H1 H2:Hp}{ρ2:Env}{σ2:L2.St}{w:Addr->Prop}
theorem Aw.congr(S:Aw W Hin A0 Bo H ρ σ)(h:∀j,Ap ρ' j=Ap ρ j)(hl:ρ'.length=ρ.length):Aw W Hin A0 Bo H ρ' σ:=
 ⟨S.len.trans hl.symm,S.tb,let⟨O,k⟩:=S.env;⟨O,λi c q=>k i c (by rw[<-h];exact q)⟩,S.bo,S.FI,S.HI,S.kp⟩
def ownIn(Hin:Hp)(A0:Addr->Prop)(H:Hp)(w:Addr->Prop):Addr->Prop:=λb=>(∃x,H b=some x)/\(Hin b=none\/A0 b)/\¬w b
theorem Aw.ZL(S:Aw W Hin A0 Bo H ρ σ){j:Nat}(h:Bo j a):¬ownIn Hin A0 H w a:=λz=>by
 obtain⟨⟨x,q⟩,n⟩:=S.bo j a h;rcases z.2.1 with k|k
 .rw[k]at q;cases q
 .exact n k
theorem Aw.into(S:Aw W Hin A0 Bo H ρ σ)(e:Ext H H1)(t:BX W H1):Aw W H1 (ownIn Hin A0 H λ_=>False) Bo H1 ρ σ:=by
 obtain⟨O,h⟩:=S.env;refine⟨S.len,t,⟨O,λi c q=>?_⟩,λi a z=>⟨?_,S.ZL z⟩,λb x q _ _=>q,λb x q=>⟨x,q⟩,AS.refl _⟩
 .obtain⟨v,q1,q2⟩:=h i c q;exact⟨v,q1,q2.mono e.keep (λa x p k n=>⟨e.but a x k n,p.1,.inr ⟨⟨x,k⟩,p.2,id⟩⟩) λa x p k n=>⟨e.but a x k n,p⟩⟩
 .obtain⟨⟨x,q⟩,_⟩:=S.bo i a z;obtain⟨y,q⟩:=S.HI a x q;exact e.there a y q
variable{Bo':Nat->Addr->Prop}
theorem Aw.bt(S:Aw W Hin A0 Bo H ρ σ)(e:Ext H H1)(S2:Aw W H1 (ownIn Hin A0 H w) Bo' H2 ρ2 σ2):(∀b x,Hin b=some x->¬A0 b->Dy x=false->H2 b=some x)/\(∀b x,Hin b=some x->∃y,H2 b=some y)/\AS Hin H2/\∀b,(H1 b=none\/ownIn Hin A0 H w b)->Hin b=none\/A0 b:=
 ⟨λb x q n nt=>S2.FI b x (e.but b x (S.FI b x q n nt) nt) (λz=>by
     rcases z.2.1 with k|k
     .rw[k]at q;cases q
     .exact n k) nt,λb x q=>let⟨y,q⟩:=S.HI b x q;let⟨z,q⟩:=e.there b y q;S2.HI b z q,(S.kp.trans e.keep).trans S2.kp,λb z=>z.elim (λk=>.inl (S.new (e.none k))) λk=>k.2.1⟩
theorem Aw.out(S:Aw W Hin A0 Bo H ρ σ)(e:Ext H H1)(S2:Aw W H1 (ownIn Hin A0 H λ_=>False) Bo H2 ρ2 σ2):Aw W Hin A0 Bo H2 ρ2 σ2:=by
 obtain⟨f1,f2,f3,f4⟩:=S.bt e S2;obtain⟨O,h⟩:=S2.env;refine⟨S2.len,S2.tb,⟨O,λi c q=>?_⟩,S.bo,f1,f2,f3⟩;obtain⟨v,q1,q2⟩:=h i c q;exact⟨v,q1,q2.ext (Ext.refl _) (λa z=>⟨z.1,f4 a z.2⟩) λ_ z=>z⟩
theorem Er.out(S:Aw W Hin A0 Bo H ρ σ)(e:Ext H H1)(r:Er W H1 (ownIn Hin A0 H w) c v H2):Er W Hin A0 c v H2:=by
 obtain⟨r1,r2,r3,r4,r5⟩:=r;refine⟨r1.ext (Ext.refl _) (λa z=>z.elim (λk=>.inl (S.new (e.none k))) λk=>k.2.1) λ_ z=>z,r2,λb x q n nt=>r3 b x (e.but b x (S.FI b x q n nt) nt) (λz=>?_) nt,λb x q=>?_,(S.kp.trans e.keep).trans r5⟩
 .rcases z.2.1 with k|k
  .rw[k]at q;cases q
  .exact n k
 .obtain⟨y,q⟩:=S.HI b x q;obtain⟨z,q⟩:=e.there b y q;exact r4 b z q
theorem JB{Hin':Hp}{A0':Addr->Prop}{f:Env->Env}{r:Fl}(h:Bp W EX Hin A0 Bo as D σ (r.fin f))(hs:∀ρ2 σ2 H2,Aw W Hin' A0' Bo' H2 ρ2 σ2->AD as σ σ2->Aw W Hin A0 Bo H2 (f ρ2) σ2)(hr:∀c v H2,Er W Hin' A0' c v H2->Er W Hin A0 c v H2):Bp W EX Hin' A0' Bo' as D σ r:=by
 cases r with
 |nx ρ2=>exact λσ2 H2 s u=>h σ2 H2 (hs ρ2 σ2 H2 s u) u
 |err x p ρ2=>exact λσ2 H2 s u=>h σ2 H2 (hs ρ2 σ2 H2 s u) u
 |ret c=>exact λv H2 r=>h v H2 (hr c v H2 r)
 |stuck=>exact h.elim
 |brk _=>exact h.elim
 |cnt _=>exact h.elim
theorem aU{k:Sq}{g:Tg}{bs:List Nat}{F:Env->Res C}{B:Env->Fl}(hi:∀i∈g.slots,i < σ.length)(h:tS W EX (g.slots++bs) (λρ=>(F ρ).fl ρ λc=>match k c with|some xs=>if c.own then(forL g B xs ρ).fin id else .stuck|none=>.stuck) D σ H):
 X2 (wI W k (tG W EX (rV W) F)) (gT W g) (tS W EX bs B) D σ H:=by
 obtain⟨Hin,A0,Bo,ρ,S,hA⟩:=h;refine⟨ρ,_,S.rev,hA.step S λc v H1 e t r h1=>?_⟩;cases ek:k c with
 |none=>rw[ek]at h1;exact h1.elim
 |some xs=>
   simp only[ek]at h1;split at h1
   case isFalse=>exact h1.elim
   rename_i ho;refine⟨c,xs,r.rd,ek,λJ hJ=>FJ (A0:=ownIn Hin A0 H λ_=>False) (Bo:=Bo) hJ (λH' ρ' σ' S'=>?_) hi (S.into e t) (JB (f:=id) h1 (λρ2 σ2 H2 s u=>S.out e s) λc v H2 z=>Er.out S e z)⟩;exact AI.mono (Jf (bor':=λ_=>False) ho r λa x z _=>z) S'.kp (λa x p q n=>⟨S'.FI a x q (λz=>by obtain⟨⟨y,z⟩,_⟩:=z;rw[p]at z;cases z) n,trivial⟩) λa x p q n=>p.elim
theorem Xr{k:Sq}(hk:∀o kvs,k (.BC o kvs)=none){g:Tg}{bs:List Nat}{i:Nat}{B:Env->Fl}(hi:∀i∈g.slots,i < σ.length)(h:tS W EX (g.slots++bs) (λρ=>match(Ap ρ i).bind λc=>k c.bor with
 |some xs=>if(g.slots++bs).contains i then .stuck else(forL g B xs (ρ.set i ((Ap ρ i).map C.bor))).fin (VN (Ap ρ i) i)
 |none=>.stuck) D σ H):X2 (wI W k (IL i)) (gT W g) (tS W EX bs B) D σ H:=by
 obtain⟨Hin,A0,Bo,ρ,S,hA⟩:=h;obtain⟨O,hO⟩:=S.env;cases hg:Ap ρ i with
 |none=>simp only[hg]at hA;exact hA.elim
 |some c=>
   simp only[hg,Option.bind_some,Option.map_some]at hA;cases ek:k c.bor with
   |none=>simp only[ek]at hA;exact hA.elim
   |some xs =>
     simp only[ek]at hA;split at hA
     .exact hA.elim
     rename_i hni;have hni:i∉g.slots++bs:=λz=>hni (by simpa using z)
     obtain⟨v,q1,q2⟩:=hO i c hg;have hil:=Nr hg;cases hl:c.Ew with
     |false=>
       have eb:c.bor=c:=by
        cases c with
        |lst o ps=>cases (show o=false from hl);rfl
        |BC o ps=>rw[show(C.BC o ps).bor= .BC false ps from rfl,hk]at ek;cases ek
        |_=>rfl
       have hu:VN (some c) i=id:=funext λρ=>by unfold VN;rw[Option.any_some,hl];rfl
       rw[eb,hu]at hA
       have S1:=(S.into (Ext.refl H) S.tb).congr (ρ':=ρ.set i (some c)) (λj=>by
        rw[Ck];split
        .rename_i hij;subst hij;exact hg.symm
        .rfl) (length_set ..)
       refine⟨v,q1,c.bor,xs,(q2.rd).borrow λ_ z=>z,ek,λJ hJ=>FJ (A0:=ownIn Hin A0 H λ_=>False) (Bo:=Bo) hJ (λH' ρ' σ' S'=>?_) hi S1 (JB (f:=id) hA (λρ2 σ2 H2 s u=>S.out (Ext.refl H) s) λc v H2 z=>Er.out S (Ext.refl H) z)⟩;rw[eb];cases c with
       |p x=>exact Af.mono S'.kp q2
       |exc x p=>exact⟨q2.1,q2.2.1,q2.2.2.mono S'.kp⟩
       |lst o ps=>
         cases (show o=false from hl);exact AI.mono (own:=λ_=>False) (bor:=Bo i) q2 S'.kp (λ_ _ z=>z.elim) λa x p q n=>⟨S'.FI a x q (S.ZL p) n,trivial⟩
       |BC o ps=>rw[show(C.BC o ps).bor= .BC false ps from rfl,hk]at ek;cases ek
     |true=>
       obtain⟨ps,rfl⟩:=Rf hl;obtain⟨a,vs,rfl,⟨k1,k2,k3⟩,k4⟩:=q2;have hu:VN (some (.lst true ps)) i=λρ=>ρ.set i ((Ap ρ i).map C.iD):=rfl
       rw[hu]at hA
       let w:Addr->Prop:=λb=>b=a
       let Bo':Nat->Addr->Prop:=λj b=>Bo j b\/(j=i/\b=a)
       have na:¬ownIn Hin A0 H w a:=λz=>z.2.2 rfl
       have S1:Aw W H (ownIn Hin A0 H w) Bo' H (ρ.set i (some (.lst false ps))) σ:=by
        refine⟨by rw[length_set];exact S.len,S.tb,⟨O,λj d q=>?_⟩,λj b z=>?_,λb x q _ _=>q,λb x q=>⟨x,q⟩,AS.refl _⟩
        .rw[Ck]at q;split at q
         .rename_i hij;subst hij;cases q;exact⟨_,q1,a,vs,rfl,.inl ⟨k1,.inr ⟨rfl,rfl⟩⟩,k4⟩
         .rename_i hij;obtain⟨u,r1,r2⟩:=hO j d q;exact⟨u,r1,r2.mono (AS.refl _) (λb x p k n=>⟨k,p.1,.inr ⟨⟨x,k⟩,p.2,λz=>hij (by rw[<-k2,<-p.1,show b=a from z])⟩⟩) λb x p k n=>⟨k,.inl p⟩⟩
        .rcases z with z|⟨_,rfl⟩
         .obtain⟨⟨x,q⟩,_⟩:=S.bo j b z;exact⟨S.HI b x q,S.ZL z⟩
         .exact⟨⟨_,k1⟩,na⟩
       refine⟨_,q1,.lst false ps,xs,⟨a,vs,rfl,.inl ⟨k1,trivial⟩,k4⟩,ek,λJ hJ=>FJ (A0:=ownIn Hin A0 H w) (Bo:=Bo') hJ (λH' ρ' σ' S'=>⟨a,vs,rfl,.inl ⟨S'.FI a _ k1 na rfl,trivial⟩,k4.mono S'.kp⟩) hi S1 (JB hA (λρ2 σ2 H2 s u=>?_) λc v H2 z=>Er.out S (Ext.refl H) z)⟩;obtain⟨f1,f2,f3,f4⟩:=S.bt (Ext.refl H) s;obtain⟨O2,h2⟩:=s.env;have e2:H2 a=some (.lst vs):=s.FI a _ k1 na rfl;have eσ:σ2[i]? =some (some (.ref a)):=by rw[u.2 i hni];exact q1
       refine⟨by rw[length_set];exact s.len,s.tb,⟨λb=>if b=a then i else O2 b,λj d q=>?_⟩,S.bo,f1,f2,f3⟩;rw[Ck]at q;split at q
       .rename_i hij;subst hij;split at q
        case isFalse=>cases q
        obtain⟨d0,ed,rfl⟩:=Bg q;obtain⟨u',r1,r2⟩:=h2 i d0 ed;rw[eσ]at r1;cases r1;refine⟨_,eσ,?_⟩;cases d0 with
        |p x=>exact r2
        |exc x p=>exact r2
        |lst o qs=>
          obtain⟨b,ws,eb,r3,r4⟩:=r2;cases eb;refine⟨a,ws,rfl,?_,r4⟩;cases o with
          |true=>
            rcases r3.2.2 with z|z
            .rw[k1]at z;cases z
            .exact absurd z na
          |false=>
            rcases r3 with r3|⟨ob,r3⟩
            .exact⟨r3.1,iP rfl,k3⟩
            .rw[e2]at r3;cases r3
        |BC o qs=>
          obtain⟨b,ws,eb,r3,r4⟩:=r2;cases eb;refine⟨a,ws,rfl,?_,r4⟩;cases o with
          |true=>exact absurd (e2.symm.trans r3.1) λz=>HO.noConfusion (Option.some.inj z)
          |false=>
            rcases r3 with r3|r3
            .exact absurd (e2.symm.trans r3.1) λz=>HO.noConfusion (Option.some.inj z)
            .exact .inr r3
       .rename_i hij;obtain⟨u',r1,r2⟩:=h2 j d q;refine⟨u',r1,r2.mono (AS.refl _) (λb x p k n=>⟨k,?_,f4 b p.2⟩) λb x p k n=>⟨k,p.resolve_right λz=>hij z.1.symm⟩⟩
        have hb:b≠a:=λz=>by
         subst z;rcases p.2 with z|z
         .rw[k1]at z;cases z
         .exact na z
        show(if b=a then i else O2 b)=j;rw[iN hb];exact p.1
end Nv
namespace Nv
open PySem PySem.Spec L2 PyProof.Rows
section
variable{prog:Program}{w:World}{A:Around}{R:Result->Shared->Prop}{s:Shared}
abbrev tests(ifs:List Expr)(env:PySem.Env):Sem Bool:=forIn ifs true λc r=>if r=true then do let ok <-isTrue c env (eval c env);pure (ForInStep.yield ok)else pure (ForInStep.yield r)
theorem LZ{elt target iter:Expr}{ifs:List Expr}{scope:Scope}{pos:Pos}{it acc:Value}{env:PySem.Env}(I:Nat->Shared->Prop)
 (turn : ∀n s,I n s->wpAny (model prog w) A (pyNext it) (λr s₁=>match r with
  |none=>R (.ok .next) s₁
  |some v=>wpAny (model prog w) A (letOwnedTupleGo target it v) (λ_ s₀=>wpAny (model prog w) A (assign target env v) (λ_ s₂=>wpAny (model prog w) A (tests ifs env) (λok s₃=>
   if ok=true then wpAny (model prog w) A (eval elt env) (λx s₄=>
    wpAny (model prog w) A (call (.builtin "list.append") [acc,x]) (λ_ s₅=>∃m,m < n/\I m s₅) (λ_ _=>False) s₄) (λ_ _=>False) s₃ else ∃m,m < n/\I m s₃) (λ_ _=>False) s₂) (λ_ _=>False) s₀) (λ_ _=>False) s₁) (λ_ _=>False) s)
 (n:Nat)(h:I n s):codeAny (model prog w) A (.compLoop (.ListComp elt [⟨target,iter,ifs,0⟩] scope pos) 0 it acc env) R s:=by
 refine codeAny_loop rfl I (λn s hI=>?_) n h;show wpAny _ _ ((compTurn (.ListComp elt [⟨target,iter,ifs,0⟩] scope pos) 0 it acc env).onRaise (λx=>noteFrame x env >>= λ_=>theTreesLotGoes x)) _ _ s;refine wpAny_noted ?_;rw[compTurn_list];refine wB (wpAny_standAt (wB (wpAny_mono (turn n s hI) (λr s₁ h₁=>?_) λ_ _ z=>z.elim)));cases r with
 |none=>exact wP h₁
 |some v=>
   refine wB (wpAny_mono h₁ (λ_ s₀ h₀=>wB (wpAny_mono h₀ (λ_ s₂ h₂=>wB (wpAny_mono h₂ (λok s₃ h₃=>?_) λ_ _ z=>z.elim)) λ_ _ z=>z.elim)) λ_ _ z=>z.elim);cases ok with
   |true=>
     rw[iP rfl]at h₃;exact wB (wB (wpAny_mono h₃ (λx s₄ h₄=>wB (wpAny_mono h₄ (λ_ s₅ h₅=>wP (wP ⟨rfl,h₅⟩)) λ_ _ z=>z.elim)) λ_ _ z=>z.elim))
   |false=>
     rw[iN Bool.false_ne_true]at h₃;exact wP ⟨rfl,h₃⟩
end
section
variable{X:Cx}{elt iter tg:Expr}{ifs:List Expr}{scope:Scope}{pos:Pos}{N:List Str}{fr:List (Option Nat)}{g:TG}{te:TE}{tc:TT}{wi:TI}
def ZE(X:Cx)(ifs:List Expr)(t:TT):Prop:=
 ∀(pins:Oa) (s:Shared) (σ:L2.St) (H:Hp) (Q:Bool->Hp->Prop),Inv X pins σ H s->t σ H Q->(X|||(tests ifs X.env)) (TP X pins σ Q) X.xe s
theorem Ua:ZE X [] (λσ H Q=>Q true H):=λpins s σ H Q I h=>wpAny_tests_nil ⟨H,I,h⟩
theorem U9(h:PT X c tc):ZE X [c] tc:=λpins s σ H Q I k=>wpAny_tests_one (h pins s σ H Q I k)
def SE(J:It)(g:TG)(tc:TT)(te:TE)(σ0:L2.St)(H0:Hp)(Q:List V->Hp->Prop):Prop:=∃W:Nat->List V->Nat->L2.St->Hp->Prop,(∃m,W 0 [] m σ0 H0)/\∀i acc m σ' H',W i acc m σ' H'->
 (J.stop i H'/\Q acc H')\/(J.go i H'/\acc.length < sizeLine/\∀x H2,J.P8 i H' x H2->g x σ' H2 λσ2 H3=>tc σ2 H3 λb H4=>if b=true then te σ2 H4 λy H5=>∃m',m' < m/\W (i+1) (acc++[y]) m' σ2 H5 else ∃m',m' < m/\W (i+1) acc m' σ2 H4)
theorem Sf{pins:Oa}{σ:L2.St}{H:Hp}{s:Shared}{J:It}{fp:List Addr}{it:Addr}{tn:Nat->Heap->Prop}{Q:List V->Hp->Prop}{E:Va}(hc:X.calm=true)(ok:Dw X.N X.env.scope N scope fr)
 (hb:∀C s H fp,PG (AQ X N scope C s H fp) tg g/\PE (AQ X N scope C s H fp) elt te/\ZE (AQ X N scope C s H fp) ifs tc)(I:Inv X pins σ H s)(T:Turn X.prog X.w X.K tg J fp it tn)(t0:tn 0 s.heap)(hf:∀b∈fp,FX X pins H b)
 (hW:SE J g tc te (En fr σ) H Q):
 (X|||(newList [])) (λacc s₃=>(X|||(newFunctionEnv scope X.env.globals (HB X.env.cells scope.names []) [] X.env.qual none .none (some X.env))) (λcenv s₄=>
  codeAny (model X.prog X.w) X.A (.compStart (.ListComp elt [⟨tg,iter,ifs,0⟩] scope pos) 0 (.ref it) acc {cenv with scope:=relabel scope X.env}) (CompEnd X pins σ Q acc cenv.locals) s₄) E s₃) E s:=by
 have hfl:∀b∈fp,b < s.heap.objs.size:=λb hb=>by
  obtain⟨o,e,_⟩:=T.obj 0 _ t0 b hb;exact Heap.lt_size e
 refine wpAny_newObj_type (wpAny_newFunctionEnv ok.D1 (by intro y hy;simp at hy) (λh₁ hns₁ hsb₁=>?_) ok.kind);dsimp only at hns₁ hsb₁ ⊢;generalize hH2:s.heap.push {cls:=.type "list",dict:=none,data:=.seq ([]:List Value).toArray}=H2 at hns₁ hsb₁ ⊢;have hC:H2.objs.size=s.heap.objs.size+1:=by rw[<-hH2,Heap.size_push]
 have hDC:s.heap.objs.size≠H2.objs.size:=by rw[hC];exact Nat.ne_of_lt (Nat.lt_succ_self _)
 have hCle:s.heap.objs.size<=H2.objs.size:=by rw[hC];exact Nat.le_succ _
 have old:∀b o,s.heap.get? b=some o->h₁.get? b=some o:=λb o e=>
  hsb₁.extBut b o (by rw[hC];exact Nat.ne_of_lt (Nat.lt_succ_of_lt (Heap.lt_size e))) (gP (hH2▸gP e))
 have hacc:h₁.get? s.heap.objs.size=some {cls:=.type "list",dict:=none,data:=.seq ([]:List Value).toArray}:=hsb₁.extBut _ _ hDC (gP (hH2▸Heap.get?_push_size _ rfl));obtain⟨W,⟨m0,w0⟩,turn⟩:=hW;obtain⟨hg,he,ht⟩:=hb H2.objs.size s H fp;have I1:=RU (N:=N) (fr:=fr) (tk:=s.toks+([]:List (Str×Value)).length) I ok hf hfl hCle hns₁ old;have hDfp:s.heap.objs.size∉fp:=λz=>Nat.lt_irrefl _ (hfl _ z)
 have fpx:∀{H':Hp} {ps:Oa},(∀b∈fp,H' b=none)->(∀p∈ps,p.1=s.heap.objs.size)->∀b∈fp,FX (AQ X N scope H2.objs.size s H fp) ps H' b:=λ{H' ps} hn hp b hb=>
  ⟨hn b hb,(I1.ok.cH b hb).1,I1.ok.OQ b hb,.inl hb,(I1.ok.cH b hb).2,λp hp' z=>by
   have hp':p∈([]:Oa)++ps:=hp';rw[nil_append]at hp'
   exact hDfp (by rw[<-hp p hp',z];exact hb)⟩
 have loop :∀s₃:Shared,s₃={s with heap:=h₁,toks:=s.toks + ([]:List (Str×Value)).length}->
  codeAny (model X.prog X.w) X.A (.compLoop (.ListComp elt [⟨tg,iter,ifs,0⟩] scope pos) 0 (.ref it) (.ref s.heap.objs.size) (compEnvC scope (HB X.env.cells scope.names []) H2.objs.size X.env))
   (CompEnd X pins σ Q (.ref s.heap.objs.size) H2.objs.size) s₃:=by
  rintro s₃ rfl
  refine LZ (λn s'=>∃i acc its k σ' H',Inv (AQ X N scope H2.objs.size s H fp) [(s.heap.objs.size,({cls:=.type "list",data:=.seq its k}:Obj))] σ' H' s'/\tn i s'.heap/\(∀b∈fp,H' b=none)/\acc.length<=sizeLine/\Vals acc its.toList/\W i acc n σ' H') ?_ m0
   ⟨0,[],#[],0,En fr σ,H,?_,?_,λb hb=>(hf b hb).1,Nat.zero_le _,.nil,w0⟩
  .rintro n s3 ⟨i,acc,its,k,σ3,H3,I3,st3,fr3,hz3,va3,w3⟩
   have pinD:=I3.pin _ (mR mS);rcases turn i acc n σ3 H3 w3 with⟨stop,q⟩|⟨go,hlen,step⟩
   .refine thn (T.done (AQ X N scope H2.objs.size s H fp) rfl rfl rfl hc i _ s3 σ3 H3 _ I3 (fpx fr3 (by simp)) st3 stop) λr s4 ⟨hr,I4⟩=>?_
    subst hr;have p4:=I4.pin _ (mR mS);have J4:Inv X pins σ H3 s4:=I.Wz (ch:=fp) I4.os I4.base I4.Aq I4.bare λb hb=>⟨(hf b hb).2.2.2.1,(hf b hb).2.1,(hf b hb).2.2.2.2.1,(hf b hb).2.2.2.2.2⟩
    have fD:FX X pins H3 s.heap.objs.size:=I.ON (lR) p4.2.1;have e4:s4.heap.get? s.heap.objs.size=some {cls:=.type "list",data:=.seq its.toList.toArray k}:=by simpa using p4.1
    refine⟨rfl,_,H3,acc,rfl,p4.2.1,J4.au fD hz3 va3 e4,?_,I.ON hCle ?_,q⟩
    .obtain⟨m,hn,_⟩:=I4.loc;exact⟨m,hn⟩
    .rw[Ac (Ne.symm hDC)];exact I4.free
   .refine thn (T.item (AQ X N scope H2.objs.size s H fp) rfl rfl rfl hc i _ s3 σ3 H3 _ I3 (fpx fr3 (by simp)) st3 go) λr s4 ⟨u,hr,h4⟩=>?_
    subst hr;refine thn h4 λ_ s5 ⟨x,H5,I5,r5,y5,st5,fr5⟩=>?_
    have I5':=I5.pinned (fpx fr5 (by simp)) (T.obj _ _ st5);refine thn (hg _ s5 σ3 H5 x u _ I5' r5 (step x H5 y5)) λ_ s6 ⟨σ6,H6,I6,q6⟩=>?_
    refine thn (ht _ s6 σ6 H6 _ I6 q6) λok s6' ⟨H6',I6',q6'⟩=>?_
    cases ok with
    |false=>
      rw[iN Bool.false_ne_true]at q6' ⊢;obtain⟨m',hm,w7⟩:=q6';have p7:=I6'.pin _ (mR (mL mS));refine⟨m',hm,i+1,acc,its,k,σ6,H6',?_,?_,λb hb=>?_,hz3,va3,w7⟩
      .refine(I6'.Dk (pins':=[]) λp hp=>absurd hp (by simp)).Dk λp hp=>?_
       have:p=(s.heap.objs.size,({cls:=.type "list",data:=.seq its k}:Obj)):=by simpa using hp
       subst this;exact p7
      .refine T.keep _ _ _ st5 λb hb o e=>?_
       exact(I6'.pin (b,o) (mR (mR (Cc hb e)))).1
      .obtain⟨o,e,d⟩:=T.obj _ _ st5 b hb;exact(I6'.pin (b,o) (mR (mR (Cc hb e)))).2.1
    |true=>
    rw[iP rfl]at q6' ⊢;refine thn (he _ s6' σ6 H6' _ I6' q6') λy s7 ⟨z,H7,I7,r7,q7⟩=>?_
    obtain⟨m',hm,w7⟩:=q7;have p7:=I7.pin _ (mR (mL mS));have hsz:its.size=acc.length:=by rw[va3.length];simp
    refine wpAny_list_append_plain (hsz:=by rw[hsz];exact hz3) ⟨k,p7.1⟩ λh₅ hl₅ hs₅=>?_
    obtain⟨k',e5⟩:=hl₅;refine⟨m',hm,i+1,acc++[z],its.push y,k',σ6,H7,?_,?_,λb hb=>?_,?_,?_,w7⟩
    .have J7:Inv (AQ X N scope H2.objs.size s H fp) [] σ6 H7 s7:=I7.Dk λp hp=>absurd hp (by simp)
     have J8:Inv (AQ X N scope H2.objs.size s H fp) [] σ6 H7 {s7 with heap:=h₅}:=by
      refine J7.turned (t':=s7.toks) (it:=s.heap.objs.size) (λb o hb e=>(hs₅.2 b hb).trans e) p7.2.1 p7.2.2.1 (.inr (lR)) (λx c e z=>?_) λp hp=>absurd (show p∈([]:Oa)from hp) (by simp)
      obtain⟨v,oc,hoc,hod⟩:=J7.cell x c e;rw[z,p7.1]at hoc;cases hoc;cases hod
     refine J8.Dk λp hp=>?_
     have:p=(s.heap.objs.size,({cls:=.type "list",data:=.seq (its.push y) k'}:Obj)):=by simpa using hp
     subst this;exact⟨e5,p7.2.1,p7.2.2.1,p7.2.2.2.1,λv z=>by cases z⟩
    .refine T.keep _ _ _ st5 λb hb o e=>?_
     have q:=(I7.pin (b,o) (mR (mR (Cc hb e)))).1;exact(hs₅.2 b (λz=>hDfp (z▸hb))).trans q
    .obtain⟨o,e,d⟩:=T.obj _ _ st5 b hb;exact(I7.pin (b,o) (mR (mR (Cc hb e)))).2.1
    .rw[lA,lS];exact hlen
    .rw[Array.toList_push];exact Vals.append va3 (.cons r7 .nil)
  .refine I1.Dk λp hp=>?_
   have:p=(s.heap.objs.size,({cls:=.type "list",data:=.seq #[] 0}:Obj)):=by simpa using hp
   subst this
   exact⟨hacc,I.Aq.fresh (lR),hDC,λz=>I.Yl (lR) (by
    rcases mK (I.GP _ z)with e|e
    .exact absurd I.lt (by rw[<-e];exact Nat.lt_irrefl _)
    .exact e),λv z=>by cases z⟩
  .exact T.keep _ _ _ t0 λb _ o e=>old b o e
 refine codeAny_compStart_list (loop _ rfl) ?_;exact T.self _ 0 _ _ _ (T.keep _ _ _ t0 λb _ o e=>old b o e) (loop _ rfl)
def IP(wi:TI)(g:TG)(tc:TT)(te:TE)(fr:List (Option Nat)):TE:=λσ H Q=>wi σ H λJ H1=>SE J g tc te (En fr σ) H1 λxs H'=>∀p,H' p=none->Q (.ref p) (upd H' p (.lst xs))
theorem Qq(N:List Str)(fr:List (Option Nat))(hc:X.calm=true)(ok:Dw X.N X.env.scope N scope fr)(hi:PI X tg iter wi)(hb:∀C s H fp,PG (AQ X N scope C s H fp) tg g/\PE (AQ X N scope C s H fp) elt te/\ZE (AQ X N scope C s H fp) ifs tc)
 (hs:∀x,foldedSetIterable iter X.env x=pure x:=by intro _;rfl):PE X (.ListComp elt [⟨tg,iter,ifs,0⟩] scope pos) (IP wi g tc te fr):=by
 intro pins s σ H Q I h;rw[eval_ListComp];refine wpAny_comprehension_free (use:=none) rfl hs (CN λy hy e=>I.ok.has y.1 (ok.free y hy e)) ok.kind ok.own ?_;refine thn (hi pins s σ H _ I h) λv s1 h1=>thn h1 λitv s2 h2=>?_
 obtain⟨it,fp,tn,J,H2,e,I2,T,st2,f2,hW⟩:=h2;subst e;refine thn (Sf (pos:=pos) (iter:=iter) (E:=X.xe) hc ok hb I2 T st2 f2 hW) λacc s3 h3=>thn h3 λcenv s4 h4=>?_
 refine codeAny_mono h4 λr s5 h5=>?_
 obtain⟨rfl,D,H',xs,rfl,hD,I5,⟨m,hn⟩,fC,q⟩:=h5;refine⟨m,hn,λh' hs'=>⟨.ref D,_,I5.turned (t':=s5.toks) (it:=cenv.locals) (λb o hb e=>(hs'.2 b hb).trans e) fC.1 fC.2.1 fC.2.2.2.1 fC.2.2.2.2.1 fC.2.2.2.2.2,rfl,q D hD⟩⟩
theorem Qd{i:Nat}{y:Str}{py spos:Pos}(N:List Str)(fr:List (Option Nat))(hN:X.N.Nodup)(hy:X.N[i]? =some y)(hl:X.env.scope.names.lookup y=some .local)(hc:X.calm=true)(ok:Dw X.N X.env.scope N scope fr)(hi:PI X tg iter wi)
 (hb:∀C s H fp,PG (AQ X N scope C s H fp) tg g/\PE (AQ X N scope C s H fp) elt te/\ZE (AQ X N scope C s H fp) ifs tc)
 (hsw:swapsWith (.ListComp elt [⟨tg,iter,ifs,0⟩] scope pos) (some (.Name y py)) spos.line X.env=pure true:=by rfl)
 (hs:∀x,foldedSetIterable iter X.env x=pure x:=by intro _;rfl):PS X (.Assign [.Name y py] (.ListComp elt [⟨tg,iter,ifs,0⟩] scope pos) spos) (LA (IP wi g tc te fr) (EU i)):=by
 intro pins s σ H Q I h;rw[exec_Assign_Name_used _ _ _ _ hsw];refine wB (wpAny_standAt (wB ?_));show wpAny _ X.A (do let _ <-comprehension (.ListComp elt [⟨tg,iter,ifs,0⟩] scope pos) scope X.env _ (newList []) false (eval iter X.env) (some (assign (.Name y py) X.env))) _ _ s;refine wB (wpAny_mono (wpAny_comprehension_free (use:=some (assign (.Name y py) X.env)) (Q:=λ_ s'=>SP X pins Q .next s') rfl hs (CN λy hy e=>I.ok.has y.1 (ok.free y hy e)) ok.kind ok.own ?_) (λ_ s' hq=>wP (wP hq)) λ_ _ e=>e);refine thn (hi pins s σ H _ I h) λv s1 h1=>thn h1 λitv s2 h2=>?_
 obtain⟨it,fp,tn,J,H2,e,I2,T,st2,f2,hW⟩:=h2;subst e;refine thn (Sf (pos:=pos) (iter:=iter) (E:=X.xe) hc ok hb I2 T st2 f2 hW) λacc s3 h3=>thn h3 λcenv s4 h4=>?_
 refine codeAny_mono h4 λr s5 h5=>?_
 obtain⟨rfl,D,H',xs,rfl,hD,I5,⟨m,hn⟩,fC,q⟩:=h5;show wpAny _ X.A (assign (.Name y py) X.env (.ref D)) _ _ _;refine wpAny_assign_Name (HX (v:=.ref D) I5 hN hy (.inl hl) rfl (λs6 I6 hsb=>?_) (.inr hl));obtain⟨a,sb,ha⟩:=hsb
 have hCa:cenv.locals≠a:=by
  rcases ha with e|e
  .rw[e];exact fC.2.1
  .exact λz=>fC.2.2.2.2.1 _ _ e z.symm
 refine⟨m,hn.sameBut sb hCa,λh' hs'=>?_⟩;exact⟨_,_,I6.turned (t':=s6.toks) (it:=cenv.locals) (λb o hb e=>(hs'.2 b hb).trans e) fC.1 fC.2.1 fC.2.2.2.1 fC.2.2.2.2.1 fC.2.2.2.2.2,q D hD⟩
end
end Nv
namespace Nv
open PySem L2 PyProof.Rows
def NX:XP:=λ_ _ _ _=>False
variable{W:Wd}{EX:XP}{B:Addr->Prop}{H H1:Hp}{ρ β:Env}{σ σβ:L2.St}
variable{α γ:Type}
theorem bind_assoc{β:Type}(r:Res α)(f:α->Res β)(g:β->Res γ):(r.bind f).bind g=r.bind λa=>(f a).bind g:=by cases r<;>rfl
theorem Lo.block(R:Lo W B H ρ σ)(fr:List (Option Nat)):Lo W B H (AE fr ρ) (En fr σ):=by
 refine⟨by unfold En AE;rw[lM,lM],R.tb,R.HI,λj c q=>?_⟩;unfold Ap AE at q;rw[List.getElem?_map]at q;unfold En;rw[List.getElem?_map];cases e:fr[j]? with
 |none=>rw[e]at q;cases q
 |some o=>
   rw[e]at q;cases o with
   |none=>cases q
   |some i=>
     obtain⟨c0,e0,rfl⟩:=Bg (show(Ap ρ i).map C.bor=some c from q);obtain⟨v,q1,q2⟩:=R.get i c0 e0;refine⟨v,?_,q2.borrow λ_ z=>z⟩;show some (((σ[i]?)).join)=_;rw[q1];rfl
theorem Lo.Od{i:Nat}(R:Lo W B H β σβ)(hi:i < σβ.length)(hp:Af W H p v):Lo W B H (β.set i (some (.p p))) (σβ.set i (some v)):=by
 refine⟨by rw[length_set,length_set];exact R.len,R.tb,R.HI,λj c q=>?_⟩;rw[Ck]at q;split at q
 .rename_i hij;subst hij;split at q
  .cases q;exact⟨v,List.getElem?_set_self hi,hp⟩
  .cases q
 .rename_i hij;obtain⟨u,q1,q2⟩:=R.get j c q;exact⟨u,by rw[List.getElem?_set_ne hij];exact q1,q2⟩
variable{σ':L2.St}
theorem AD.both{i:Nat}{is:List Nat}{x:Option V}(u:AD (i::is) σβ σ'):AD is (σβ.set i x) (σ'.set i x):=⟨by rw[length_set,length_set];exact u.1,λj hj=>by
 by_cases hij:i=j
 .subst hij;rw[List.getElem?_set,List.getElem?_set,u.1,iP rfl,iP rfl]
 .rw[List.getElem?_set_ne hij,List.getElem?_set_ne hij]
  exact u.2 j λz=>(mK z).elim (λz=>hij z.symm) hj⟩
theorem AD.eq(u:AD [] σβ σ'):σ'=σβ:=ext_getElem? λj=>u.2 j (by simp)
theorem Nt{Q:L2.St->Hp->Prop}:∀{is:List Nat} {ps:List P} {vs:List V} {β:Env} {σβ σ':L2.St},CU W H ps vs->is.length=ps.length->Lo W B H β σβ->AD is σβ σ'->(∀i∈is,i < σβ.length)->
 (∀σ'',Lo W B H ((is.zip ps).foldl (λr q=>r.set q.1 (some (.p q.2))) β) σ''->AD is σ' σ''->Q σ'' H)->ZR is vs σ' H Q
 |[],_,_,β,σβ,σ',.nil,hl,R,u,hi,q=>⟨rfl,q σ' (by rw[u.eq];exact R) (AD.refl _ _)⟩
 |[],_,_,_,_,_,.cons _ _,hl,_,_,_,_=>by cases hl
 |i::is,_,_,_,_,_,.nil,hl,_,_,_,_=>by cases hl
 |i ::is,_,_,β,σβ,σ',.cons h1 h2,hl,R,u,hi,q=>⟨_,_,rfl,Nt h2 (Nat.succ.inj hl) (R.Od (hi i mS) h1) u.both (λj hj=>by rw[length_set];exact hi j (mC hj)) λσ'' r w=>
     q σ'' r ((AD.set mS).trans (w.mono λj hj=>mC hj))⟩
theorem YS{Q:L2.St->Hp->Prop}{g:Tg}{β1:Env}(e:IX g p β=some β1)(hp:Af W H p v)(R:Lo W B H β σβ)(u:AD g.slots σβ σ')(hi:∀i∈g.slots,i < σβ.length)(q:∀σ'',Lo W B H β1 σ''->AD g.slots σβ σ''->Q σ'' H):gT W g v σ' H Q:=by
 cases g with
 |nm i=>
   cases e;refine q _ ?_ (u.trans (AD.set mS));rw[(AD.both (is:=[]) u).eq];exact R.Od (hi i mS) hp
 |tup is=>
   obtain⟨ps,e1,e⟩:=Ae e;obtain⟨hl,rfl⟩:=A6 e;cases P.Bx e1;obtain⟨a,vs,rfl,s1,r1⟩:=AX.mp hp;exact⟨a,vs,rfl,s1,by rw[<-Paired.length r1,<-hl],Nt r1 hl R u hi λσ'' r w=>q σ'' r (u.trans w)⟩
theorem Di.Wl{β δ:Type}{rep:Rp γ δ}{rA:Rp α β}{σ2:L2.St}{r:Res α}{G:α->Res γ}{Q:δ->Hp->Prop}{K:β->Hp->Prop}(h:Di W EX rep B H σ (r.ne.bind G) Q)
 (k:∀a b H2,Ext H1 H2->BX W H2->rA B H1 H2 a b->Di W EX rep B H σ (G a) Q->K b H2):Di W NX rA B H1 σ2 r K:=by
 cases r with
 |stuck=>exact h
 |err x p=>exact h.elim
 |ok a=>exact λb H2 e t r=>k a b H2 e t r h
theorem WY{k:Sq}{g:Tg}{fr:List (Option Nat)}{F:Env->Res C}{cond:Env->Res Bool}{elt:Env->Res C}{Q:VK}(hi:∀i∈g.slots,i < fr.length)
 (h:tG W EX (rV W) (λρ=>(F ρ).bind λc=>(Res.of (k c)).bind λxs=>if xs.length<=big then(Bj g cond elt (AE fr ρ) xs).bind λys=>.ok (.lst true ys)else .stuck) σ H Q):
 IP (wI W k (tG W EX (rV W) F)) (gT W g) (tG W NX rB cond) (tG W NX (rV W) elt) fr σ H Q:=by
 obtain⟨ρ,B,R,hA⟩:=h;refine⟨ρ,B,R,hA.step AB λc v H1 _ e1 t1 r1 h1=>?_⟩;obtain⟨xs,ek,h1⟩:=h1.C2;split at h1
 case isFalse=>exact h1.elim
 rename_i hbig;refine⟨c,xs,r1.rd,ek,λJ hJ=>?_⟩;have R1:=(R.ext e1 t1).block fr;have hl:(En fr σ).length=fr.length:=lM ..
 refine⟨λi acc m σ' H'=>m=xs.length - i/\i<=xs.length/\AD g.slots (En fr σ) σ'/\Ext H1 H'/\BX W H'/\∃ys,CU W H' ys acc/\acc.length<=i/\Di W EX (rV W) B H1 σ ((Bj g cond elt (AE fr ρ) (xs.drop i)).bind λzs=>.ok (.lst true (ys++zs))) Q,
  ⟨xs.length,rfl,Nat.zero_le _,AD.refl _ _,Ext.refl _,t1,[],.nil,lR,h1⟩,?_⟩
 rintro i acc m σ' H' ⟨rfl,hix,hU,eH,tH,ys,ry,hla,hA'⟩
 have hgH:Ef W H' c v:=r1.rd.ext eH (λ_ z=>z) λ_ z=>z
 by_cases hlt:i < xs.length
 .rw[List.drop_eq_getElem_cons hlt]at hA';have hbl:=BH;refine .inr ⟨hJ.go i H' hgH hlt,by lia,λx H2 hy=>?_⟩;obtain⟨s2,p,ep,rp⟩:=hJ.P8 i H' x H2 hgH hlt hy;have ep:xs[i]=p:=by rw[List.getElem?_eq_getElem hlt]at ep;exact Option.some.inj ep
  rw[ep]at hA';replace hA':Di W EX (rV W) B H1 σ (((Res.of (IX g p (AE fr ρ))).bind λβ1=>(cond β1).ne.bind λb=>if b then(elt β1).ne.bind λc=>(Res.of c.GZ).bind λy=>(Bj g cond elt (AE fr ρ) (xs.drop (i+1))).bind λys=>.ok (y::ys)else Bj g cond elt (AE fr ρ) (xs.drop (i+1))).bind λzs=>.ok (.lst true (ys++zs))) Q:=hA';rw[bind_assoc]at hA';obtain⟨β1,eβ,hA'⟩:=hA'.C2;rw[bind_assoc]at hA';have e2:=eH.trans (.of s2);have t2:=tH.same s2;refine YS eβ rp (R1.ext e2 t2) hU (λj hj=>by rw[hl];exact hi j hj) λσ3 R3 u3=>⟨β1,B,R3,hA'.Wl λb b' H3 e3 t3 rb h3=>?_⟩
  cases rb;have e13:=e2.trans e3;cases b with
  |true=>
    rw[iP rfl]at h3 ⊢;rw[bind_assoc]at h3;refine⟨β1,B,R3.ext e3 t3,h3.Wl λd u H4 e4 t4 r4 h4=>?_⟩;rw[bind_assoc]at h4;obtain⟨y,ey,h5⟩:=h4.C2;clear h4;cases C.Cs ey;rw[bind_assoc]at h5;refine⟨xs.length-(i+1),by lia,rfl,hlt,u3,e13.trans e4,t4,ys++[y],Pd.append (ry.mono ((((Ext.of s2).trans e3).trans e4)).keep) (.cons r4 .nil),by rw[lA,lS];lia,?_⟩;simp only[append_assoc,List.singleton_append];exact h5
  |false=>
    rw[iN Bool.false_ne_true]at h3 ⊢;exact⟨xs.length-(i+1),by lia,rfl,hlt,u3,e13,t3,ys,ry.mono (((Ext.of s2).trans e3)).keep,by lia,h3⟩
 .have e:i=xs.length:=by lia
  subst e;rw[List.drop_length]at hA';refine .inl ⟨hJ.stop H' hgH,λp hp=>?_⟩;replace hA':Di W EX (rV W) B H1 σ (.ok (.lst true (ys++[]))) Q:=hA';rw[append_nil]at hA';exact hA' _ _ (eH.trans (.of (AF hp))) (tH.same (AF hp)) ⟨p,acc,rfl,⟨Ag,eH.none hp⟩,ry.mono (AS.of (AF hp))⟩
end Nv
namespace Xc
open PySem PySem.Spec
abbrev Ex(C t:Addr)(d:Option Addr):Obj:={cls:=.ref C,dict:=d,data:=.fields #[.ref t,.none,.none,.none,.bool false,.none]}
abbrev IK(rest:List Value):Obj:={cls:=.type "tuple",data:=.seq rest.toArray}
section
variable{prog:Program}{w:World}{A:Around}{h:Heap}{g:Array GenState}{d:Drawn}{t:Nat}{os:OsState}
variable{nm q:Str}{C N:Addr}{bs bm:List Value}{hdct:Bool}{sn:List Str}{sub:List Value}{ab:Bool}{col:Option Bool}{dd:Option Addr}{k0 k1 k2 k3 k5:Option Value}
structure Fh(h:Heap)(C:Addr)(bm:List Value):Prop where
 at_:∃nm q N bs hdct sn sub ab col dd k0 k1 k2 k3 k5,h.get? C=some (excClassObj nm q C N bs bm hdct sn sub ab col dd k0 k1 k2 k3 k5 "ValueError.__new__")
 val:bm.contains (.type "ValueError")=true
 base:bm.contains (.type "BaseException")=true
 dG:bm.contains (.type "AttributeError")=false
 lx:bm.contains (.type "NameError")=false
theorem Fh.keeps{h h':Heap}{C:Addr}{bm:List Value}(c:Fh h C bm)(k:∀b o,h.get? b=some o->h'.get? b=some o):Fh h' C bm:=by
 obtain⟨⟨nm,q,N,bs,hdct,sn,sub,ab,col,dd,k0,k1,k2,k3,k5,e⟩,h1,h2,h3,h4⟩:=c;exact⟨⟨nm,q,N,bs,hdct,sn,sub,ab,col,dd,k0,k1,k2,k3,k5,k _ _ e⟩,h1,h2,h3,h4⟩
theorem Ou{M:Model}{E:Va}{rest:List Value}{Q:Unit->Shared->Prop}(c:Fh h C bm)(hq:Q () ⟨h,g,d,t,os⟩):wpAny M A (checkBuiltinCall "ValueError.__new__" ⟨.ref C::rest,[]⟩) Q E ⟨h,g,d,t,os⟩:=by
 obtain⟨⟨nm,q,N,bs,hdct,sn,sub,ab,col,dd,k0,k1,k2,k3,k5,hC⟩,h1,-,-,-⟩:=c;have F:=PySem.F.excBase_ValueError;have hv:(Value.ref C::bm).contains (.type "ValueError")=true:=by rw[contains_cons,h1,Bool.or_true]
 have hs:=F.noStar;simp only[checkBuiltinCall,F.newKind,F.newSplit,F.newRow]
 repeat (first
  |simp only[bne_self_eq_false,Bool.false_eq_true,if_false]
  |refine wpAny_madeBy_exc hC ?_
  |refine wpAny_staticBase_exc hC ?_
  |refine wpAny_loadPart_at hC ?_
  |(refine wpAny_isSubtype_exc hC ?_;rw[hv])
  |wp_step)
 exact hq
theorem Uy{R:Result->Shared->Prop}{rest:List Value}(c:Fh h C bm)(hr:rest.length<=sizeLine)(hq:R (.ok (.ret (.ref (h.objs.size + 1)))) ⟨(h.push (IK rest)).push (Ex C h.objs.size none),g,d,t,os⟩):
 codeAny (model prog w) A (.builtin "ValueError.__new__" ⟨.ref C::rest,[]⟩) R ⟨h,g,d,t,os⟩:=by
 obtain⟨⟨nm,q,N,bs,hdct,sn,sub,ab,col,dd,k0,k1,k2,k3,k5,hC⟩,h1,-,h3,h4⟩:=c;have F:=PySem.F.excBase_ValueError;have he:=F.ends;have hv:(Value.ref C::bm).contains (.type "ValueError")=true:=by rw[contains_cons,h1,Bool.or_true]
 have ha:(Value.ref C::bm).contains (.type "AttributeError")=false:=by rw[contains_cons,h3];rfl
 have hn:(Value.ref C::bm).contains (.type "NameError")=false:=by rw[contains_cons,h4];rfl
 refine codeAny_builtinAt F.entry ?_;unfold Builtin.«BaseException.__new__»;refine wpAt_bind ?_;show wpAt _ _ _ (stack >>= _) _ _ _;refine wpAt_bind (wpAt_stack λp below=>wpAt_of_wpAny ?_)
 wp_walk
 refine wpAt_of_wpAny ?_;rw[F.owner]
 repeat (first
  |with_reducible refine wpAny_loadPart_at hC ?_
  |with_reducible refine wpAny_madeHere_exc F.canon hC ?_
  |(with_reducible refine wpAny_isSubtype_exc hC ?_;first|rw[hv]|rw[ha]|rw[hn])
  |wp_step)
 show R _ _;rw[Heap.size_push];exact hq
end
section
variable{prog:Program}{w:World}{A:Around}{h:Heap}{g:Array GenState}{d:Drawn}{t:Nat}{os:OsState}{C f:Addr}{bm:List Value}{K:Frag}
theorem RB{R:Result->Shared->Prop}{rest:List Value}(X:K.In h)(c:Fh h C bm)(hi:findIn K (.ref C) "__init__"=some (some (.ref f)))(hf:typeIn K (.ref f)=some (.type "function"))(hr:rest.length<=sizeLine)
 (hq:codeAny (model prog w) (A.under (.builtin "type.__call__" ⟨.ref C::rest,[]⟩)) (.call (.ref f) ⟨.ref (h.objs.size+1)::rest,[]⟩) (PySem.W.InitBack (h.objs.size+1) R) ⟨(h.push (IK rest)).push (Ex C h.objs.size none),g,d,t,os⟩):
 codeAny (model prog w) A (.call (.ref C) ⟨rest,[]⟩) R ⟨h,g,d,t,os⟩:=by
 obtain⟨nm,q,N,bs,hdct,sn,sub,ab,col,dd,k0,k1,k2,k3,k5,hC⟩:=c.at_;have F:=PySem.F.excBase_ValueError;have f1:=tc_lookup;have f2:=tc_bind (.ref C);have hT:(⟨h,g,d,t,os⟩:Shared).TypeIs (.ref C) "type":=⟨_,hC,rfl⟩;refine codeAny_of_tree ?_;show wpAny _ _ (callAny (.ref C) _) _ _ _
 repeat (any_goals (first|assumption|with_reducible refine wpAny_loadPart_at hC ?_|wp_step))
 refine⟨rfl,?_⟩;refine codeAny_call_builtin_at (Code.quiet_builtin _ (by decide +kernel)) entry_typeCall (wpAny_check_type_call_sub hC ?_)
 repeat (first|with_reducible refine wpAny_loadPart_at hC ?_|with_reducible refine wpAny_madeBy_exc hC ?_|wp_step)
 refine codeAny_call_builtin_code (Code.quiet_builtin _ F.quiet) (Ou c ?_);refine Uy c hr ?_;show wpAny _ _ _ _ _ _;have k:∀b o,h.get? b=some o->((h.push (IK rest)).push (Ex C h.objs.size none)).get? b=some o:=λb o e=>gP (gP e)
 have hg:((h.push (IK rest)).push (Ex C h.objs.size none)).get? (h.objs.size+1)=some (Ex C h.objs.size none):=by heap_get
 have hC1:=k _ _ hC;have hcC:(Value.ref C::bm).contains (.ref C)=true:=by simp
 have i1:=(looks_findIn (M:=model prog w) X hi).keeps k;have b1:=(PySem.W.bind_fn (M:=model prog w) X (.ref (h.objs.size+1)) hf).keeps k;unfold isInstance
 repeat (first|with_reducible refine wpAny_loadPart_at hg ?_|(with_reducible refine wpAny_isSubtype_exc hC1 ?_;rw[hcC])|wp_step)
 show wpAny _ _ (isSubtype (.ref C) (.ref C)) _ _ ⟨(h.push (IK rest)).push (Ex C h.objs.size none),g,d,t,os⟩;refine wpAny_isSubtype_exc hC1 ?_;rw[hcC];simp only[Bool.not_true,Bool.false_eq_true,if_false];have t1:Looks (model prog w) ((h.push (IK rest)).push (Ex C h.objs.size none)) (typeOf (.ref (h.objs.size+1))) (.ref C):=(Looks.ld hg).andThen .now;unfold callSpecial? specialOf
 repeat (first|with_reducible refine wpAny_call ?_|lk)
 refine codeAny_mono hq λr s' z=>?_
 rcases r with e|(v|_|_|_)<;>first|exact z|exact z.elim|skip
 obtain⟨rfl,z⟩:=z;exact wP (wP z)
end
end Xc
namespace Xc
open PySem PySem.Spec PySem.Builtin PySem.Builtin.ObjectAttr
def Qw:List Value->Bool
 |.ref _::r=>Qw r
 |r=>r == [.type "ValueError",.type "Exception",.type "BaseException",.type "object"]
theorem Ke(self:Value):∀{l:List Value},Qw l=true->refuseLoop self "__setattr__" l=pure ():=by
 intro l
 induction l with
 |nil=>intro e;cases e
 |cons v l ih=>
   intro e;cases v with
   |ref c=>rw[refuseLoop_ref];exact ih e
   |_=>
     have:=beq_iff_eq.mp (show(_ == _)=true from e);rw[this];exact PySem.F.store_ValueError.passes self
theorem Qv:∀{l:List Value},Qw l=true->l.contains (.type "object")=true:=by
 intro l
 induction l with
 |nil=>intro e;cases e
 |cons v l ih=>
   intro e;cases v with
   |ref c=>rw[contains_cons,ih e,Bool.or_true]
   |_=>
     have:=beq_iff_eq.mp (show(_ == _)=true from e);rw[this];decide +kernel
def Kf(K:Frag)(C:Addr):Bool:=(clsIn K C).any λcd=>Qw cd.mro
section
variable{prog:Program}{w:World}{A:Around}{E:Va}{s:Shared}{x C:Addr}{K:Frag}{name:Str}{v:Value}
theorem TJ{Q:Unit->Shared->Prop}{vs:Array Value}(X:K.In s.heap)(hx:s.heap.get? x=some ⟨.ref C,none,.fields vs,#[]⟩)
 (hs:findIn K (.ref C) "__setattr__"=some (some (.builtin "object.__setattr__")))(hp:Kf K C=true)(ht:takerIn K C name=some none)(hh:hasDictIn K C=true)
 (h:∀h' tk,h'.get? x=some ⟨.ref C,some s.heap.objs.size,.fields vs,#[]⟩->h'.Ns1 s.heap.objs.size (λz=>if z=name then some v else none)->(∀b o,b≠x->s.heap.get? b=some o->h'.get? b=some o)->Q () {s with heap:=h',toks:=tk}):
 wpAny (model prog w) A (setAttr (.ref x) name v) Q E s:=by
 have I:InstAt s.heap x ⟨.ref C,none,.fields vs,#[]⟩ C none:=⟨hx,rfl,rfl,trivial⟩;refine PySem.W.set_plain X I hs ?_;have SF:=PySem.F.store_object;obtain⟨cd,hc,ho⟩:=PySem.W.any_some hp;obtain⟨cd',hc',hd⟩:=PySem.W.any_some hh;obtain rfl:cd=cd':=Option.some.inj (hc.symm.trans hc');have ne:cd.mro.isEmpty=false:=by cases q:cd.mro with|nil=>rw[q]at ho;cases ho|cons _ _=>rfl
 have sub:Looks (model prog w) s.heap (isInstance (.ref x) (.type "object")) true:=I.type.andThen (looks_mroIn X (by unfold mroIn;rw[hc,Option.bind_some,iN (by rw[ne];decide),Qv ho]));refine codeAny_call_builtin SF.slot.plain SF.entry (@check_slot (model prog w) _ _ _ "object.__setattr__" "object" "__setattr__" (.ref x) [.str name s.toks,v] [] _ SF.kind SF.split sub (SF.args (.ref x) (.str name s.toks) v) ?_);obtain⟨attr,ha,hr⟩:=Option.bind_eq_some_iff.mp ht;have hm:Looks (model prog w) s.heap (mroOf (.ref C)) cd.mro:=(looks_clsIn X hc).andThen .now
 have L3:Looks (model prog w) s.heap (storeTaker? attr) none:=by
  cases attr with
  |none=>exact .now
  |some a=>
    obtain⟨b,hb,e⟩:=oM hr;refine(PySem.W.looks_takesIn X hb).andThen ?_;cases b
    .exact .now
    .cases e
 rw[osa_eq,refuse_eq];have kk:∀b o,s.heap.get? b=some o->s.heap.get? b=some o:=λ_ _ e=>e
 refine wB (wB (I.type _ _ _ _ kk (wB (hm _ _ _ _ kk ?_))));rw[Ke _ ho];refine wP (wB (I.type _ _ _ _ kk (wB (looks_findIn X ha _ _ _ _ kk (wB (L3 _ _ _ _ kk ?_))))));show wpAny _ _ (storeInOwnDict (.ref x) (.ref C) (.str name s.toks) name v _) _ _ _;refine wB (wP (wB (wB (wpAny_loadPart hx (wB (looks_clsIn X hc _ _ _ _ kk ?_))))));rw[hd];show wpAny _ _ (alloc _ >>= λd=>_) _ _ _;have hx1:(s.heap.push {cls:=.type "dict",data:=.dict #[]}).get? x=some ⟨.ref C,none,.fields vs,#[]⟩:=gP hx;have hxs:x≠s.heap.objs.size:=Nat.ne_of_lt (Heap.lt_size hx);refine wB (wpAny_alloc' (wB (wpAny_update' hx1 ?_)));refine wP ?_;show wpAny _ _ (storeInDict s.heap.objs.size (.str name s.toks) name v) _ _ _
 have hgd:((s.heap.push {cls:=.type "dict",data:=.dict #[]}).update x λo=>{cls:=o.cls,dict:=some s.heap.objs.size,data:=o.data,slots:=o.slots}).get? s.heap.objs.size=some {cls:=.type "dict",data:=.dict #[]}:=
  (Heap.get?_update_ne _ _ _ _ hxs.symm).trans (Heap.get?_push_at rfl rfl)
 have hnd:((s.heap.push {cls:=.type "dict",data:=.dict #[]}).update x λo=>{cls:=o.cls,dict:=some s.heap.objs.size,data:=o.data,slots:=o.slots}).Ns s.heap.objs.size (λ_=>none):=
  ⟨_,#[],_,hgd,rfl,λe he=>absurd he (by simp),λ_=>rfl⟩
 unfold storeInDict newKeyGuard;refine wB (wP (wB (wpAny_nsSet1 (s:=⟨_,s.gens,s.drawn,s.toks+1,s.os⟩) (Heap.Ns1.of_empty hnd) λh' hn' hs'=>?_)));obtain⟨oD,esD,epD,hoD,hdD,hcD⟩:=hn'.count (Within.cons name v Within.nil);refine wB (wpAny_lookBehind hoD (by rw[hdD];exact pastItsLine_dict (Nat.le_trans hcD (by rw[lC,List.length_nil,sizeLine_eq];omega))) ?_)
 wp_walk
 refine h h' _ ((hs'.2 x hxs).trans (Heap.get?_update_self _ hx1 rfl)) hn' λb o hb e=>?_
 exact(hs'.2 b (Nat.ne_of_lt (Heap.lt_size e))).trans ((Heap.get?_update_ne _ _ _ _ hb).trans (gP e))
end
end Xc
namespace Xc
open PySem PySem.Spec L2
section
variable{P:Program}{w:World}{A:Around}{s:Shared}{e C f:Addr}{K:Frag}{x qual:Str}{st:Stmt}{fd:FuncData}{p1 p2 p3 p4:Pos}{sf pl:Str}{u:Value}
theorem Ri{R:Result->Shared->Prop}{vs:Array Value}(F:SJ K x qual st f fd)(S:Dv [sf,pl] [sf,pl] (Aj st))(hb:Binds K fd [sf,pl] [])
 (h1:(Aj st).names.lookup sf=some .local)(h2:(Aj st).names.lookup pl=some .local)
 (hbody:CB st=[.Assign [.Attribute (.Name sf p1) pl p2] (.Name pl p3) p4])(hne:sf≠pl)(d1:ng sf)(d2:ng pl)(hr:Cm 2 A)(X:K.In s.heap)(lim:s.heap.NoLimit)
 (he:s.heap.get? e=some ⟨.ref C,none,.fields vs,#[]⟩)(hs:findIn K (.ref C) "__setattr__"=some (some (.builtin "object.__setattr__")))(hp:Kf K C=true)(ht:takerIn K C pl=some none)(hh:hasDictIn K C=true)
 (h:∀h' tk d,h'.get? e=some ⟨.ref C,some d,.fields vs,#[]⟩->h'.Ns1 d (λz=>if z=pl then some u else none)->s.heap.objs.size<=d->(∀b o,b≠e->s.heap.get? b=some o->h'.get? b=some o)->R (.ok (.ret .none)) {s with heap:=h',toks:=tk}):
 codeAny (model P w) A (.call (.ref f) ⟨[.ref e,u],[]⟩) R s:=by
 obtain⟨oc,od,kV,doc,pm,an,cdv,ct,osl,rfl,lk,hcd⟩:=F.ex
 have hkind:∀y∈[sf,pl].zip [Value.ref e,u],(Aj st).names.lookup y.1=some .local\/((Aj st).names.lookup y.1=some .cell/\((cellsFrom (s.heap.objs.size + 1) (Aj st).names []).lookup y.1).isSome=true):=λ⟨n,v⟩ hy=>by
  rcases S.par n (of_mem_zip hy).1 with q|q
  .exact .inl q
  .exact .inr ⟨q,cellsFrom_some _ _ _ (.inl q)⟩
 refine codeAny_call_function hr.depth (X _ _ lk) rfl S.co S.gen rfl (codeRec_of X hcd) (hb s [.ref e,u] X rfl _ _ _ _ ?_);refine wpAny_newFunctionEnv_cells S.kind hkind λenv hen s1 x=>?_
 subst hen;refine⟨lim.keeps x.toInCall.keep,codeAny_func ?_⟩;show wpAny (model P w) (A.deeper (PyProof.Rows.envOfC qual (Aj st) s.heap.objs.size f cdv)) (execs (CB st) (PyProof.Rows.envOfC qual (Aj st) s.heap.objs.size f cdv)) _ _ s1;have hk:=x.toInCall.keep;have hns:=x.toInCall.ns;obtain⟨h1',tk,rfl,hkp⟩:=x.done;have m1:=Ee (kindOf:=(PyProof.Rows.envOfC qual (Aj st) s.heap.objs.size f cdv).kindOf) (m:=λ_=>none) (vs:=[Value.ref e,u]) S.nd (i:=0) (x:=sf) rfl rfl h1;have m2:=Ee (kindOf:=(PyProof.Rows.envOfC qual (Aj st) s.heap.objs.size f cdv).kindOf) (m:=λ_=>none) (vs:=[Value.ref e,u]) S.nd (i:=1) (x:=pl) rfl rfl h2;rw[hbody];refine wpAny_execs_cons (plainObj_wpAny_Assign_Attribute ?_);refine wpAny_Name (wpAny_loadName_local S.kind h2 hns m2 ?_) d2;refine wpAny_Name (wpAny_loadName_local S.kind h1 hns m1 ?_) d1;refine TJ (λb o q=>hk b o (X b o q)) (hk _ _ he) hs hp ht hh λh' tk' q1 q3 q2=>?_
 exact wpAny_execs_nil (h h' tk' _ q1 q3 (Nat.le_of_lt (show s.heap.objs.size < _ from hns.lt)) λb o hb q=>q2 b o hb (hk b o q))
end
theorem LH{M:Model}{A:Around}{E:Va}{env:Env}{s:Shared}{x:Sem Value}{Q:Flow->Shared->Prop}{C:Addr}{bm:List Value}(hh:A.handled=none)
 (h:wpAny M A x (λv s1=>∃e d t,v= .ref e/\Fh s1.heap C bm/\s1.heap.get? e=some (Ex C t d)/\E (.ref e) s1) E s):wpAny M A (raiseStmt env (some x) none) Q E s:=by
 unfold raiseStmt;refine wB (thn h λv s1 ⟨e,d,t,hv,c,he,hE⟩=>?_);subst hv;obtain⟨nm,q,N,bs,hdct,sn,sub,ab,col,dd,k0,k1,k2,k3,k5,hC⟩:=c.at_;have hcB:(Value.ref C::bm).contains (.type "BaseException")=true:=by rw[contains_cons,c.base,Bool.or_true]
 obtain⟨hp,g,dr,tk,os⟩:=s1
 repeat (first|with_reducible refine wpAny_loadPart_at he ?_|with_reducible refine wpAny_loadPart_at hC ?_|(with_reducible refine wpAny_isSubtype_exc hC ?_;rw[hcB])|wp_step)
 exact wpAny_raiseNew_none hh hE
structure Xk(K:Frag)(C f:Addr)(sf:Str)(st:Stmt)(fd:FuncData):Prop where
 cls:∃bm,∀h:Heap,K.In h->Fh h C bm
 kp:keepIn K (.ref C)=true
 jV:findIn K (.ref C) "__init__"=some (some (.ref f))
 fn:isFn K (.ref f)=true
 sa:findIn K (.ref C) "__setattr__"=some (some (.builtin "object.__setattr__"))
 ov:Kf K C=true
 tk:takerIn K C "place"=some none
 hd:hasDictIn K C=true
 fu:∃x qual,SJ K x qual st f fd
 sc:Dv [sf,"place"] [sf,"place"] (Aj st)
 bi:Binds K fd [sf,"place"] []
 l1:(Aj st).names.lookup sf=some .local
 l2:(Aj st).names.lookup ("place":Str)=some .local
 bd:∃p1 p2 p3 p4,CB st=[.Assign [.Attribute (.Name sf p1) "place" p2] (.Name "place" p3) p4]
 ne:sf≠"place"
 d1:ng sf
 d2:(("place":Str) == ("__debug__":Str))=false
theorem Oi{X:Cx}{C:Addr}{sf:Str}{st:Stmt}{fd:FuncData}{cp pos:Pos}{ta:TE}{pins:Oa}{s:Shared}{σ:St}{H:Hp}{Q:Flow->Shared->Prop}{R:VK}
 (k:Xk X.K C f sf st fd)(hr:Cm 4 X.A)(hg:Gl X x)(hm:X.mg x=some (.ref C))(hdb:ng x)(I:Inv X pins σ H s)(ha:PE X a ta)(hs:starEach [a] X.env=[(false,eval a X.env)])(h0:ta σ H R)
 (h:∀s1 s' e t d u v H1,Inv X pins σ H1 s1->R v H1->RelV v u->s'.os=s1.os->s'.gens=s1.gens->(∀b o,s1.heap.get? b=some o->s'.heap.get? b=some o)->s1.heap.get? e=none->s'.heap.get? e=some (Ex C t (some d))->s'.heap.Ns1 d (λz=>if z="place" then some u else none)->s1.heap.get? d=none->d≠e->X.xe (.ref e) s'):
 (X|||(exec (.Raise (some (.Call (.Name x p) [a] [] cp)) none pos) X.env)) Q X.xe s:=by
 rw[arm_exec_Raise];obtain⟨bm,hc⟩:=k.cls;refine wB (wpAny_standAt (LH (C:=C) (bm:=bm) hr.hd ?_));refine wB (thn (Q:=λv s1=>∃e d t,v= .ref e/\Fh s1.heap C bm/\s1.heap.get? e=some (Ex C t d)/\X.xe (.ref e) s1) ?_ λv s1 h1=>wB (wpAny_standAt (wP h1)));refine wpAny_Call_Name_kw (ES I hg hm ?_ hdb);refine PySem.W.callWith_K (h₀:=X.base) I.ok.mod.Dn k.kp (thn ((AU (X:=X) ha BR hs) cp pins s σ H (λvs H1=>match vs with|[v]=>R v H1|_=>False) I h0) λus s1 ⟨vs,H1,I1,r,e2⟩=>⟨I1.FF,?_⟩) hs rfl
 obtain⟨v,rfl⟩:∃v,vs=[v]:=by
  cases vs with
  |nil=>exact e2.elim
  | cons v l=>cases l with
    |nil=>exact⟨v,rfl⟩
    |cons _ _=>exact e2.elim
 obtain⟨u,rfl,ru⟩:=vals1 r;obtain⟨x',qual,F⟩:=k.fu;obtain⟨p1,p2,p3,p4,hb⟩:=k.bd;have hf:=beq_iff_eq.mp k.fn;have I0:=I1;obtain⟨hp,g,dr,tk,os⟩:=s1;refine wpAny_call (RB I1.FF (hc _ I1.FF) k.jV hf (show(1:Nat)<=sizeLine by decide) ?_);have kk:∀b o,hp.get? b=some o->((hp.push (IK [u])).push (Ex C hp.objs.size none)).get? b=some o:=λb o e=>gP (gP e)
 refine Ri (u:=u) (s:=⟨(hp.push (IK [u])).push (Ex C hp.objs.size none),g,dr,tk,os⟩) F k.sc k.bi k.l1 k.l2 hb k.ne k.d1 k.d2 ((hr.mono (by decide:3<=4)).make C [u] []) (λb o q=>kk b o (I1.FF b o q)) (I1.nolimit.keeps kk) (by heap_get) k.sa k.ov k.tk k.hd λh' tk' d q1 q3 q4 q2=>?_
 have q5:hp.objs.size + 1 + 1<=d:=by
  have z:((hp.push (IK [u])).push (Ex C hp.objs.size none)).objs.size<=d:=q4;rwa[Heap.size_push,Heap.size_push]at z
 have kp:∀b o,hp.get? b=some o->h'.get? b=some o:=λb o q=>q2 b o (Nat.ne_of_lt (Nat.lt_succ_of_lt (Heap.lt_size q))) (kk b o q)
 exact⟨rfl,_,some d,hp.objs.size,rfl,(hc hp I1.FF).keeps kp,q1,h ⟨hp,g,dr,tk,os⟩ _ _ _ _ u v _ I0 e2 ru rfl rfl kp (Heap.get?_none_of_le (Nat.le_succ _)) q1 q3 (Heap.get?_none_of_le (by lia)) (by lia)⟩
end Xc
namespace Xc
open PySem PySem.Spec
def ja(h base:Heap)(e:Addr)(cls:Value)(d:Option Addr)(fl:Value):Prop:=
 ∃oe vs T oT ts,h.get? e=some oe/\(oe.cls=cls/\oe.dict=d)/\oe.data= .fields vs/\vs[1]? =some (.ref T)/\base.get? T=none/\T≠e/\h.get? T=some oT/\oT.data= .fields ts/\ts[3]? =some fl
def P9(base:Heap)(l:List Env)(e:Addr)(cls:Value)(d:Option Addr)(fl:Value)(h':Heap):Prop:=base.StaysIn h'/\h'.FunFrames base l/\ja h' base e cls d fl
abbrev eQ(head L fl:Value)(pl:List Value):Obj:={cls:=.type "traceback",data:=.fields ([head,L,Value.none,fl,Value.none]++if pl.isEmpty=true then List.replicate 6 Value.none else pl).toArray}
section
variable{M:Model}{A:Around}{E:Va}{s:Shared}{base:Heap}{env:Env}{outer:List Env}{L e:Addr}{cls head fl:Value}{d:Option Addr}{Q:Unit->Shared->Prop}
variable{oe:Obj}{vs:Array Value}
theorem Ki{b:Bool}(fr:A.frames=some (env::outer))(ff:s.heap.FunFrames base (env::outer))(hf:env.frame=some L)(he:s.heap.get? e=some oe)(st:base.StaysIn s.heap)(hb:base.get? e=none)(hd:oe.data= .fields vs)(hz:1 < vs.size)(hc:oe.cls=cls/\oe.dict=d)
 (k:∀h',P9 base (env::outer) e cls d (rawInt ↑L) h'->s.heap.UpToSlots h'->Q () {s with heap:=h'}):
 wpAny M A (do let a <-frameOf env;let pl <-entryPlaceOf L b;let b <-EntryCells.newEntry head a Value.none (rawInt ↑L) Value.none pl;setField (.ref e) 1 b) Q E s:=by
 refine wB (wpAny_frameOf_fun fr ff hf λh1 so=>wB (wpAny_entryPlaceOf λpl ip=>?_));obtain⟨hp,g,dr,tk,os⟩:=s;obtain⟨o1,o2,o3⟩:=so;obtain⟨sl,he1⟩:=o3 e oe he
 have hlen:(([head,.ref L,Value.none,rawInt ↑L,Value.none]++if pl.isEmpty=true then List.replicate 6 Value.none else pl).toArray).size<=11:=by
  rcases ip with rfl|⟨_,_,_,_,_,_,_,rfl⟩<;>simp
 unfold EntryCells.newEntry newFields newObj;dsimp only;have h11:(11:Nat)<=sizeLine+2:=by decide
 rw[iN (by lia)];unfold newObjAsIs;refine wB (wB (wpAny_alloc' (wP ?_)));have he2:(h1.push (eQ head (.ref L) (rawInt ↑L) pl)).get? e=some {cls:=oe.cls,dict:=oe.dict,data:=oe.data,slots:=sl}:=gP he1;refine wpAny_setField he2 hd hz ?_;have CW:∀c o,c≠e->h1.get? c=some o->((h1.push (eQ head (.ref L) (rawInt ↑L) pl)).update e (Obj.mapFields λx=>x.setIfInBounds 1 (.ref h1.objs.size))).get? c=some o:=λc o hne q=>(Heap.get?_update_ne _ _ _ _ hne).trans (gP q)
 have up:hp.UpToSlots ((h1.push (eQ head (.ref L) (rawInt ↑L) pl)).update e (Obj.mapFields λx=>x.setIfInBounds 1 (.ref h1.objs.size))):=λc o q hn=>by
  obtain⟨sl',q'⟩:=o3 c o q;exact⟨sl',CW c _ (λz=>by subst z;rw[he]at q;cases q;exact hn _ hd) q'⟩
 have en:h1.objs.size≠e:=(Nat.ne_of_lt (Heap.lt_size he1)).symm;refine k _ ⟨λc o q=>CW c o (λz=>by subst z;rw[hb]at q;cases q) (by rw[o2 c (λhm=>by rw[(ff.mem hm).1]at q;cases q)];exact st c o q),ff.of_keeps λc o q hn=>?_,?_⟩ up
 .obtain⟨sl',q'⟩:=up c o q hn;exact⟨_,q',rfl⟩
 .refine⟨_,_,h1.objs.size,_,_,Heap.get?_update_self _ he2 (by unfold Obj.mapFields;rw[hd];rfl),?_,by unfold Obj.mapFields;rw[hd],?_,?_,en,(Heap.get?_update_ne _ _ _ _ en).trans (Heap.get?_push_size _ rfl),rfl,?_⟩
  .unfold Obj.mapFields;rw[hd];exact hc
  .rw[Array.getElem?_setIfInBounds_self,iP hz]
  .cases q:base.get? h1.objs.size with
   |none=>rfl
   |some o=>
     have:=Heap.lt_size (st _ o q);rw[<-o1]at this;exact absurd this (Nat.lt_irrefl _)
  .rfl
theorem Gx(st:base.StaysIn s.heap)(ff:s.heap.FunFrames base outer)(hb:base.get? e=none)(t:ja s.heap base e cls d fl)(k:∀h',P9 base outer e cls d Value.none h'->s.heap.UpToSlots h'->Q () {s with heap:=h'}):wpAny M A (setFlight (.ref e) none) Q E s:=by
 obtain⟨oe,vs,T,⟨cT,dT,aT,sT⟩,ts,h1,h2,h3,h4,h5,h6,h7,h8,h9⟩:=t;cases (show aT=_ from h8);have hsz:=(Array.getElem?_eq_some_iff.mp h9).1;refine wpAny_setFlight_none h1 h3 h4 h7 h8 hsz ?_;have CW:∀c o,c≠T->s.heap.get? c=some o->(s.heap.update T (Obj.mapFields λx=>x.setIfInBounds 3 Value.none)).get? c=some o:=λc o hne q=>(Heap.get?_update_ne _ _ _ _ hne).trans q
 have up:s.heap.UpToSlots (s.heap.update T (Obj.mapFields λx=>x.setIfInBounds 3 Value.none)):=λc o q hn=>⟨o.slots,CW c o (λz=>by subst z;rw[h7]at q;cases q;exact hn _ h8) q⟩
 refine k _ ⟨λc o q=>CW c o (λz=>by subst z;rw[h5]at q;cases q) (st c o q),ff.of_keeps λc o q hn=>?_,oe,vs,T,_,_,CW e oe (Ne.symm h6) h1,h2,h3,h4,h5,h6,Heap.get?_update_self _ h7 rfl,rfl,by rw[Array.getElem?_setIfInBounds_self,iP hsz]⟩ up;obtain⟨sl',q'⟩:=up c o q hn;exact⟨_,q',rfl⟩
theorem Kj(fr:A.frames=some (env::outer))(hf:env.frame=some L)(hb:base.get? e=none)(t:P9 base (env::outer) e cls d Value.none s.heap)(k:∀h',P9 base (env::outer) e cls d (rawInt ↑L) h'->s.heap.UpToSlots h'->Q () {s with heap:=h'}):
 wpAny M A (noteFrame (.ref e) env) Q E s:=by
 obtain⟨st,ff,oe,vs,T,oT,ts,h1,h2,h3,h4,h5,h6,h7,h8,h9⟩:=t;have hsz:=(Array.getElem?_eq_some_iff.mp h9).1;unfold noteFrame;rw[hf];refine wB (wpAny_field h1 h3 h4 ?_);show wpAny _ _ (if _ then _ else _) _ _ _;rw[iP (by simp)];refine wB (wpAny_field h7 h8 h9 ?_);rw[iN (by intro z;cases beq_iff_eq.mp z)];refine wB (wpAny_setField h7 h8 hsz ?_);have CW:∀c o,c≠T->s.heap.get? c=some o->(s.heap.update T (Obj.mapFields λx=>x.setIfInBounds 3 Value.none)).get? c=some o:=λc o hne q=>(Heap.get?_update_ne _ _ _ _ hne).trans q
 have up:s.heap.UpToSlots (s.heap.update T (Obj.mapFields λx=>x.setIfInBounds 3 Value.none)):=λc o q hn=>⟨o.slots,CW c o (λz=>by subst z;rw[h7]at q;cases q;exact hn _ h8) q⟩
 exact Ki (s:={s with heap:=s.heap.update T (Obj.mapFields λx=>x.setIfInBounds 3 Value.none)}) fr (ff.of_keeps λc o q hn=>by obtain⟨sl',q'⟩:=up c o q hn;exact⟨_,q',rfl⟩) hf (CW e oe (Ne.symm h6) h1) (λc o q=>CW c o (λz=>by subst z;rw[h5]at q;cases q) (st c o q)) hb h3 (Array.getElem?_eq_some_iff.mp h4).1 h2 λh' f u=>k h' f (up.trans u)
theorem M1(fr:A.frames=some (env::outer))(hf:env.frame=some L)(hb:base.get? e=none)(t:P9 base (env::outer) e cls d Value.none s.heap)(k:∀h',P9 base (env::outer) e cls d Value.none h'->s.heap.UpToSlots h'->Q () {s with heap:=h'}):
 wpAny M A (leaving env (.ref e)) Q E s:=by
 unfold leaving;exact wB (Kj fr hf hb t λh' f u=>Gx f.1 f.2.1 hb f.2.2 λh2 f2 u2=>k h2 f2 (u.trans u2))
theorem Kt(fr:A.frames=some (env::outer))(ff:s.heap.FunFrames base (env::outer))(hf:env.frame=some L)(he:s.heap.get? e=some oe)(st:base.StaysIn s.heap)(hb:base.get? e=none)(hd:oe.data= .fields vs)(h1:vs[1]? =some Value.none)(hc:oe.cls=cls/\oe.dict=d)
 (k:∀h',P9 base (env::outer) e cls d Value.none h'->s.heap.UpToSlots h'->Q () {s with heap:=h'}):wpAny M A (leaving env (.ref e)) Q E s:=by
 unfold leaving noteFrame;rw[hf];refine wB (wB (wpAny_field he hd h1 ?_));show wpAny _ _ (if _ then _ else _) _ _ _;rw[iN (by decide)];exact Ki fr ff hf he st hb hd (Array.getElem?_eq_some_iff.mp h1).1 hc λh' f u=>Gx f.1 f.2.1 hb f.2.2 λh2 f2 u2=>k h2 f2 (u.trans u2)
end
end Xc
namespace Xc
open PySem PySem.Spec L2 PyProof.Rows
abbrev XE(u:Value):Str->Option Value:=λz=>if z="place" then some u else none
noncomputable def Gj(P:Program)(w:World):du:=λouter H s E e s'=>∃(ea C d:Addr) (B:Heap) (H':Hp) (u:Value) (v:V),e= .ref ea/\s'.os=s.os/\AllBare s'.gens/\Un (CA outer) [] H H' s.heap s'.heap/\DV P w H' s'.heap/\
 B.get? ea=none/\(B.Ns1 d (XE u)/\H' d=none/\RelV v u)/\P9 B outer ea (.ref C) (some d) Value.none s'.heap/\(∀b,b∉CA outer->((∃o,s.heap.get? b=some o)\/H' b≠none)->∃o,B.get? b=some o)/\E (.ref C) v H'
section
variable{X:Cx}{pins:Oa}{σ:L2.St}{H H':Hp}{s s':Shared}{B h':Heap}{e C d:Addr}{E:XK}
theorem cu{P:Program}{w:World}(ok:DV P w H' s'.heap)(hB:∀b o,s'.heap.get? b=some o->H' b≠none->h'.get? b=some o):DV P w H' h':=λa o q=>
 (ok a o q).CW (λb u hb r=>hB b u r (by rcases hb with rfl|hb<;>simp_all)) (λ_ r=>r) λ_ _ r=>r
theorem Rn{l:List Addr}{R:Addr->Prop}(k0:B.StaysIn s'.heap)(hB:∀b,b∉l->R b->∃o,B.get? b=some o){b:Addr}{o:Obj}(q:s'.heap.get? b=some o)(hb:b∉l)(r:R b):B.get? b=some o:=by
 obtain⟨o2,e2⟩:=hB b hb r;have:=k0 b o2 e2;rw[q]at this;rw[e2,this]
theorem MH(I:Inv X pins σ H s)(un:Un (CA X.stack) [] H H' s.heap s'.heap)(k0:B.StaysIn s'.heap)(hB:∀b,b∉CA X.stack->((∃o,s.heap.get? b=some o)\/H' b≠none)->∃o,B.get? b=some o)(k1:B.StaysIn h')(k4:s'.heap.UpToSlots h'):
 Un (CA X.stack) [] H H' s.heap h' where
 keep:=λb o q n hb hx=>k1 b o (Rn k0 hB (un.keep b o q n hb hx) hb (.inl ⟨o,q⟩))
 slot:=λb o q n hb hx=>by
  obtain⟨sl,e1⟩:=un.slot b o q n hb hx;obtain⟨_,o',q',hd⟩:=I.stack.mem hb;rw[q]at q';cases q';obtain⟨sl',e2⟩:=k4 b _ e1 hd;exact⟨sl',e2⟩
 free:=un.free
 there:=λb o q hx=>by
  by_cases hb:b∈CA X.stack
  .obtain⟨sl,e1⟩:=un.slot b o q (I.DY b hb) hb hx;obtain⟨_,o',q',hd⟩:=I.stack.mem hb;rw[q]at q';cases q';obtain⟨sl',e2⟩:=k4 b _ e1 hd;exact⟨_,e2⟩
  .obtain⟨o',e1⟩:=un.there b o q hx;exact⟨o',k1 b o' (Rn k0 hB e1 hb (.inl ⟨o,q⟩))⟩
 Fq:=un.Fq
 EW:=un.EW
 EA:=un.EA
theorem KC(I:Inv X pins σ H s)(un:Un (CA X.stack) [] H H' s.heap s'.heap)(Aq:DV X.prog X.w H' s'.heap)(k0:B.StaysIn s'.heap)(hB:∀b,b∉CA X.stack->((∃o,s.heap.get? b=some o)\/H' b≠none)->∃o,B.get? b=some o)(k1:B.StaysIn h'):DV X.prog X.w H' h':=
 cu Aq λb o q hn=>k1 b o (Rn k0 hB q (λhb=>by
  obtain⟨_,o',q',_⟩:=I.stack.mem hb
  exact hn (un.free b o' q' (I.DY b hb) (by simp))) (.inr hn))
theorem Nj(I:Inv X pins σ H s)(hst:X.stack=X.env::X.outer)(hf:X.env.frame=some X.env.locals)(hex:X.ex=[])(os:s'.os=s.os)(gb:AllBare s'.gens)(un:Un (CA X.stack) [] H H' s.heap s'.heap)(Aq:DV X.prog X.w H' s'.heap)
 (k0:B.StaysIn s'.heap)(hB:∀b,b∉CA X.stack->((∃o,s.heap.get? b=some o)\/H' b≠none)->∃o,B.get? b=some o)(L:P9 B (X.env::X.outer) e (.ref C) (some d) Value.none h')(k4:s'.heap.UpToSlots h')(en:B.get? e=none)(hd:B.Ns1 d (XE u)/\H' d=none/\RelV v u)(q:E (.ref C) v H'):
 Gj X.prog X.w X.outer X.H₀ X.s₀ E (.ref e) {s' with heap:=h'}:=by
 obtain⟨k1,⟨_,_,k2⟩,k3⟩:=L;have U:=MH I un k0 hB k1 k4;have hfs:CA X.stack=X.env.locals::CA X.outer:=by rw[hst];unfold CA;rw[filterMap_cons,hf]
 have out:∀b o,X.s₀.heap.get? b=some o->b∉CA X.outer->b∉CA X.stack:=λb o q hb=>by
  rw[hfs];intro hm;rcases mK hm with z|z
  .exact absurd (Heap.lt_size q) (by rw[z];exact Nat.not_lt.mpr I.ok.above)
  .exact hb z
 have inn:∀b,b∈CA X.outer->b∈CA X.stack:=λb hb=>by rw[hfs];exact mC hb
 have no:∀b:Addr,b∉X.ex:=λb=>by rw[hex];simp
 refine⟨e,C,d,B,H',u,v,rfl,os.trans I.os,gb,⟨λb o q n hb hx=>?_,λb o q n hb hx=>?_,λb o q n hx=>?_,λb o q hx=>?_,λb xs q=>U.Fq b xs (I.base.Fq b xs q),λb o u q=>U.EW b o u (I.base.EW b o u q),λb ps q=>?_⟩,KC I un Aq k0 hB k1,en,hd,⟨k1,k2,k3⟩,λb hb hor=>?_,q⟩
 .exact U.keep b o (I.base.keep b o q n hb (no b)) (I.base.free b o q n (no b)) (out b o q hb) hx
 .obtain⟨sl,e1⟩:=I.base.slot b o q n hb (no b);obtain⟨sl',e2⟩:=U.slot b _ e1 (I.base.free b o q n (no b)) (inn b hb) hx;exact⟨sl',e2⟩
 .obtain⟨o',e1⟩:=I.base.there b o q (no b);exact U.free b o' e1 (I.base.free b o q n (no b)) hx
 .obtain⟨o',e1⟩:=I.base.there b o q (no b);exact U.there b o' e1 hx
 .obtain⟨m1,e1⟩:=I.base.EA b ps q;obtain⟨m2,e2⟩:=U.EA b _ e1;exact⟨m1++m2,by rw[e2,Array.append_assoc]⟩
 .rcases hor with⟨o,e0⟩|hn
  .obtain⟨o',e1⟩:=I.base.there b o e0 (no b);exact hB b (out b o e0 hb) (.inl ⟨o',e1⟩)
  .exact hB b (λhm=>by
    obtain⟨_,o',q',_⟩:=I.stack.mem hm
    exact hn (un.free b o' q' (I.DY b hm) (by simp))) (.inr hn)
end
section
variable{X:Cx}{pins:Oa}{σ:L2.St}{H H':Hp}{s s':Shared}{E E':XK}
variable{h:Heap}
theorem Fy{P:Program}{w:World}{H:Hp}{a:Addr}{o:HO}(x:BD P w H h a o):∃ob,h.get? a=some ob:=by
 induction o with
 |lst xs=>obtain⟨_,_,_,_,e⟩:=x;exact⟨_,e⟩
 |tup xs=>obtain⟨_,_,_,ob,e,_⟩:=x;exact⟨ob,e⟩
 |dK kvs=>obtain⟨_,_,_,_,o,_,_,e,_⟩:=x;exact⟨_,e⟩
 |dT kvs=>obtain⟨_,_,_,_,o,_,_,e,_⟩:=x;exact⟨_,e⟩
 |set S n=>obtain⟨o,_,_,_,e,_⟩:=x;exact⟨_,e⟩
 |ins C dx fs=>obtain⟨_,_,_,e,_⟩:=x;exact⟨_,e⟩
 |own y=>exact x
 |xd fs=>obtain⟨_,⟨_,_,_,e,_⟩,_⟩:=x;exact⟨_,e⟩
 |Xy lo hi=>obtain⟨_,_,_,e⟩:=x;exact⟨_,e⟩
 |Dz o u ih=>exact⟨_,x.1⟩
 |JS ps=>exact⟨_,x⟩
 |met f y=>exact⟨_,x⟩
 |ext φ=>exact x.2.1
theorem KH{base:Heap}{as:List Addr}:∀{l:List PySem.Env},h.FunFrames base l->(∀b∈CA l,b∈as)->h.FunFrames (hideAll h as) l
 |[],_,_=>trivial
 | env::l,⟨hk,⟨L,o,hf,_,ho,hd⟩,hr⟩,hin=>by
   have h1:CA (env::l)=L::CA l:=by unfold CA;rw[filterMap_cons,hf]
   exact⟨hk,⟨L,o,hf,hideAll_none _ (hin L (by rw[h1];exact .head _)),ho,hd⟩,KH hr λb hb=>hin b (by rw[h1];exact .tail _ hb)⟩
theorem Pa{C:Addr}(I:Inv X pins σ H s)(hst:X.stack=X.env::X.outer)(hf:X.env.frame=some X.env.locals)(hex:X.ex=[])(os:s'.os=s.os)(gb:s'.gens=s.gens)
 (kp:∀b o,s.heap.get? b=some o->s'.heap.get? b=some o)(en:s.heap.get? e=none)(he:s'.heap.get? e=some (Ex C t (some d)))(nd:s'.heap.Ns1 d (XE u))(rv:RelV v u)(dn:s.heap.get? d=none)(de:d≠e)(q:E (.ref C) v H):
 (X|||(leaving X.env (.ref e))) (λ_ s''=>Gj X.prog X.w X.outer X.H₀ X.s₀ E (.ref e) s'') (λe' s''=>Gj X.prog X.w X.outer X.H₀ X.s₀ E e' s'') s':=by
 have k0:(hideAll s'.heap (e::CA X.stack)).StaysIn s'.heap:=λb o q=>of_hideAll _ q
 have en':(hideAll s'.heap (e::CA X.stack)).get? e=none:=hideAll_none _ mS;have ff2:s'.heap.FunFrames (hideAll s'.heap (e::CA X.stack)) (X.env::X.outer):=hst▸KH (I.stack.of_keeps (h':=s'.heap) λb o q _=>⟨o,kp b o q,rfl⟩) λb hb=>mC hb
 have isB:∀b o,s.heap.get? b=some o->b∉CA X.stack->∃o,(hideAll s'.heap (e::CA X.stack)).get? b=some o:=λb o e0 hb=>⟨o,hideAll_get _ (kp b o e0) λz=>by
  rcases mK z with z|z
  .rw[z,en]at e0;cases e0
  .exact hb z⟩
 refine Kt (base:=hideAll s'.heap (e::CA X.stack)) (outer:=X.outer) (by rw[I.ok.frames,hst]) ff2 hf he k0 en' rfl rfl ⟨rfl,rfl⟩ λh' L k4=>?_
 refine Nj (B:=hideAll s'.heap (e::CA X.stack)) I hst hf hex os (by rw[gb];exact I.bare) ⟨λb o q _ _ _=>kp b o q,λb o q _ _ _=>⟨o.slots,kp b o q⟩,λb o q n _=>n,λb o q _=>⟨o,kp b o q⟩,λ_ _ q=>q,λ_ _ _ q=>q,λ_ ps q=>⟨#[],by rw[Array.append_empty];exact q⟩⟩ (I.Aq.kept kp) k0 (λb hb hor=>?_) L k4 en' ⟨nd.at λo q=>hideAll_get _ q λz=>?_,?_,rv⟩ q
 .rcases hor with⟨o,e0⟩|hn
  .exact isB b o e0 hb
  .have hl:∃o,s.heap.get? b=some o:=by
    cases hH:H b with
    |none=>exact absurd hH hn
    |some u=>exact Fy (I.Aq b u hH)
   obtain⟨o,e0⟩:=hl;exact isB b o e0 hb
 .rcases mK z with z|z
  .exact de z
  .obtain⟨_,o',q',_⟩:=I.stack.mem z;rw[dn]at q';cases q'
 .cases hH:H d with
  |none=>rfl
  |some u=>
    obtain⟨o,e0⟩:=Fy (I.Aq d u hH);rw[dn]at e0;cases e0
theorem T2(I:Inv X pins σ H s)(hst:X.stack=X.env::X.outer)(hf:X.env.frame=some X.env.locals)(hex:X.ex=[])(c:Gj X.prog X.w X.stack H s E' e s')(hE:∀cls v H',E' cls v H'->E cls v H'):
 (X|||(leaving X.env e)) (λ_ s''=>Gj X.prog X.w X.outer X.H₀ X.s₀ E e s'') (λe' s''=>Gj X.prog X.w X.outer X.H₀ X.s₀ E e' s'') s':=by
 obtain⟨ea,C,d,B,H',u,v,rfl,os,gb,un,Aq,f2,nd,f3,hB,q⟩:=c;rw[hst]at f3;exact M1 (by rw[I.ok.frames,hst]) hf f2 f3 λh' L k4=>Nj I hst hf hex os gb un Aq f3.1 hB L k4 f2 nd (hE _ _ _ q)
end
end Xc
namespace Xc
open PySem PySem.Spec
section
variable{prog:Program}{w:World}{A:Around}{E:Va}{s:Shared}{K:Frag}{x C:Addr}{ox:Obj}{od:Option Obj}{name:Str}
structure GA(K:Frag)(C:Addr):Prop where
 ga:findIn K (.ref C) "__getattribute__"=some (some (.builtin "BaseException.__getattribute__"))
 gt:findIn K (.ref C) "__getattr__"=some none
 bs:mroIn K C (.type "BaseException")=some true
variable{expr:Bool}
theorem Ws{fill:Bool}{tk:Tok}{r:Builtin.ObjectAttr.Found}{Q:Va}(X:K.In s.heap)(I:InstAt s.heap x ox C od)(k:GA K C)(hf:PySem.W.findObj K C od name=some r)(hr:r≠.missing)
 (h:wpAny (model prog w) A.in1 (match r with
  |.value v=>ret v
  |.bind g a=>Builtin.ObjectAttr.bindTo g a (.ref x) (.ref C)
  |.missing=>throw .none) (λfin s'=>∃v,fin= .done (.ret v)/\handedIn v=true/\Q v s') (λ_ _=>False) s):
 wpAny (model prog w) A (getAttrBy (.ref x) (.str name tk) fill expr) Q E s:=by
 have F:=PySem.F.attrBase_ValueError;obtain⟨hp,g,dr,tk0,os⟩:=s;have i1:=I.type (M:=model prog w);have i2:=looks_findIn (M:=model prog w) X k.ga;have i3:=looks_findIn (M:=model prog w) X k.gt;have i4:=PySem.W.looks_find (M:=model prog w) X I hf;unfold getAttrBy;refine wpAny_holding (wB (i1.at (wB (i2.at ?_))));show wpAny _ _ (if _ then _ else _) _ _ _;rw[iN (λz=>absurd (Bool.and_eq_true_iff.mp z).2 (by decide))];unfold getAttrByItsOwn hookBefore;refine wB (i3.at (wB (wpAny_attempt (wpAny_holding ?_))));unfold callGetattribute;rw[iN (by cases expr<;>decide)];unfold boundAndCalled;rw[F.ga.bind];refine wB (wP (wpAny_call (codeAny_call_builtin F.ga.plain PySem.F.entry_bexc_ga ?_)));have sub:Looks (model prog w) hp (isInstance (.ref x) (.type "BaseException")) true:=i1.andThen (looks_mroIn X k.bs);refine @check_slot (model prog w) _ _ _ "BaseException.__getattribute__" "BaseException" "__getattribute__" (.ref x) [.str name tk] [] _ (by decide +kernel) (by decide +kernel) sub (PySem.F.args_bexc_ga _ _) ?_;unfold Builtin.«object.__getattribute__»;show wpAny _ _ (slotArgs "__getattribute__" 1 ⟨[.ref x,.str name tk],[]⟩ >>= _) _ _ _;have hs:slotArgs "__getattribute__" 1 ⟨[.ref x,.str name tk],[]⟩=pure (.ref x,[.str name tk]):=rfl;rw[hs];refine wB (wP ?_);show wpAny _ _ (Builtin.ObjectAttr.attrName (.str name tk) >>= _) _ _ _;have ha:Builtin.ObjectAttr.attrName (.str name tk)=pure name:=rfl;rw[ha];refine wB (wP (wB (i1.at (wB (i4.at ?_)))));cases r with
 |missing=>exact absurd rfl hr
 |value v=>
   refine wpAny_mono h (λfin s' z=>?_) (λ_ _ z=>z.elim);obtain⟨v',rfl,hh,q⟩:=z;exact handed_on hh q
 |bind g a=>
   refine wpAny_mono h (λfin s' z=>?_) (λ_ _ z=>z.elim);obtain⟨v',rfl,hh,q⟩:=z;exact handed_on hh q
theorem RD{d:Addr}{m:Str->Option Value}{v:Value}{Q:Va}(X:K.In s.heap)(hx:s.heap.get? x=some ox)(hc:ox.cls= .ref C)(hn:notCls ox=true)(hd:ox.dict=some d)(ns:s.heap.Ns1 d m)(k:GA K C)(hh:hasDictIn K C=true)
 (ha:findIn K (.ref C) name=some none)(hv:m name=some v)(hv':handedIn v=true)(h:Q v {s with toks:=s.toks+1}):
 wpAny (model prog w) A (getAttr (.ref x) name expr) Q E s:=by
 obtain⟨od,ho,hl⟩:=L2.OD ns;unfold getAttr;refine wB (wpAny_mkText ?_);exact Ws (s:={s with toks:=s.toks+1}) X ⟨hx,hc,hn,by rw[hd];exact ho⟩ k (PySem.W.findObj_own hh ha rfl (by rw[hl,hv])) (by intro z;cases z) (wP ⟨v,rfl,hv',h⟩)
theorem V6{od:Obj}{bm:List Value}(Cw:∀h:Heap,K.In h->Fh h C bm)(k:GA K C)(hh:hasDictIn K C=true)(ha:findIn K (.ref C) "__class__"=some (some (.builtin "object.__class__")))
 (hn:specialIn K (.builtin "object.__class__") "__get__"=some (some (.builtin "getset_descriptor.__get__")))(htk:takesIn K (.builtin "object.__class__")=some true)(hm:mroIn K C (.type "object")=some true):
 KitX K (.ref x) (.ref C) λh=>InstAt h x ox C (some od) where
 ty:=λM h X I=>I.type
 it:=λM h X I A' Q' E' s' kp q=>by
   obtain⟨nm,q1,N,bs,hdct,sn,sub,ab,col,dd,k0,k1,k2,k3,k5,hC⟩:=(Cw h X).at_;exact wB (wpAny_loadPart (kp _ _ hC) (wP q))
 ne:=λh tp dd its n sl X q=>Bool.eq_false_iff.mpr λz=>by
   obtain⟨nm,q1,N,bs,hdct,sn,sub,ab,col,dd,k0,k1,k2,k3,k5,hC⟩:=(Cw h X).at_;cases Value.ref.inj (beq_iff_eq.mp z);rw[q]at hC;have:=congrArg Obj.data (Option.some.inj hC);cases this
 ca:=λ{prog w A E Q s} X I h=>by
   have hf:=PySem.W.findObj_data (od:=od) (by obtain⟨cd,hc,_⟩:=PySem.W.any_some hh;rw[hc];rfl) ha hn htk;unfold getAttr? getAttrBy?;refine wB (wpAny_mkText (wB (wpAny_attempt (Ws (s:={s with toks:=s.toks+1}) X I k hf (by intro z;cases z) ?_))));refine wB (wpAny_holding (wpAny_call (PySem.W.class_get (s:={s with toks:=s.toks+1}) X I hm ?_)));exact wP ⟨_,rfl,rfl,wP h⟩
end
end Xc
namespace Xc
open PySem PySem.Spec L2 PyProof.Rows
abbrev hX(X:Cx)(ea d:Addr)(oe od:Obj):Cx:={X with A:=X.A.mark (some (.ref ea)),calm:=false,pn:=(ea,oe)::(d,od)::X.pn,xe:=λ_ _=>False}
section
variable{X:Cx}{pins:Oa}{σ:L2.St}{H H':Hp}{s s':Shared}{E:XK}{C D ea d:Addr}{oe od:Obj}{x en:Str}{p zp rp hp:Pos}{ie:Nat}
theorem YK(I:Inv X pins σ H s)(h:∀q∈[(ea,oe),(d,od)],s.heap.get? q.1=some q.2/\H q.1=none/\q.1≠X.env.locals/\q.1∉X.fs/\∀v,q.2.data≠.cell v):Inv (hX X ea d oe od) pins σ H s:=
 ⟨⟨I.ok.mod,I.ok.kind,I.ok.glob,I.ok.blt,I.ok.above,I.ok.inj,I.ok.has,I.ok.Zh,(λz=>by cases z),I.ok.frames,I.ok.aO,I.ok.cH,I.ok.bs,I.ok.SV,I.ok.Ot,I.ok.OQ,I.ok.EV,I.ok.Wu⟩,I.os,I.bare,I.base,I.loc,I.cell,I.free,I.CS,λq hq=>by
   rcases mK hq with z|hq
   .exact h q (z▸mS)
   .rcases mK hq with z|hq
    .exact h q (z▸mC mS)
    .exact I.pin q hq,I.Aq,I.len⟩
theorem Rh(ok:X.Ok)(I:Inv (hX X ea d oe od) pins σ H s):Inv X pins σ H s:=
 ⟨ok,I.os,I.bare,I.base,I.loc,I.cell,I.free,I.CS,λq hq=>I.pin q (mC (mC hq)),I.Aq,I.len⟩
theorem Me{h':Heap}{m:Str->Option Value}{u:Option Value}(I:Inv X pins σ H s)(hN:X.N.Nodup)(hi:X.N[ie]? =some en)(hn:s.heap.Ns X.env.locals m)(hl:∀(i:Nat) (x:Str) (v:V),X.N[i]? =some x->σ[i]? =some (some v)->cV X.env.scope x->∃u,RelV v u/\Look X.env s.heap m x u)
 (hn':h'.Ns X.env.locals λx=>if x=en then u else m x)(hs:Heap.SameBut X.env.locals s.heap h'):Inv X pins (σ.set ie none) H {s with heap:=h'}:=by
 obtain⟨oL,_,_,hoL,_⟩:=id hn;refine⟨I.ok,I.os,I.bare,⟨λb o e n hb hx=>?_,λb o e n hb hx=>?_,I.base.free,λb o e hx=>?_,I.base.Fq,I.base.EW,I.base.EA⟩,⟨_,hn',λj y v' e1 e2 e3=>?_⟩,λy c e=>?_,I.free,I.CS,λp hp=>?_,λb ob e=>?_,by simpa using I.len⟩
 .exact(hs.2 b (Nat.ne_of_lt (Nat.lt_of_lt_of_le (Heap.lt_size e) I.ok.above))).trans (I.base.keep b o e n hb hx)
 .obtain⟨sl,e1⟩:=I.base.slot b o e n hb hx;exact⟨sl,(hs.2 b (Nat.ne_of_lt (Nat.lt_of_lt_of_le (Heap.lt_size e) I.ok.above))).trans e1⟩
 .obtain⟨o',e1⟩:=I.base.there b o e hx;exact⟨o',(hs.2 b (Nat.ne_of_lt (Nat.lt_of_lt_of_le (Heap.lt_size e) I.ok.above))).trans e1⟩
 .by_cases hj:j=ie
  .subst hj;rw[List.getElem?_set_self']at e2;cases q:σ[j]?<;>rw[q]at e2<;>cases e2
  .rw[List.getElem?_set_ne (Ne.symm hj)]at e2;obtain⟨u',r',q⟩:=hl j y v' e1 e2 e3;refine⟨u',r',?_⟩;rcases q with⟨k,e⟩|⟨k,c,e,z⟩
   .refine .inl ⟨k,?_⟩;have:y≠en:=λe=>hj (Hc hN e1 (e▸hi))
    simp[this,e]
   .exact .inr ⟨k,c,e,z.sameBut hs (I.SU y c e)⟩
 .obtain⟨w',z⟩:=I.cell y c e;exact⟨w',z.sameBut hs (I.SU y c e)⟩
 .obtain⟨e,n,ne,nf,d⟩:=I.pin p hp;exact⟨(hs.2 p.1 ne).trans e,n,ne,nf,d⟩
 .refine(I.Aq b ob e).CW (λc w' hc q=>(hs.2 c ?_).trans q) (λ_ q=>q) λ_ _ q=>q
  rintro rfl
  have hfree:=I.free;rcases hc with rfl|hc
  .rw[hfree]at e;cases e
  .rw[hfree]at hc;cases hc
theorem Ys{A:Around}{E:Va}{Q:Unit->Shared->Prop}(I:Inv X pins σ H s)(hN:X.N.Nodup)(hi:X.N[ie]? =some en)(hl:X.env.scope.names.lookup en=some .local)(k:∀s',Inv X pins (σ.set ie none) H s'->Q () s'):
 wpAny (model X.prog X.w) A (do bindName X.env en Value.none;unbindBehindTheSuite X.env en hp) Q E s:=by
 unfold bindName unbindBehindTheSuite;refine wB (wB (wpAny_holding (wpAny_point (wB (ED (v:=.A8) I hN hi (.inl hl) rfl (λs1 I1=>wpAny_point ?_) (.inr hl))))));obtain⟨m,hn,hlk⟩:=id I1.loc;have hie:ie < σ.length:=by rw[I.len];exact(List.getElem?_eq_some_iff.mp hi).1
 obtain⟨u,r,q⟩:=hlk ie en .A8 hi (List.getElem?_set_self hie) (.inl hl)
 have hm:m en=some u:=by
  rcases q with⟨_,q⟩|⟨q,_⟩
  .exact q
  .rw[show X.env.kindOf en=_ from hl]at q;rcases q with q|q<;>cases q
 refine wpAny_onRaise (wpAny_unbindName_local hl hn hm (by rw[I.ok.kind];rfl) λh' u' hn' hs=>k _ ?_);have:=Me I1 hN hi hn hlk hn' hs;rwa[set_set]at this
end
end Xc
namespace Nv
open PySem L2 PyProof.Rows
def dj(W:Wd)(Hin:Hp)(A0:Addr->Prop)(H':Hp):Prop:=BX W H'/\(∀b x,Hin b=some x->¬A0 b->Dy x=false->H' b=some x)/\(∀b x,Hin b=some x->∃y,H' b=some y)/\AS Hin H'
def jc(W:Wd)(H:Hp)(A0:Addr->Prop)(r:Res C)(Q:VK)(E:XK):Prop:=match r with
 |.stuck=>False
 |.ok c=>∀v H',Er W H A0 c v H'->Q v H'
 |.err x p=>∀v H',dj W H A0 H'->Af W H' p v->E (.ref (W.CD x)) v H'
def O8(W:Wd)(cf:List C->Res C):Sp:=λvs H Q E=>∃(cs:List C) (O:Addr->Nat) (A0:Addr->Prop),CC W H (λj a=>A0 a/\O a=j) (λa=>¬A0 a/\∃x,H a=some x) 0 cs vs/\BX W H/\jc W H A0 (cf cs) Q E
def EE(W:Wd)(EX:XP)(σ:L2.St):XK:=λcls v H'=>∃x p,cls= .ref (W.CD x)/\Af W H' p v/\EX x p σ H'
variable{W:Wd}{EX:XP}{H:Hp}{σ:L2.St}
theorem CC.length{own:Nat->Addr->Prop}{bor:Addr->Prop}:∀{j:Nat} {cs:List C} {vs:List V},CC W H own bor j cs vs->vs.length=cs.length
 |_,[],vs,h=>by rw[show vs=[]from h];rfl
 |_,_::_,_,⟨v,r,e,_,h⟩=>by rw[e,lC,lC,CC.length h]
theorem CC.get{own:Nat->Addr->Prop}{bor:Addr->Prop}:∀{i j:Nat} {cs:List C} {vs:List V} {c:C},CC W H own bor j cs vs->cs[i]? =some c->∃v,vs[i]? =some v/\AI W H (own (j + i)) bor c v
 |0,j,_::_,_,c,⟨v,r,e,h,_⟩,q=>by cases q;rw[e];exact⟨v,rfl,h⟩
 | i + 1,j,_::_,_,c,⟨v,r,e,_,h⟩,q=>by
   obtain⟨u,h1,h2⟩:=CC.get (i:=i) h q;rw[e];exact⟨u,h1,by rw[show j+(i+1)=j+1+i by lia];exact h2⟩
 |i,j,[],_,c,_,q=>by cases q
theorem Gm{x:HO}(q:H a=some x):¬H a=none:=by rw[q];exact λz=>nomatch z
theorem Ly{Fs:Env->Res (List C)}{cf:List C->Res C}{Q:VK}(h:tG W EX (rV W) (λρ=>(Fs ρ).bind cf) σ H Q):tG W EX (W9 W) Fs σ H λvs H1=>O8 W cf vs H1 Q (EE W EX σ):=by
 obtain⟨ρ,B,R,hA⟩:=h;refine⟨ρ,B,R,hA.HY (Ext.refl H) λcs vs H1 e1 t1 ⟨O,r⟩ h1=>⟨cs,O,λa=>H a=none,r.imp (Ext.refl _) (λ_ _ z=>z) (λa z=>?_),t1,?_⟩⟩
 .obtain⟨x,q⟩:=R.HI a z;exact⟨Gm q,e1.there a x q⟩
 .have ext:∀H',dj W H1 (λa=>H a=none) H'->Ext H H':=λH' f=>⟨λb x q n=>f.2.1 b x (e1.but b x q n) (Gm q) n,λb x q=>let⟨y,q⟩:=e1.there b x q;f.2.2.1 b y q⟩
  cases er:cf cs with
  |stuck=>rw[er]at h1;exact h1
  |ok c=>
    rw[er]at h1;exact λv H' r=>h1 v H' (ext H' r.2) r.2.1 (r.1.ext (Ext.refl _) (λa z=>z.elim e1.none id) λ_ z=>z.elim)
  |err x p=>
    rw[er]at h1;exact λv H' f rp=>⟨x,p,rfl,rp,h1 H' (ext H' f) f.1⟩
noncomputable def T1(X:Cx)(W:Wd):XP:=λx p σ H'=>
 (∀pins H s e s',Inv X pins σ H s->Xc.Gj X.prog X.w X.stack H s (λcls v H''=>cls= .ref (W.CD x)/\Af W H' p v/\H''=H') e s'->X.xe e s')/\
 ∀pins s1 s' e t d u v,Inv X pins σ H' s1->Af W H' p v->RelV v u->s'.os=s1.os->s'.gens=s1.gens->(∀b o,s1.heap.get? b=some o->s'.heap.get? b=some o)->s1.heap.get? e=none->s'.heap.get? e=some (Xc.Ex (W.CD x) t (some d))->s'.heap.Ns1 d (Xc.XE u)->s1.heap.get? d=none->d≠e->X.xe (.ref e) s'
variable{X:Cx}{pins:Oa}{H:Hp}
theorem XT(hx:∀x p σ H,EX x p σ H->T1 X W x p σ H){σ:L2.St}{s s':Shared}(I:Inv X pins σ H s)(h:Xc.Gj X.prog X.w X.stack H s (EE W EX σ) e s'):X.xe e s':=by
 obtain⟨ea,C,d,B,H',u,v,e1,e2,e3,e4,e5,e6,e7,e8,e9,x,p,e10,e11,e12⟩:=h;exact(hx _ _ _ _ e12).1 pins H s e s' I ⟨ea,C,d,B,H',u,v,e1,e2,e3,e4,e5,e6,e7,e8,e9,e10,e11,rfl⟩
theorem RA{E:XK}(hst:X.stack=X.env::X.outer)(hf:X.env.frame=some X.env.locals)(hex:X.ex=[])(hxe:∀e s',(X|||(leaving X.env e)) (λ_ s''=>Xc.Gj X.prog X.w X.outer X.H₀ X.s₀ E e s'') (λe' s''=>Xc.Gj X.prog X.w X.outer X.H₀ X.s₀ E e' s'') s'->X.xe e s')
 (x:Nat)(p:P)(σ':L2.St)(H':Hp)(h:∀v,Af W H' p v->E (.ref (W.CD x)) v H'):T1 X W x p σ' H':=
 ⟨λpins H s e s' I c=>hxe e s' (Xc.T2 I hst hf hex c λcls v H'' ⟨e1,e2,e3⟩=>by subst e1 e3;exact h v e2),λpins s1 s' e t d u v I rp ru h1 h2 h3 h4 h5 h6 h7 h8=>hxe _ _ (Xc.Pa I hst hf hex h1 h2 h3 h4 h5 h6 ru h7 h8 (h v rp))⟩
variable{n:Nat}
theorem Ru{cs:List C}{i:Nat}{c:C}(h:Ap (cs.map some++List.replicate n none) i=some c):cs[i]? =some c:=by
 unfold Ap at h;rw[List.getElem?_append]at h;split at h
 .rename_i hi;rw[lM]at hi;rw[List.getElem?_map]at h;cases e:cs[i]? with
  |none=>rw[e]at h;cases h
  |some d=>rw[e]at h;cases h;rfl
 .rw[List.getElem?_replicate]at h;split at h<;>cases h
variable{vs:List V}
theorem Aw.start{cs:List C}{O:Addr->Nat}{A0:Addr->Prop}(h:CC W H (λj a=>A0 a/\O a=j) (λa=>¬A0 a/\∃x,H a=some x) 0 cs vs)(t:BX W H):
 Aw W H A0 (λ_ a=>¬A0 a/\∃x,H a=some x) H (cs.map some++List.replicate n none) (vs.map some++List.replicate n none):=by
 refine⟨by simp[h.length],t,⟨O,λi c q=>?_⟩,λ_ a z=>⟨z.2,z.1⟩,λb x q _ _=>q,λb x q=>⟨x,q⟩,AS.refl _⟩;obtain⟨v,h1,h2⟩:=h.get (Ru q);refine⟨v,?_,h2.ext (Ext.refl _) (λa z=>⟨by rw[z.2];exact Nat.zero_add i,.inr z.1⟩) λ_ z=>z⟩;have hl:i < vs.length:=(List.getElem?_eq_some_iff.mp h1).1;rw[List.getElem?_append_left (by rw[lM];exact hl),List.getElem?_map,h1];rfl
theorem NL{cf:CF}{fi:P7}{N:List Str}{E:XK}{Q:VK}(hnl:fi.nl=N.length)(hv:vs.length=fi.np)(hrep:∀x p σ' H',(∀v,Af W H' p v->E (.ref (W.CD x)) v H')->EX x p σ' H')
 (hsp:O8 W (DH cf AW fi) vs H Q E):tS W EX (CT fi.body) (execs cf AW fi.body) {nx:=λ_ H'=>Q .A8 H',rt:=Q} (L2.start N vs) H:=by
 obtain⟨cs,O,A0,hR,ht,hQ⟩:=hsp;have hlen:=hR.length;have hst:L2.start N vs=vs.map some++List.replicate (fi.nl-fi.np) none:=by unfold L2.start;rw[hnl,hv]
 rw[hst];refine⟨H,A0,_,_,Aw.start hR ht,?_⟩;unfold DH at hQ;rw[iP (by lia)]at hQ;cases eb:execs cf AW fi.body (cs.map some++List.replicate (fi.nl-fi.np) none)with
 |stuck=>rw[eb]at hQ;exact hQ
 |brk ρ'=>rw[eb]at hQ;exact hQ.elim
 |cnt ρ'=>rw[eb]at hQ;exact hQ.elim
 |nx ρ'=>rw[eb]at hQ;exact λσ' H' s u=>hQ .A8 H' ⟨(DJ (W:=W) (H:=H')).mpr rfl,s.tb,s.FI,s.HI,s.kp⟩
 |ret c=>rw[eb]at hQ;exact λv H' r=>hQ v H' r
 |err x p ρ'=>rw[eb]at hQ;exact λσ' H' s u=>hrep x p σ' H' λv rp=>hQ v H' ⟨s.tb,s.FI,s.HI,s.kp⟩ rp
def ZG(P:Program)(w:World)(K:Frag)(mg:Str->Option Value)(base:Heap)(W:Wd)(cf:CF)(k n:Nat)(caps:List Nv.P)(a:Addr):Prop:=(∃o fd,base.get? a=some o/\o.data= .func fd)/\
 ∀(A:Around) (outer:List PySem.Env) (s:Shared) (H:Hp) (us:List Value) (vs:List V) (Q:VK) (E:XK),Cm k A->JQ P w K mg base A outer s H->Vals vs us->O8 W (λcs=>cf n (cs++caps.map .p)) vs H Q E->codeAny (model P w) A (.call (.ref a) ⟨us,[]⟩) (L2.CR (Xc.Gj P w) outer P w H s Q E) s
abbrev Fv(X:Cx)(W:Wd)(cf:CF)(k n:Nat)(caps:List Nv.P)(a:Addr):Prop:=ZG X.prog X.w X.K X.mg X.base W cf k n caps a
section
variable{X:Cx}{cf:CF}{k n:Nat}{caps:List Nv.P}{a:Addr}{pins:Oa}{s:Shared}{Q:VK}
theorem Q2(F:Fv X W cf k n caps a)(hr:Cm k X.A)(hx:∀x p σ H,EX x p σ H->T1 X W x p σ H){us:List Value}{vs:List V}(I:Inv X pins σ H s)(r:Vals vs us)(h:O8 W (λcs=>cf n (cs++caps.map .p)) vs H Q (EE W EX σ)):(X|||(call (.ref a) us)) (EP X pins σ Q) X.xe s:=by
 refine wpAny_call (codeAny_mono (F.2 X.A X.stack s H us vs Q _ hr I.cI r h) λr s' hq=>?_);cases r with
 |error e=>exact XT hx I hq
 |ok fl=>
   cases fl with
   |ret u=>exact I.after hq
   |next=>exact False.elim hq
   |brk=>exact False.elim hq
   |cont=>exact False.elim hq
variable{pos:Pos}
theorem K8(F:Fv X W cf k n caps a)(hr:Cm k X.A)(hx:∀x p σ H,EX x p σ H->T1 X W x p σ H){es:List Expr}{ts:List T}(hs:HE X W EX cf es ts)(I:Inv X pins σ H s)(h:tG W EX (W9 W) (FO cf ts) σ H λvs H1=>O8 W (λcs=>cf n (cs++caps.map .p)) vs H1 Q (EE W EX σ)):
 (X|||(callWith pos (.ref a) [] (backTo pos (starEach es X.env)) [])) (EP X pins σ Q) X.xe s:=by
 obtain⟨o,fd,q1,q2⟩:=F.1;refine Calls.callWith_function (o:=o) (fd:=fd) ?_;have h0:=Qt hs pos pins s σ H _ I h;cases hs with
 |nil=>exact PySem.evalArgs_none ⟨⟨I.bk _ _ q1,q2⟩,Q2 F hr hx I .nil (PD h)⟩
 |cons he hs=>
   rw[A9 he.st]at h0 ⊢;exact Calls.evalArgs_plain (thn h0 λus s1 ⟨vs,H1,I1,r,q⟩=>⟨⟨I1.bk _ _ q1,q2⟩,Q2 F hr hx I1 r q⟩)
variable{p:Pos}
theorem PY(hK:W.K=X.K)(F:Fv X W cf k n [] a)(hr:Cm k X.A)(hx:∀x p σ H,EX x p σ H->T1 X W x p σ H){x:Str}{es:List Expr}{ts:List T}(hg:Gl X x)(hm:X.mg x=some (.ref a))(hdb:ng x)(hs:HE X W EX cf es ts):Bt X W EX cf (.Call (.Name x p) es [] pos) (.call n ts):=by
 refine Bt.of hK (λpins s σ H Q I z=>?_) rfl;refine wpAny_Call_Name_kw (ES I hg hm (K8 F hr hx hs I (Ly ?_)) hdb);simp only[map_nil,append_nil];exact z
theorem Tz(hK:W.K=X.K){i:Nat}(hF:∀n caps a,W.fa n caps a->Fv X W cf k n caps a)(hr:Cm k X.A)(hx:∀x p σ H,EX x p σ H->T1 X W x p σ H){x:Str}{es:List Expr}{ts:List T}(hv:PE X (.Name x p) (IL i))(hs:HE X W EX cf es ts):Bt X W EX cf (.Call (.Name x p) es [] pos) (.app i ts):=by
 refine Bt.of hK (λpins s σ H Q I z=>?_) rfl;obtain⟨ρ,B,R,hA⟩:=z;obtain⟨q,eq,hA⟩:=hA.C2;obtain⟨c,ec,eq⟩:=Ae eq
 have hc:c= .p (.fn q.1 q.2):=by
  cases c with
  |p y=>cases y<;>cases eq;rfl
  |_=>cases eq
 subst hc;obtain⟨v,e1,e2⟩:=R.get i _ ec;obtain⟨a,ea,rfl⟩:=Gp.mp (JT e2);refine wpAny_Call_Name_kw (thn (hv pins s σ H (λv H1=>v= .ref a/\H1=H) I ⟨_,e1,rfl,rfl⟩) λv s1 ⟨y,H1,I1,r1,e3,e4⟩=>?_);subst e3;subst e4;cases r1;exact K8 (hF _ _ _ ea) hr hx hs I1 (Ly ⟨ρ,B,R,hA⟩)
theorem cC{P:Program}{w:World}{K:Frag}{mg:Str->Option Value}{base:Heap}{fd:FuncData}{ps:List Str}(hb0:∃o fd,base.get? f=some o/\o.data= .func fd)(F:HF P w K mg base (Xc.Gj P w) k f fd ps (O8 W (cf n)))(hb:Binds K fd ps []):ZG P w K mg base W cf k n [] f:=
 ⟨hb0,λA outer s H us vs Q E hr e0 r h=>by
  simp only[map_nil,append_nil]at h;have hl:us.length=ps.length:=by rw[<-r.length];exact F.len _ _ _ _ h
  have Dn:K.In s.heap:=e0.mod.Dn.keeps λb o e=>(e0.bs b o e).1
  exact F.run A outer s H ⟨us,[]⟩ us vs Q E hr e0 (by simpa using hb s us Dn (by simpa using hl)) r h⟩
end
section
variable{X:Cx}{pins:Oa}{s:Shared}
def Wy:HO:=.ext λ_=>True
def grown(H:Hp)(P c:Addr)(oc:Obj)(ps:Array Value):Hp:=upd (upd H c (.Dz oc Wy)) P (.JS ps)
theorem Rr{P c:Addr}{oc:Obj}{ps more:Array Value}{h':Heap}{tk:Nat}(I:Inv X pins σ H s)(hP:H P=some (.JS ps))(hc:s.heap.objs.size<=c)
 (hx:∀b o,b≠P->s.heap.get? b=some o->h'.get? b=some o)(hoc:h'.get? c=some oc)(hPn:h'.get? P=some {cls:=.none,data:=.fields (ps++more)}):
 Inv X pins σ (grown H P c oc (ps++more)) {s with heap:=h',toks:=tk}/\AS H (grown H P c oc (ps++more))/\Ext H (grown H P c oc (ps++more)):=by
 have hcn:H c=none:=I.Aq.fresh hc;have neP:∀b x,H b=some x->Dy x=false->b≠P:=λb x e n z=>by rw[z,hP]at e;cases e;cases n
 have nec:∀b x,H b=some x->b≠c:=λb x e z=>by rw[z,hcn]at e;cases e
 have hPc:P≠c:=nec P _ hP
 have same:∀b x,H b=some x->Dy x=false->grown H P c oc (ps++more) b=some x:=λb x e n=>by
  unfold grown;rw[Ac (neP b x e n),Ac (nec b x e)];exact e
 have lt:∀b o,s.heap.get? b=some o->b≠c:=λb o e z=>absurd (Nat.lt_of_lt_of_le (Heap.lt_size e) (z▸hc)) (Nat.lt_irrefl _)
 have neU:∀b,H b=none->b≠P:=λb n z=>by rw[z,hP]at n;cases n
 have there:∀b x,H b=some x->∃x',grown H P c oc (ps++more) b=some x':=λb x e=>by
  by_cases hb:b=P
  .exact⟨_,by rw[hb];exact Ag⟩
  .exact⟨x,by unfold grown;rw[Ac hb,Ac (nec b x e)];exact e⟩
 have kp:AS H (grown H P c oc (ps++more)):=λa=>⟨λxs e=>same a _ e rfl,λo u e=>same a _ e rfl⟩
 refine⟨I.un ⟨λb o e n hb _=>hx b o (neU b n) e,λb o e n hb _=>⟨o.slots,hx b o (neU b n) e⟩,λb o e n _=>?_,λb o e _=>?_,λb xs e=>same b _ e rfl,λb o u e=>same b _ e rfl,λb qs e=>?_⟩ (λa o e=>?_),kp,⟨same,there⟩⟩
 .unfold grown;rw[Ac (neU b n),Ac (lt b o e)];exact n
 .by_cases hb:b=P
  .exact⟨_,by rw[hb];exact hPn⟩
  .exact⟨o,hx b o hb e⟩
 .by_cases hb:b=P
  .rw[hb,hP]at e;cases e;exact⟨more,by rw[hb];exact Ag⟩
  .exact⟨#[],by unfold grown;rw[Ac hb,Ac (nec b _ e),e];simp⟩
 .by_cases ha:a=P
  .subst ha;have e:grown H a c oc (ps++more) a=some o:=e;unfold grown at e;rw[Ag]at e;cases e;exact hPn
  .by_cases ha2:a=c
   .subst ha2;unfold grown at e;rw[Ac ha,Ag]at e;cases e;exact⟨hoc,trivial,⟨_,hoc⟩,λ_ _ _ _=>trivial⟩
   .have e0:H a=some o:=by
     unfold grown at e;rw[Ac ha,Ac ha2]at e;exact e
    refine(I.Aq a o e0).CW (λb u hb q=>hx b u ?_ q) (λb q=>same b _ q rfl) λb xs q=>same b _ q rfl
    rcases hb with rfl|hb
    .exact ha
    .exact neP b _ hb rfl
theorem Ii{α β:Type}:∀{l:List (α×β)} {p q:α×β},(l.map (·.1)).Nodup->p∈l->q∈l->p.1=q.1->p=q
 |[],_,_,_,h,_,_=>by cases h
 | x ::l,p,q,hn,hp,hq,e=>by
   rw[map_cons,nodup_cons]at hn;rcases mK hp with hp1|hp1
   .rcases mK hq with hq1|hq1
    .rw[hp1,hq1]
    .exact absurd (by rw[<-hp1,e];exact mem_map_of_mem hq1) hn.1
   .rcases mK hq with hq1|hq1
    .exact absurd (by rw[<-hq1,<-e];exact mem_map_of_mem hp1) hn.1
    .exact Ii hn.2 hp1 hq1 e
theorem QW{as:Arguments}{sc:Scope}{lp:Pos}{P:Addr}{clos:List (Str×Addr)}{Q:Va}(I:Inv X pins σ H s)(tb:BX W H)(hnd:(W.tabs.map (·.1)).Nodup)(hq:(P,lp,X.env.qual++"<lambda>")∈W.tabs)
 (hdef:defaultsOf as X.env=([],[]))(Cw:closureFor sc X.env=pure clos)(hcode:X.env.code= .ref c)(C:CodeHd X.base c P)(hB:X.base.BuiltinsAt X.mg P)(hgP:mainGlobals≠P)
 (h:∀(c0 cc:Addr) (ctv:Value) (s':Shared) (H':Hp),Inv X pins σ H' s'->AS H H'->Ext H H'->BX W H'->ME H' (cc,X.env.qual++"<lambda>")->
   s'.heap.get? c0=some {cls:=.type "function",data:=.func (kla_fn "<lambda>" (X.env.qual++"<lambda>") as b sc clos ((X.mg "__name__").getD .none) (.ref cc) ctv)}->s.heap.objs.size<=c0->H' c0=none->
   (∀a o,s.heap.get? a=some o->H a=none->s'.heap.get? a=some o)->Q (.ref c0) s'):(X|||(eval (.Lambda as b sc lp) X.env)) Q X.xe s:=by
 obtain⟨ps,hP,ht,hcodes⟩:=tb.1 _ hq;have hPs:s.heap.get? P=some (tabObj ps):=I.Aq P _ hP;have hg:s.heap.Ns mainGlobals X.mg:=I.mod.glob.keeps I.bk;have hb:s.heap.BuiltinsAt X.mg P:=let⟨bm,o,q1,q2,q3,q4,q5,q6⟩:=hB;⟨bm,o,q1,q2,q3,q4,I.bk _ _ q5,q6⟩;refine PySem.W.kla_eval hdef ?_;cases hf:codeAmong lp ps.toList with
 |some cv=>
   obtain⟨cc,rfl,hcc⟩:=hcodes cv hf;refine PySem.W.kla_makeFunctionHit Cw I.ok.glob hg hcode (C.keeps I.bk) hPs ht hf hb λctv h' tk hk hsz=>?_
   have hk2:∀a o,s.heap.get? a=some o->(h'.push {cls:=.type "function",data:=.func (kla_fn "<lambda>" (X.env.qual++"<lambda>") as b sc clos ((X.mg "__name__").getD .none) (.ref cc) ctv)}).get? a=some o:=λa o e=>gP (hk a o e)
   exact h _ cc ctv _ H (I.kept hk2) (λa=>⟨λ_ e=>e,λ_ _ e=>e⟩) (Ext.refl H) tb hcc (Heap.get?_push_size _ rfl) hsz (I.Aq.fresh hsz) λa o e _=>hk2 a o e
 |none=>
   refine PySem.W.kla_makeFunction Cw I.ok.glob hg hcode (C.keeps I.bk) hPs ht hf hgP hb λc' ctv h' tk hx hge hlt hrec htb=>?_
   obtain⟨c2,oc,vs,t,e2,hoc,hd,hv⟩:=hrec;cases e2;have hk2:∀a o,a≠P->s.heap.get? a=some o->(h'.push (PySem.W.kla_obj "<lambda>" (X.env.qual++"<lambda>") as b sc clos ((X.mg "__name__").getD .none) c' ctv)).get? a=some o:=λa o n e=>gP (hx a o n e)
   obtain⟨g1,g2,g3⟩:=Rr (c:=c') (oc:=oc) (tk:=tk) I hP hge hk2 (gP hoc) (gP htb);have hPc:P≠c':=λz=>by rw[z,I.Aq.fresh hge]at hP;cases hP
   have hszc:s.heap.objs.size<=h'.objs.size:=Nat.le_trans hge (Nat.le_of_lt hlt);have hcdn:ME (grown H P c' oc (ps++ #[rawInt lp.line,rawInt lp.col,Value.ref c'])) (c',X.env.qual++"<lambda>"):=⟨oc,Wy,vs,t,by unfold grown;rw[Ac hPc.symm];exact Ag,hd,hv⟩;refine h _ c' ctv _ _ g1 g2 g3 ⟨λq hq2=>?_,λq hq2=>(tb.2 q hq2).keep g2⟩ hcdn (Heap.get?_push_size _ rfl) hszc ?_ λa o e n=>hk2 a o (λz=>by rw[z,hP]at n;cases n) e
   .by_cases hqP:q.1=P
    .have eq:q=(P,lp,X.env.qual++"<lambda>"):=Ii hnd hq2 hq hqP;subst eq;have el:(ps++ #[rawInt lp.line,rawInt lp.col,Value.ref c']).toList=ps.toList++[rawInt lp.line,rawInt lp.col,Value.ref c']:=by simp
     refine⟨_,Ag,by rw[el];exact TriplesOk_snoc _ _ _ _ ht,λcv e=>?_⟩;rw[el]at e;have e:codeAmong lp (ps.toList++[rawInt lp.line,rawInt lp.col,Value.ref c'])=some cv:=e;rw[codeAmong_snoc _ ht hf]at e;cases e;exact⟨c',rfl,hcdn⟩
    .obtain⟨qs,k1,k2,k3⟩:=tb.1 q hq2;refine⟨qs,?_,k2,λcv e=>?_⟩
     .unfold grown;rw[Ac hqP,Ac λz=>by rw[z,I.Aq.fresh hge]at k1;cases k1];exact k1
     .obtain⟨d,j1,j2⟩:=k3 cv e;exact⟨d,j1,j2.keep g2⟩
   .unfold grown;rw[Ac λz=>?_,Ac (Nat.ne_of_gt hlt)]
    .exact I.Aq.fresh hszc
    .have:=I.Aq.lt hP;rw[<-z]at this;exact absurd (Nat.lt_of_lt_of_le this hszc) (Nat.lt_irrefl _)
end
def baseOf(B h:Heap)(L:List Addr):Heap:=hideAll h ((List.range h.objs.size).filter λb=>(B.get? b).isNone && !L.contains b)
variable{h:Heap}
theorem HD{B:Heap}(k:∀b o,B.get? b=some o->h.get? b=some o){b:Addr}{o:Obj}(e:B.get? b=some o):(baseOf B h L).get? b=some o:=
 hideAll_get _ (k b o e) λhm=>by
  have:=(mem_filter.mp hm).2;rw[e]at this;simp at this
theorem FU{B:Heap}{L:List Addr}{b:Addr}{o:Obj}(hb:b∈L)(e:h.get? b=some o):(baseOf B h L).get? b=some o:=
 hideAll_get _ e λhm=>by
  have:=(mem_filter.mp hm).2;simp[hb]at this
theorem II{B:Heap}{o:Obj}(e:(baseOf B h L).get? b=some o):h.get? b=some o/\((∃o',B.get? b=some o')\/b∈L):=by
 have e':h.get? b=some o:=of_hideAll _ e;refine⟨e',?_⟩
 by_cases hb:b∈L
 .exact .inr hb
 .cases q:B.get? b with
  |some o'=>exact .inl ⟨o',rfl⟩
  |none=>
    have hm:b∈(List.range h.objs.size).filter λb=>(B.get? b).isNone && !L.contains b:=mem_filter.mpr ⟨mem_range.mpr (Heap.lt_size e'),by simp[q,hb]⟩
    have z:(baseOf B h L).get? b=none:=hideAll_none _ hm;rw[z]at e;cases e
section
variable{X:Cx}{pins:Oa}{s:Shared}
theorem G6{h B B':Heap}:∀{l:List PySem.Env},h.FunFrames B l->(∀b∈CA l,B.get? b=none->B'.get? b=none)->h.FunFrames B' l
 |[],_,_=>trivial
 |env::l,⟨hk,⟨L,o,hf,hn,ho,hd⟩,hr⟩,k=>⟨hk,⟨L,o,hf,k L (by unfold CA;rw[filterMap_cons,hf];exact mS) hn,ho,hd⟩,G6 hr λb hb=>k b (by
     unfold CA at hb ⊢;rw[filterMap_cons,hf]
     exact mC hb)⟩
theorem OR{L:List Addr}(I:Inv X pins σ H s)(hL:∀b∈L,∃o,s.heap.get? b=some o/\H b=none)(hF:∀b∈L,b∉CA X.stack):JQ X.prog X.w X.K X.mg (baseOf X.base s.heap L) X.A X.stack s H:=by
 have k:∀b o,X.base.get? b=some o->(baseOf X.base s.heap L).get? b=some o:=λb o e=>HD I.bk e
 have m:=I.mod;refine⟨I.ok.frames,⟨m.Dn.keeps k,m.glob.keeps k,let⟨mb,h1,h2⟩:=m.blt;⟨mb,h1.keeps k,h2⟩,m.nolimit.keeps k⟩,λb o e=>?_,Nat.le_of_eq (hideAll_size _ _),G6 I.stack λb hb n=>?_,I.DY,I.Aq,I.bare⟩
 .obtain⟨e1,e2⟩:=II e;rcases e2 with⟨o',e2⟩|e2
  .exact⟨e1,(I.bs b o' e2).2⟩
  .obtain⟨o',q1,q2⟩:=hL b e2;exact⟨e1,q2⟩
 .cases q:(baseOf X.base s.heap L).get? b with
  |none=>rfl
  |some o=>
    rcases(II q).2 with⟨o',e2⟩|e2
    .rw[n]at e2;cases e2
    .exact absurd hb (hF b e2)
end
noncomputable def HA(P:Program)(w:World)(K:Frag)(mg:Str->Option Value)(base:Heap)(N:List Str)(qual:Str)(scope:Scope)(f:Addr)(cd:Value)(cl:List (Str×Addr))(A:Around)(outer:List PySem.Env)(s:Shared)(H:Hp)(E:XK):Cx where
 prog:=P
 w:=w
 K:=K
 mg:=mg
 base:=base
 A:=A.deeper (envX qual scope s.heap.objs.size f cd cl)
 N:=N
 s₀:=s
 H₀:=H
 env:=envX qual scope s.heap.objs.size f cd cl
 outer:=outer
 stack:=envX qual scope s.heap.objs.size f cd cl::outer
 ex:=[]
 calm:=true
 fn:=λ_=>false
 pn:=[]
 xe:=λe s'=>wpAny (model P w) (A.deeper (envX qual scope s.heap.objs.size f cd cl)) (leaving (envX qual scope s.heap.objs.size f cd cl) e) (λ_ s''=>Xc.Gj P w outer H s E e s'') (λe' s''=>Xc.Gj P w outer H s E e' s'') s'
structure SG(y:Str)(fr:List Str)(sc:Scope)(cl:List (Str×Addr)):Prop where
 kind:sc.kind= .function
 co:sc.isCoroutine=false
 gen:sc.isGenerator=false
 D1:∀x∈sc.names,x.2≠.cell
 loc:sc.names.lookup y=some .local
 only:∀x,sc.names.lookup x=some .local->x=y
 nd:(y::fr).Nodup
 inj:∀x y c,cl.lookup x=some c->cl.lookup y=some c->x=y
 has:∀x,sc.names.lookup x=some .free->∃c,cl.lookup x=some c
section
variable{P:Program}{w:World}{K:Frag}{mg:Str->Option Value}{base:Heap}
theorem DN{k:NameKind}:∀{l:List (Str×NameKind)},l.lookup x=some k->∃y∈l,y.2=k
 |[],h=>by simp at h
 | (y,j)::l,h=>by
   rw[lookup_cons]at h;cases hb:x == y with
   |true=>rw[hb]at h;cases h;exact⟨_,mS,rfl⟩
   |false=>rw[hb]at h;obtain⟨z,h1,h2⟩:=DN h;exact⟨z,mC h1,h2⟩
variable{qual:Str}{sc:Scope}{A:Around}{H:Hp}{vs:List V}
theorem UZ{fr:List Str}{cd:Value}{cl:List (Str×Addr)}{outer:List PySem.Env}{s:Shared}{E:XK}{h':Heap}{tk:Nat}(S:SG y fr sc cl)(hd:A.handled=none)(e0:JQ P w K mg base A outer s H)
 (hcell:∀x c,cl.lookup x=some c->∃u,base.IsCell c (some u))(hvs:vs.length=fr.length)(hv:∀(i:Nat) (x:Str) (v:V),fr[i]? =some x->vs[i]? =some v->∃c u,cl.lookup x=some c/\base.IsCell c (some u)/\RelV v u)(r0:RelV v0 u0)
 (hns:h'.Ns s.heap.objs.size λx=>[(y,u0)].lookup x)(hsb:∀b o,s.heap.get? b=some o->h'.get? b=some o):
 Inv (HA P w K mg base (y::fr) qual sc f cd cl A outer s H E) [] ((v0::vs).map some) H {s with heap:=h',toks:=tk}:=by
 have bk:∀b o,base.get? b=some o->h'.get? b=some o:=λb o e=>hsb b o (e0.bs b o e).1
 have cellk:∀{c:Addr} {u:Value},base.IsCell c (some u)->h'.IsCell c (some u):=λ{c u} ⟨o,ho,hd⟩=>⟨o,bk _ _ ho,hd⟩
 have cellf:∀{c:Addr} {u:Value},base.IsCell c (some u)->H c=none:=λ{c u} ⟨o,ho,_⟩=>(e0.bs _ _ ho).2
 refine⟨⟨e0.mod,S.kind,rfl,rfl,lR,S.inj,λx hx=>?_,λx c hx=>(by cases hx),λ_=>hd,?_,.inr ⟨rfl,rfl⟩,λb hb=>(by cases hb),e0.bs,e0.SV,λb o e hb=>(by cases hb),λb hb=>(by cases hb),e0.EV,e0.Wu⟩,rfl,e0.bare,Un.kept hsb,⟨_,hns,λi x v e1 e2 e3=>?_⟩,λx c e=>?_,e0.Aq.fresh (lR),λx c e=>?_,λp hp=>(by cases hp),e0.Aq.kept hsb,by simp[HA,hvs]⟩
 .rcases hx with hx|hx
  .obtain⟨y,h1,h2⟩:=DN (show sc.names.lookup x=some .cell from hx);exact absurd h2 (S.D1 y h1)
  .exact S.has x hx
 .have:=e0.frames
  first|exact congrArg _ (by rfl)|(simp[HA,Around.deeper,this])
 .have e1:(y::fr)[i]? =some x:=e1;cases i with
  |zero=>
    cases e1;cases e2;exact⟨u0,r0,.inl ⟨S.loc,by simp⟩⟩
  |succ i=>
    have e1:fr[i]? =some x:=e1;have e2:(vs.map some)[i]? =some (some v):=e2;rw[List.getElem?_map]at e2;obtain⟨v',h1,h2⟩:=oM e2;cases h2;obtain⟨c,u,q1,q2,q3⟩:=hv i x v e1 h1;refine⟨u,q3,.inr ⟨?_,c,q1,cellk q2⟩⟩;rcases e3 with z|z|z
    .exact absurd (mem_of_getElem? e1) (by rw[S.only x z];exact(nodup_cons.mp S.nd).1)
    .obtain⟨y,h1,h2⟩:=DN z;exact absurd h2 (S.D1 y h1)
    .exact .inr z
 .obtain⟨u,q⟩:=hcell x c e;exact⟨some u,cellk q⟩
 .obtain⟨u,q⟩:=hcell x c e;exact cellf q
theorem UQ{k:Nat}{fr:List Str}{as:Arguments}{clos:List (Str×Addr)}{pm cv ctv:Value}{u0:Value}{outer:List PySem.Env}{s:Shared}{Q:VK}{E:XK}{t:TE}
 (e0:JQ P w K mg base A outer s H)(hr:Cm (k+1) A)(S:SG y fr sc clos)(ho:base.get? c0=some {cls:=.type "function",data:=.func (kla_fn "<lambda>" qual as b sc clos pm cv ctv)})(hcd':s.heap.CodeRec cv qual)
 (hbind:bindArgs (kla_fn "<lambda>" qual as b sc clos pm cv ctv) ⟨[u0],[]⟩=pure [(y,u0)])(hcell:∀x c,clos.lookup x=some c->∃u,base.IsCell c (some u))(hvs:vs.length=fr.length)(hv:∀(i:Nat) (x:Str) (v:V),fr[i]? =some x->vs[i]? =some v->∃c u,clos.lookup x=some c/\base.IsCell c (some u)/\RelV v u)(r0:RelV v0 u0)
 (hpe:PE (HA P w K mg base (y::fr) qual sc c0 cv clos A outer s H E) b t)(hq:t ((v0::vs).map some) H Q):codeAny (model P w) A (.call (.ref c0) ⟨[u0],[]⟩) (L2.CR (Xc.Gj P w) outer P w H s Q E) s:=by
 have lim:s.heap.NoLimit:=e0.mod.nolimit.keeps λb o e=>(e0.bs b o e).1
 refine PySem.W.kla_callFunE hr.depth (e0.bs _ _ ho).1 rfl S.co S.gen rfl hcd' ?_;rw[hbind];refine wP (wpAny_newFunctionEnv S.D1 (λx hx=>by rw[mE hx];exact S.loc) (λh₁ hns hsb=>?_) S.kind);have hk:∀b o,s.heap.get? b=some o->h₁.get? b=some o:=λb o e=>hsb.extBut b o (Nat.ne_of_lt (Heap.lt_size e)) (gP e)
 refine⟨lim.keeps hk,?_⟩;show codeAny _ _ (.expr b (envX qual sc s.heap.objs.size c0 cv clos)) _ _;have I:=UZ (E:=E) (qual:=qual) (f:=c0) (cd:=cv) (tk:=s.toks+1) S hr.hd e0 hcell hvs hv r0 hns hk;refine PySem.W.kla_codeExpr (wpAny_mono (hpe [] _ _ H Q I hq) (λv s' ⟨y,H',J,r,q⟩=>?_) λe s' z=>z);exact⟨y,H',J.os,J.bare,J.base,J.Aq,r,q⟩
end
structure VD(W W':Wd):Prop where
 K:W.K=W'.K
 w:W.w=W'.w
 CD:W.CD=W'.CD
 tabs:W.tabs=W'.tabs
 xh:W.xh=W'.xh
 OX:∀q∈W.OX,q∈W'.OX
 fa:∀n c a,W.fa n c a->W'.fa n c a
def Fi(ct:Ct)(LT:Nat->Nat->T->Prop)(W:Wd)(base:Heap)(l:Nat)(caps:List Nv.P)(a:Addr):Prop:=
 ∃ (qual y:Str) (fr:List Str) (as:Arguments) (b:Expr) (sc:Scope) (clos:List (Str×Addr)) (pm ctv:Value) (cc:Addr) (t:T) (is:List Int),
   base.get? a=some {cls:=.type "function",data:=.func (kla_fn "<lambda>" qual as b sc clos pm (.ref cc) ctv)}/\(cc,qual)∈W.OX/\SG y fr sc clos/\OG as sc=y::fr/\
   (∀u0,bindArgs (kla_fn "<lambda>" qual as b sc clos pm (.ref cc) ctv) ⟨[u0],[]⟩=pure [(y,u0)])/\(∀x c,clos.lookup x=some c->∃u,base.IsCell c (some u))/\caps=is.map .int/\is.length=fr.length/\
   (∀(i:Nat) (x:Str) (n:Int),fr[i]? =some x->is[i]? =some n->∃c u,clos.lookup x=some c/\base.IsCell c (some u)/\RelV (.int n) u)/\kE (ct.lam as sc) b=some t/\LT l (y::fr).length t
structure di(X:Cx)(W:Wd)(cf:CF)(k:Nat)(ct:Ct)(LT:Nat->Nat->T->Prop)(lp:Pos):Prop where
 code:∃c P,X.env.code= .ref c/\codeHdIn X.K c P=true/\X.base.BuiltinsAt X.mg P/\mainGlobals≠P/\(P,lp,X.env.qual++"<lambda>")∈W.tabs
 nd:(W.tabs.map (·.1)).Nodup
 run:∀(W':Wd) (base':Heap),VD W W'->(∀b o,X.base.get? b=some o->base'.get? b=some o)->(∀n c a,W'.fa n c a->W.fa n c a\/Fi ct LT W' base' n c a)->∀f a,W.fa f [] a->ZG X.prog X.w X.K X.mg base' W' cf k f [] a
variable{X:Cx}{cf:CF}
theorem AI.conv{W':Wd}{own bor:Addr->Prop}(hK:W'.K=W.K)(hw:W'.w=W.w)(hx:W'.xa=W.xa/\(W'.xh=W.xh/\W'.xn=W.xn)/\W'.xv=W.xv)(hf:∀i c a,W.fa i c a->W'.fa i c a){c:C}(h:AI W H own bor c v):AI W' H own bor c v:=by
 have cv:∀{p:Nv.P} {v:V},Af W H p v->Af W' H p v:=λz=>Af.conv hK hf (AS.refl H) z
 cases c with
 |p x=>exact cv h
 |exc x p=>exact⟨by rw[hx.1];exact h.1,by rw[hx.2.1.1,hx.2.1.2];exact h.2.1,by rw[hx.2.2];exact cv h.2.2⟩
 |lst o ps=>obtain⟨a,vs,e,h1,h2⟩:=h;exact⟨a,vs,e,by rw[hK];exact h1,Paired.Kp h2 λ_ _ z=>cv z⟩
 |BC o kvs=>
   obtain⟨a,es,e,h1,h2⟩:=h;exact⟨a,es,e,by rw[hK];exact h1,Paired.Kp h2.pr λ_ _ z=>⟨by rw[hw];exact z.1,let⟨v,a,b⟩:=z.2.1;⟨v,a,cv b⟩,let⟨v,a,b⟩:=z.2.2;⟨v,a,cv b⟩⟩,h2.nd,h2.ks,h2.len,h2.sm⟩
theorem Vo{σ:L2.St}{s:Shared}{i:Nat}{x:Str}(I:Inv X pins σ H s)(hN:X.N[i]? =some x)(hs:σ[i]? =some (some v))(hk:X.env.scope.names.lookup x=some .cell\/X.env.scope.names.lookup x=some .free):
 ∃c u,X.env.cells.lookup x=some c/\s.heap.IsCell c (some u)/\RelV v u:=by
 obtain⟨mm,_,hl⟩:=I.loc;obtain⟨u,r,lk⟩:=hl i x v hN hs (hk.elim (λz=>.inr (.inl z)) λz=>.inr (.inr z));rcases lk with⟨z,_⟩|⟨_,c,h1,h2⟩
 .have z:X.env.scope.names.lookup x=some .local:=z;rcases hk with y|y
  .rw[z]at y;cases y
  .rw[z]at y;cases y
 .exact⟨c,u,h1,h2,r⟩
theorem FQ{cells:List (Str×Addr)}{c:Addr}:∀(l:List (Str×NameKind)) (cs:List (Str×Addr)),(HB cells l cs).lookup x=some c->(∃y∈l,y.1=x/\y.2= .free)\/cs.lookup x=some c
 |[],cs,e=>.inr e
 | (n, k)::r,cs,e=>by
   unfold HB at e
   by_cases hk:(k == NameKind.free)=true
   .rw[iP hk]at e;rcases FQ r _ e with⟨y,h1,h2⟩|h
    .exact .inl ⟨y,mC h1,h2⟩
    .rw[lookup_cons]at h;cases hx:x == n with
     |true=>exact .inl ⟨(n,k),mS,(eq_of_beq hx).symm,eq_of_beq hk⟩
     |false=>rw[hx]at h;exact .inr h
   .rw[iN hk]at e;rcases FQ r _ e with⟨y,h1,h2⟩|h
    .exact .inl ⟨y,mC h1,h2⟩
    .exact .inr h
structure WD(X:Cx)(sc:Scope)(as:Arguments)(y:Str)(fr:List Str)(G9:List Nat):Prop where
 kind:sc.kind= .function
 co:sc.isCoroutine=false
 gen:sc.isGenerator=false
 D1:∀z∈sc.names,z.2≠.cell
 own:∀z∈sc.names,z.2= .local->z.1=y
 loc:sc.names.lookup y=some .local
 YT:∀z∈sc.names,z.2= .free->z.1∈fr/\(X.env.scope.names.lookup z.1=some .cell\/X.env.scope.names.lookup z.1=some .free)
 all:∀x∈fr,sc.names.lookup x=some .free
 nd:(y::fr).Nodup
 n:OG as sc=y::fr
 k9:defaultsOf as X.env=([],[])
 bind:∀b clos pm cc ctv u0,bindArgs (kla_fn "<lambda>" (X.env.qual++"<lambda>") as b sc clos pm cc ctv) ⟨[u0],[]⟩=pure [(y,u0)]
 G9:Paired (λx i=>X.N[i]? =some x) fr G9
theorem NK :∀{G9:List Nat} {ps:List Nv.P},OY ρ G9=some ps->∃is:List Int,ps=is.map .int/\Paired (λi (n:Int)=>Ap ρ i=some (.p (.int n))) G9 is
 |[],_,h=>by cases h;exact⟨[],rfl,.nil⟩
 | i ::G9,ps,h=>by
   obtain⟨n,h1,h⟩:=Ae h;obtain⟨qs,h2,rfl⟩:=Bg h;obtain⟨c,e1,e2⟩:=Ae h1;obtain⟨is,rfl,hp⟩:=NK h2
   have:c= .p (.int n):=by
    cases c with
    |p y=>cases y<;>cases e2;rfl
    |_=>cases e2
   exact⟨n::is,rfl,.cons (this▸e1) hp⟩
variable{ct:Ct}{G9:List Nat}{sc:Scope}{pos:Pos}
theorem O9(hK:W.K=X.K){k:Nat}(hr:Cm k X.A){LT:Nat->Nat->T->Prop}{f l:Nat}{fr:List Str}{te tb:T}{as:Arguments}{lp:Pos}
 (hg:Gl X x)(hm:X.mg x=some (.ref a))(hdb:ng x)(hfa:W.fa f [] a)(h1:Bt X W EX cf e te)(F:di X W cf k ct LT lp)(S:WD X sc as y fr G9)(hfn:∀x,X.fn x=true)(ht:kE (ct.lam as sc) b=some tb)(hLT:LT l (y::fr).length tb):
 Bt X W EX cf (.Call (.Name x p) [e,.Lambda as b sc lp] [] pos) (.L6 f te l G9):=by
 refine Bt.of hK (λpins s σ H Q I z=>?_) rfl;obtain⟨ρ,B,R,hA⟩:=z;have hF0:=F.run W X.base ⟨rfl,rfl,rfl,rfl,rfl,λ_ z=>z,λ_ _ _ z=>z⟩ (λ_ _ z=>z) (λ_ _ _ z=>.inl z) f a hfa;obtain⟨o,fd,q1,q2⟩:=hF0.1;obtain⟨cc0,Pt,hcode,hhd,hblt,hgP,hq⟩:=F.code;refine wpAny_Call_Name_kw (ES I hg hm ?_ hdb);refine Calls.callWith_function (o:=o) (fd:=fd) ?_;rw[A9 h1.st,A9 rfl];refine Calls.evalArgs_plain (Calls.spliced_cons (thn (h1.v pins s σ H (λv H1=>∃c,Ext H H1/\BX W H1/\rV W B H H1 c v/\Di W EX (rV W) B H σ ((Res.of (OY ρ G9)).bind λps=>(cf f [c,.p (.fn l ps)]).ne.bind λc=>(Res.of c.Fj).bind λb=>.ok (.p (.bl b))) Q) I ⟨ρ,B,R,hA.HY (Ext.refl H) λc v H1 e1 t1 r1 h1=>⟨c,e1,t1,r1,h1⟩⟩) λu s1 ⟨v,H1,I1,r1,c,e1,t1,rc,hA1⟩=>?_));obtain⟨ps,eps,hA1⟩:=hA1.C2;obtain⟨is,rfl,his⟩:=NK eps;have hfree:∀z∈sc.names,z.2= .free->∃c,X.env.cells.lookup z.1=some c:=λz hz ez=>I1.ok.has z.1 (S.YT z hz ez).2
 show wpAny _ _ (spliced ((false,eval (.Lambda as b sc lp) X.env)::backTo pos (starEach [] X.env))) _ _ s1;refine Calls.spliced_cons (QW (clos:=HB X.env.cells sc.names []) I1 t1 F.nd hq S.k9 (CN hfree) hcode (codeHd_of_K I1.ok.mod.Dn hhd) hblt hgP λc0 cc ctv s2 H2 I2 kp e2 tb2 cd ho hc0 hc0n hold=>Calls.spliced_nil ⟨⟨I2.bk _ _ q1,q2⟩,?_⟩)
 let W':Wd:={W with fa:=λn c d=>W.fa n c d\/(n=l/\c=is.map .int/\d=c0),OX:=(cc,X.env.qual++"<lambda>")::W.OX}
 have hfa':∀n c d,W.fa n c d->W'.fa n c d:=λn c d z=>.inl z
 have hst:VD W W':=⟨rfl,rfl,rfl,rfl,rfl,λ_ z=>mC z,hfa'⟩
 let L:List Addr:=c0::fr.filterMap λx=>X.env.cells.lookup x
 have hLm:∀x c,x∈fr->X.env.cells.lookup x=some c->c∈L:=λx c h1 h2=>mC (mem_filterMap.mpr ⟨x,h1,h2⟩)
 have e0 :JQ X.prog X.w X.K X.mg (baseOf X.base s2.heap L) X.A X.stack s2 H2:=by
  refine OR I2 (λb hb=>?_) λb hb hbf=>?_
  .rcases mK hb with z|z
   .rw[z];exact⟨_,ho,hc0n⟩
   .obtain⟨x,h1,h2⟩:=mem_filterMap.mp z;obtain⟨v,o,h3,_⟩:=I2.cell x b h2;exact⟨o,h3,I2.CS x b h2⟩
  .rcases mK (I2.GP b hbf)with y|y
   .rcases mK hb with z|z
    .have:=I1.lt;rw[<-y,z]at this;exact absurd this (Nat.not_lt.mpr hc0)
    .obtain⟨x,h1,h2⟩:=mem_filterMap.mp z;exact I2.SU x b h2 y
   .rcases mK hb with z|z
    .exact I1.Yl hc0 (z▸y)
    .obtain⟨x,h1,h2⟩:=mem_filterMap.mp z;obtain⟨_,o,ho,_⟩:=I2.ok.EV.mem y;exact absurd (Heap.lt_size ho) (Nat.not_lt.mpr (I2.ok.Zh x b (hfn x) h2))
 have clo_in:∀y c,(HB X.env.cells sc.names []).lookup y=some c->X.env.cells.lookup y=some c/\y∈fr:=λy c e=>by
  refine⟨EZ sc.names [] hfree (λ_ _ z=>by cases z) e,?_⟩;rcases FQ sc.names [] e with⟨z,h1,h2,h3⟩|h
  .rw[<-h2];exact(S.YT z h1 h3).1
  .cases h
 have clo_at:∀y c,y∈fr->X.env.cells.lookup y=some c->(HB X.env.cells sc.names []).lookup y=some c:=λy c h e=>by
  obtain⟨d,hd⟩:=Ed (cells:=X.env.cells) (x:=y) sc.names [] (.inl ⟨(y,.free),PySem.mem_of_lookup (S.all y h),rfl,rfl⟩);rw[(clo_in y d hd).1]at e;cases e;exact hd
 have R2:=(R.ext e1 t1).ext e2 tb2
 have hcap:∀(i:Nat) (x:Str) (n:Int),fr[i]? =some x->is[i]? =some n->∃c u,X.env.cells.lookup x=some c/\s2.heap.IsCell c (some u)/\RelV (.int n) u:=λi x n ex en=>by
  obtain⟨j,ej,hj⟩:=Pd.get S.G9 ex;obtain⟨n',en',hn'⟩:=Pd.get his ej;rw[en]at en';cases en';obtain⟨v,q3,q4⟩:=R2.get j _ hn';cases Ba q4;have hx:=(S.YT (x,.free) (PySem.mem_of_lookup (S.all x (mem_of_getElem? ex))) rfl).2;exact Vo I2 hj q3 hx
 have hlen:is.length=fr.length:=by rw[<-Paired.length his,Paired.length S.G9]
 have hclo:Fi ct LT W' (baseOf X.base s2.heap L) l (is.map .int) c0:=by
  refine⟨X.env.qual++"<lambda>",y,fr,as,b,sc,HB X.env.cells sc.names [],(X.mg "__name__").getD .none,ctv,cc,tb,is,FU mS ho,mS,⟨S.kind,S.co,S.gen,S.D1,S.loc,λx ex=>S.own _ (PySem.mem_of_lookup ex) rfl,S.nd,λy z c h1 h2=>I2.ok.inj y z c (clo_in y c h1).1 (clo_in z c h2).1,λy e=>Ed sc.names [] (.inl ⟨(y,.free),PySem.mem_of_lookup e,rfl,rfl⟩)⟩,S.n,λu0=>S.bind _ _ _ _ _ u0,λy c e=>?_,rfl,hlen,λi x n ex en=>?_,ht,hLT⟩
  .obtain⟨h1,h2⟩:=clo_in y c e;obtain⟨j,hj⟩:=List.mem_iff_getElem?.mp h2;have hjl:j < fr.length:=(List.getElem?_eq_some_iff.mp hj).1;obtain⟨c',u,g1,⟨o',g2,g3⟩,_⟩:=hcap j y _ hj (List.getElem?_eq_getElem (by rw[hlen];exact hjl));rw[h1]at g1;cases g1;exact⟨u,o',FU (hLm y c h2 h1) g2,g3⟩
  .obtain⟨c',u,g1,⟨o',g2,g3⟩,g4⟩:=hcap i x n ex en;have hx:=mem_of_getElem? ex;exact⟨c',u,clo_at x c' hx g1,⟨o',FU (hLm x c' hx g1) g2,g3⟩,g4⟩
 have F1:=F.run W' (baseOf X.base s2.heap L) hst (λb o e=>HD I2.bk e) (λn c d z=>z.imp id λ⟨h1,h2,h3⟩=>by subst h1 h2 h3;exact hclo) f a hfa
 have tbW:BX W' H2:=⟨tb2.1,λr hr=>by
  rcases mK hr with z|z
  .rw[z];exact cd
  .exact tb2.2 r z⟩
 have eH:=e1.trans e2;refine wpAny_call (codeAny_mono (F1.2 X.A X.stack s2 H2 [u,.ref c0] [v,.ref c0] Q (λ_ _ _=>False) hr e0 (.cons r1 (.cons rfl .nil)) ⟨[c,.p (.fn l (is.map .int))],λ_=>0,λd=>H d=none,⟨v,_,rfl,?_,.ref c0,[],rfl,?_,rfl⟩,tbW,?_⟩) λr s' hq=>?_)
 .refine AI.conv (W:=W) (W':=W') rfl rfl ⟨rfl,⟨rfl,rfl⟩,rfl⟩ hfa' (AI.ext rc e2 (λd z=>⟨z,rfl⟩) λd z=>?_);obtain⟨w0,z⟩:=R.HI d z;exact⟨Gm z,eH.there d w0 z⟩
 .exact(Gp (W:=W') (H:=H2)).mpr ⟨c0,.inr ⟨rfl,rfl,rfl⟩,rfl⟩
 .simp only[map_nil,append_nil];cases er:cf f [c,.p (.fn l (is.map .int))]with
  |stuck=>rw[er]at hA1;exact hA1
  |err x p=>rw[er]at hA1;exact hA1.elim
  |ok d=>
    rw[er]at hA1;replace hA1:Di W EX (rV W) B H σ ((Res.of d.Fj).bind λb=>.ok (.p (.bl b))) Q:=hA1;obtain⟨kb,ekb,hA2⟩:=hA1.C2;clear hA1;cases Fc ekb;intro w0 H3 r3;have e3:Ext H H3:=⟨λb x q n=>r3.2.2.1 b x (eH.but b x q n) (Gm q) n,λb x q=>let⟨y,q⟩:=eH.there b x q;r3.2.2.2.1 b y q⟩;cases (Dj (W:=W') (H:=H3)).mp r3.1;exact hA2 (.bl kb) H3 e3 ⟨r3.2.1.1,λq hq=>r3.2.1.2 q (mC hq)⟩ K9
 .cases r with
  |error e=>obtain⟨_,_,_,_,_,_,_,_,_,_,_,_,_,_,_,_,z⟩:=hq;exact z.elim
  |ok fl=>
    cases fl with
    |ret u=>exact I2.after hq
    |next=>exact False.elim hq
    |brk=>exact False.elim hq
    |cont=>exact False.elim hq
structure cZ(a b:Scope):Prop where
 loc:∀x,a.names.lookup x=some .local->b.names.lookup x=some .local
 dO:∀x,a.names.lookup x=some .cell->b.names.lookup x=some .cell
 YT:∀x,a.names.lookup x=some .free->b.names.lookup x=some .free\/b.names.lookup x=some .cell
 jX:∀x,a.names.lookup x=some .globalImplicit->b.names.lookup x=some .globalImplicit
theorem cZ.refl(a:Scope):cZ a a:=⟨λ_ h=>h,λ_ h=>h,λ_ h=>.inl h,λ_ h=>h⟩
theorem Cv{env:PySem.Env}:∀{names:List (Str×NameKind)} {x:Str},names.lookup x=some .globalImplicit->
 (names.map λ(n,k)=>if(k^^^n&&&env)then(n,NameKind.cell)else(n,k)).lookup x=some .globalImplicit
 |[],_,h=>by simp at h
 | (n,k)::r,x,h=>by
   have ih:=@Cv env r x;rw[map_cons];cases hx:x == n with
   |true=>
     simp only[lookup_cons,hx]at h;cases h;simp[lookup_cons,hx]
   |false=>
     simp only[lookup_cons,hx]at h;dsimp only;split
     .simp only[lookup_cons,hx];exact ih h
     .simp only[lookup_cons,hx];exact ih h
structure Hk(K:Frag)(C:Addr):Prop where
 ga:Xc.GA K C
 hd:hasDictIn K C=true
 pl:findIn K (.ref C) "place"=some none
 ca:findIn K (.ref C) "__class__"=some (some (.builtin "object.__class__"))
 cg:specialIn K (.builtin "object.__class__") "__get__"=some (some (.builtin "getset_descriptor.__get__"))
 ct:takesIn K (.builtin "object.__class__")=some true
 mo:mroIn K C (.type "object")=some true
 ve:kitOne K (.ref C) (.type "ValueError")=some true
structure j9(ct:Ct)(X:Cx)(W:Wd):Prop where
 st:X.stack=X.env::X.outer
 fr:X.env.frame=some X.env.locals
 hk:∀c∈ct.Cw,Hk X.K (W.CD c)
 bm:∀c∈ct.Cw,∃bm,(∀h:Heap,X.K.In h->Xc.Fh h (W.CD c) bm)/\∀x c',ct.cls.lookup x=some c'->(Value.ref (W.CD c)::bm).contains (.ref (W.CD c'))=(ct.Cr x).contains c/\((ct.Cr x).contains c=true->kitOne X.K (.ref (W.CD c)) (.ref (W.CD c'))=some true)
structure Br(ct:Ct)(X:Cx)(W:Wd)(EX:XP)(cf:CF)(k:Nat):Prop where
 K:W.K=X.K
 w:W.w=X.w
 N:X.N=ct.N
 nd:X.N.Nodup
 sc:cZ ct.sc X.env.scope
 fn:ct.df=true->∀x,X.fn x=true
 calm:X.calm=true
 room:Cm (k+1) X.A
 po:PassesOwn (model X.prog X.w) X.A X.env X.xe
 gl:∀x c,ct.gl.lookup x=some c->∃u v,X.mg x=some u/\RelV v u/\∀H own bor,AI W H own bor c.bor v
 own:∀x∈JK,ct.gl.lookup x=none->ct.fns.lookup x=none->ct.cls.lookup x=none->X.mg x=none
 fns:∀x f,ct.fns.lookup x=some f->∃a,X.mg x=some (.ref a)/\W.fa f [] a/\Fv X W cf k f [] a
 cls:∀x c,ct.cls.lookup x=some c->X.mg x=some (.ref (W.CD c))
 ex:∀x p σ H,EX x p σ H->T1 X W x p σ H
 fv:∀n caps a,W.fa n caps a->Fv X W cf k n caps a
 lam:∀lp l,ct.QV.lookup lp=some l->di X W cf k ct (λl n t=>ct.lt l n t=true) lp
 xk:∀c∈ct.Cw,∃f sf st fd,Xc.Xk X.K (W.CD c) f sf st fd
 cK:∀x c,ct.cls.lookup x=some c->∃bd,∀h:Heap,X.K.In h->Xc.Fh h (W.CD c) bd
 k3:3<=k
 xh:W.xh=false
 tr:ct.df=true->j9 ct X W
variable{ct:Ct}{k:Nat}
theorem Ho{l:List Str}{i:Nat}(h:l.idxOf? x=some i):l[i]? =some x:=by
 unfold List.idxOf? at h;obtain⟨h1,h2,_⟩:=List.findIdx?_eq_some_iff_getElem.mp h;rw[List.getElem?_eq_getElem h1];exact congrArg some (beq_iff_eq.mp h2)
theorem Cz(h:Ha x=true):ng x/\(x == ("__classdict__":Str))=false/\x≠"__name__":=by
 unfold Ha at h;rw[bA,bA]at h;exact⟨by simpa using h.1.1,by simpa using h.1.2,of_decide_eq_true h.2⟩
theorem Br.slot(L:Br ct X W EX cf k){i:Nat}(h:ct.slot x=some i):X.N[i]? =some x/\cV X.env.scope x/\ng x/\(x == ("__classdict__":Str))=false:=by
 unfold Ct.slot at h;split at h
 .rename_i hc;rw[bA]at hc;obtain⟨n1,n2,_⟩:=Cz hc.1;refine⟨by rw[L.N];exact Ho h,?_,n1,n2⟩;have hs:=hc.2;unfold seen at hs;split at hs
  .rename_i e;exact .inl (L.sc.loc x e)
  .rename_i e;exact .inr (.inl (L.sc.dO x e))
  .rename_i e;rcases L.sc.YT x e with z|z
   .exact .inr (.inr z)
   .exact .inr (.inl z)
  .cases hs
 .cases h
theorem Br.Bk(L:Br ct X W EX cf k){i:Nat}(h:ct.Bk x=some i):X.N[i]? =some x/\Loc X.env.scope x/\(X.fn x=true\/X.env.scope.names.lookup x=some .local):=by
 unfold Ct.Bk at h;split at h
 .rename_i hc;rw[bA]at hc;refine⟨by rw[L.N];exact Ho h,?_⟩;have hs:=hc.2;unfold bound at hs;split at hs
  .rename_i e;exact⟨.inl (L.sc.loc x e),.inr (L.sc.loc x e)⟩
  .rename_i e;exact⟨.inr (L.sc.dO x e),.inl (L.fn hs x)⟩
  .cases hs
 .cases h
theorem Br.glob(L:Br ct X W EX cf k)(h:ct.glob x=true):Gl X x/\ng x/\x≠"__name__":=by
 unfold Ct.glob at h;rw[bA]at h;obtain⟨n1,_,n3⟩:=Cz h.1;exact⟨L.sc.jX x (of_decide_eq_true h.2),n1,n3⟩
theorem Br.Gf(L:Br ct X W EX cf k)(h:ct.own x=true):Gl X x/\X.mg x=none/\ng x/\x≠"__name__":=by
 unfold Ct.own at h;simp only[bA]at h;obtain⟨⟨⟨⟨h1,h2⟩,h3⟩,h4⟩,h5⟩:=h;obtain⟨g1,g2,g3⟩:=L.glob h1;exact⟨g1,L.own x (by simpa using h2) (by simpa using h3) (by simpa using h4) (by simpa using h5),g2,g3⟩
theorem Br.un(L:Br ct X W EX cf k):X.A.units+200 < cLine:=by have:=L.room.un;lia
theorem Br.pv(L:Br ct X W EX cf k){i:Nat}(h:ct.slot x=some i):PE X (.Name x p) (IL i):=by
 obtain⟨h1,h2,h3,h4⟩:=L.slot h;exact Jb h1 h2 h3 h4
variable{fr:List (Option Nat)}
theorem Br.iX(L:Br ct X W EX cf k){N:List Str}(h:Sg ct.N ct.sc N sc fr=true):Dw X.N X.env.scope N sc fr:=by
 have h0:Mw ct.N ct.sc N sc fr=true:=h;have ok:=Dw.of h0;refine⟨ok.kind,ok.D1,ok.own,λy hy e=>?_,ok.len,by rw[L.N];exact ok.FI⟩;rcases ok.free y hy e with z|z
 .exact .inl (L.sc.dO _ z)
 .rcases L.sc.YT _ z with q|q
  .exact .inr q
  .exact .inl q
variable{α:Type}
theorem lookup_mem{l:List (Str×α)}{a:α}(h:l.lookup x=some a):(x,a)∈l:=PySem.mem_of_lookup h
theorem Br.block(L:Br ct X W EX cf k)(h:Sg ct.N ct.sc (ct.block sc).1.N sc (ct.block sc).2=true)(hn:(ct.block sc).1.N.Nodup)(C:Addr)(s:Shared)(H:Hp)(fp:List Addr):Br (ct.block sc).1 (AQ X (ct.block sc).1.N sc C s H fp) W NX cf k:=by
 have ok:=L.iX h;refine⟨L.K,L.w,rfl,hn,⟨λx e=>?_,λx e=>?_,λx e=>?_,λx e=>?_⟩,λz=>(by cases z),L.calm,L.room,PassesOwn.never,L.gl,L.own,L.fns,L.cls,λ_ _ _ _ z=>z.elim,L.fv,λlp q e=>(by cases e),L.xk,L.cK,L.k3,L.xh,λz=>(by cases z)⟩
 .exact lookup_relabel_local e
 .exact absurd rfl (ok.D1 _ (lookup_mem e))
 .exact BS e
 .exact Cv e
theorem Lj{es:List Expr}{env:PySem.Env}:assignEach (.Name x p::es) env=(false,assign (.Name x p) env)::assignEach es env:=rfl
theorem LL(L:Br ct X W EX cf k):∀{es:List Expr} {is:List Nat},Kx ct es=some is->ZU X es (ZR is)/\(assignEach es X.env).length=is.length/\(assignEach es X.env).findIdx? (·.1)=none/\∀i∈is,i < X.N.length
 | [],is,h=>by
   unfold Kx at h;cases h;exact⟨Ub,rfl,rfl,λi hi=>by cases hi⟩
 | e ::es,is,h=>by
   cases e with
   |Name x p=>
     obtain⟨i,h1,h2⟩:=Ae h;replace h1:ct.Bk x=some i:=h1;obtain⟨js,h3,rfl⟩:=oM h2;obtain⟨q1,q2,q3,q4⟩:=LL L h3;obtain⟨t1,t2,t3⟩:=L.Bk h1;refine⟨Qi (N4 L.nd t1 t2 t3) q1 rfl,by rw[Lj,lC,lC,q2],?_,λj hj=>?_⟩
     .rw[Lj,List.findIdx?_cons,q3];rfl
     .rcases mK hj with z|z
      .rw[z];exact(List.getElem?_eq_some_iff.mp t1).1
      .exact q4 j z
   |_=>obtain⟨i,h1,h2⟩:=Ae h;cases h1
theorem Qk(L:Br ct X W EX cf k){tg:Expr}{g:Tg}(h:ZN ct tg=some g):PG X tg (gT W g)/\∀i∈g.slots,i < X.N.length:=by
 cases tg with
 |Name x p=>
   unfold ZN at h;obtain⟨i,h1,rfl⟩:=oM h;obtain⟨t1,t2,t3⟩:=L.Bk h1;refine⟨N4 L.nd t1 t2 t3,λj hj=>?_⟩;rw[mE hj];exact(List.getElem?_eq_some_iff.mp t1).1
 |Tuple es n p=>
   unfold ZN at h;obtain⟨is,h1,rfl⟩:=oM h;obtain⟨q1,q2,q3,q4⟩:=LL L h1;refine⟨?_,q4⟩;show PG X (.Tuple es n p) (YR W.K is.length (ZR is));rw[L.K];exact Qj L.calm q1 q2 q3
 |_=>unfold ZN at h;cases h
structure SY(ct:Ct)(X:Cx)(W:Wd):Prop where
 bin:∀op g,fM op=some g->BA X (binaryOp op) (AY W g)
 cmp:∀op,BA X (compareOp op) (AY W (OH op))
 neg:HS X (unaryOp .USub) (BJ W (DD EM))
 ix:SI X (AY W A2)
 sl:ZC X (λx lo hi H Q=>∃c r,Ef W H c x/\K6 lo hi c=some r/\Cq W H r Q)
 jY:∀{x:Str} {g:C->Option C} {p pos:Pos} {e:Expr} {te:TE},ct.own x=true->dP x=some g->Al e=true->PE X e te->PE X (.Call (.Name x p) [e] [] pos) (λσ H Q=>te σ H λv H1=>BJ W g v H1 Q)
 jG:∀{x y:Str} {g:C->Option C} {p q pos pos':Pos} {e:Expr} {te:TE},special ct x (.Call (.Name y q) [e] [] pos')=some g->Al e=true->PE X e te->PE X (.Call (.Name x p) [.Call (.Name y q) [e] [] pos'] [] pos) (λσ H Q=>te σ H λv H1=>BJ W g v H1 Q)
 Dq:∀{x y:Str} {g:C->Option C} {p q pos:Pos} {e:Expr} {te:TE},ct.own x=true->x="isinstance"->UX ct (.Name y q)=some g->Al e=true->PE X e te->PE X (.Call (.Name x p) [e,.Name y q] [] pos) (λσ H Q=>te σ H λv H1=>BJ W g v H1 Q)
 g9:∀{ks:List (Option Expr)} {vs:List Expr} {pos:Pos},(ks.isEmpty && vs.isEmpty)=true->PE X (.Dict ks vs pos) (λσ H Q=>Cq W H (.BC true []) Q)
 jQ:∀{m:Str} {g:C->C->Option C} {o e:Expr} {to te:TE} {ap pos:Pos},(m="get"/\g=Mf)\/(m="index"/\g=D2)->LY 1 ap pos=true->(DE o).isSome=true->Al e=true->PE X o to->PE X e te->PE X (.Call (.Attribute o m ap) [e] [] pos) (λσ H Q=>to σ H λx H1=>(∃c y r,Ef W H1 c x/\g c y=some r)/\te σ H1 λy H2=>AY W g x y H2 Q)
 jm:∀{m:Str} {o:Expr} {to:TE} {ap pos:Pos},m="upper"->LY 0 ap pos=true->(DE o).isSome=true->PE X o to->PE X (.Call (.Attribute o m ap) [] [] pos) (λσ H Q=>to σ H λv H1=>BJ W GJ v H1 Q)
 jO:∀{o:Expr} {to:TE} {pos:Pos},(DE o).isSome=true->PE X o to->PE X (.Attribute o "place" pos) (λσ H Q=>to σ H λv H1=>BJ W EK v H1 Q)
 walk:∀{l tg:Expr} {tl:TE},PE X l tl->PI X tg l (wI W Ar tl)
 Xy:∀{x:Str} {p pos:Pos} {a tg:Expr} {ta:TE},ct.own x=true->x="range"->Al a=true->PE X a ta->PI X tg (.Call (.Name x p) [a] [] pos) (wI W AM ta)
 iU:∀{x:Str} {p pos:Pos} {a tg:Expr} {ta:TE},Dr tg=true->ct.own x=true->x="enumerate"->Al a=true->PE X a ta->PI X tg (.Call (.Name x p) [a] [] pos) (wI W Mo ta)
def Pk(W:Wd)(cf:CF)(k:Nat)(e:Expr):Prop:=∀{ct:Ct} {X:Cx} {EX:XP} {t:T},Br ct X W EX cf k->kE ct e=some t->Bt X W EX cf e t
theorem RW{op:CmpOp}{c:C}(h:OH op a b=some c):∃k,c=bC k:=by
 cases op with
 |Eq=>obtain⟨k,_,rfl⟩:=Bg h;exact⟨_,rfl⟩
 |NotEq=>obtain⟨k,_,rfl⟩:=Bg h;exact⟨_,rfl⟩
 |Lt=>obtain⟨_,_,h⟩:=Ae h;obtain⟨k,_,rfl⟩:=Bg h;exact⟨_,rfl⟩
 |Gt=>obtain⟨_,_,h⟩:=Ae h;obtain⟨k,_,rfl⟩:=Bg h;exact⟨_,rfl⟩
 |GtE=>obtain⟨_,_,h⟩:=Ae h;obtain⟨k,_,rfl⟩:=Bg h;exact⟨_,rfl⟩
 |LtE=>rcases or_some h with h|h<;>(obtain⟨_,_,h⟩:=Ae h;obtain⟨k,_,rfl⟩:=Bg h;exact⟨_,rfl⟩)
 |Is=>obtain⟨_,_,h⟩:=Ae h;obtain⟨_,rfl⟩:=A6 h;exact⟨_,rfl⟩
 |IsNot=>obtain⟨_,_,h⟩:=Ae h;obtain⟨_,rfl⟩:=A6 h;exact⟨_,rfl⟩
 |In=>obtain⟨k,_,rfl⟩:=Bg h;exact⟨_,rfl⟩
 |NotIn=>obtain⟨k,_,rfl⟩:=Bg h;exact⟨_,rfl⟩
theorem FG{es:List Expr}(ih:∀e∈es,Pk W cf k e)(L:Br ct X W EX cf k):∀{ts:List T},SQ ct es=some ts->HE X W EX cf es ts:=by
 induction es with
 |nil=>intro ts h;cases h;exact .nil
 |cons e es ihl=>
   intro ts h;obtain⟨t,h1,h2⟩:=Ae h;obtain⟨us,h3,rfl⟩:=Bg h2;exact .cons (ih e mS L h1) (ihl (λe he=>ih e (mC he)) h3)
theorem EF(hK:W.K=X.K){e:Expr}{g:C->Option C}(h:PE X e (λσ H Q=>tG W EX (rV W) (ev cf t) σ H λv H1=>BJ W g v H1 Q))(he:∀whole,isTrue e X.env whole=(do let v <-whole;standAt e.pos;holding [v] (truthy v)))(st:Al e=true)(nc:Ci e=false):Bt X W EX cf e (.Ai g t):=
 Bt.of hK (Au h λσ H Q z=>VQ z) rfl he st nc
theorem Fb:∀{t:T},t.calm=true->∀ρ x p,ev cf t ρ≠.err x p
 |.cst c,_,ρ,x,p,h=>by cases h
 | .var i,_,ρ,x,p,h=>by
   have h:Res.of ((Ap ρ i).map C.bor)= .err x p:=h;cases e:(Ap ρ i).map C.bor<;>rw[e]at h<;>cases h
 | .Ai f a,hc,ρ,x,p,h=>by
   have h:((ev cf a ρ).bind λx=>Res.of (f x))= .err x p:=h;cases e:ev cf a ρ with
   |stuck=>rw[e]at h;cases h
   |err y q=>exact Fb (t:=a) hc ρ y q e
   |ok c=>rw[e]at h;have h:Res.of (f c)= .err x p:=h;cases e2:f c<;>rw[e2]at h<;>cases h
 | .A1 f a b,hc,ρ,x,p,h=>by
   have hc:(a.calm && b.calm)=true:=hc;rw[bA]at hc;have h:((ev cf a ρ).bind λx=>(ev cf b ρ).bind λy=>Res.of (f x y))= .err x p:=h;cases e:ev cf a ρ with
   |stuck=>rw[e]at h;cases h
   |err y q=>exact Fb hc.1 ρ y q e
   |ok c=>
     rw[e]at h;cases e2:ev cf b ρ with
     |stuck=>rw[e2]at h;cases h
     |err y q=>exact Fb hc.2 ρ y q e2
     |ok d=>rw[e2]at h;have h:Res.of (f c d)= .err x p:=h;cases e3:f c d<;>rw[e3]at h<;>cases h
theorem aD{F G:Env->Res C}{g:C->C->Option C}{σ:L2.St}{Q:VK}(hG:∀ρ x p,G ρ≠.err x p)(h:tG W EX (rV W) (λρ=>(F ρ).bind λx=>(G ρ).bind λy=>Res.of (g x y)) σ H Q):
 tG W EX (rV W) F σ H λx H1=>(∃c y r,Ef W H1 c x/\g c y=some r)/\tG W EX (rV W) G σ H1 λy H2=>AY W g x y H2 Q:=by
 obtain⟨ρ,B,R,hA⟩:=h;refine⟨ρ,B,R,hA.step AB λc v H1 _ e1 t1 r1 h1=>⟨?_,ρ,B,R.ext e1 t1,h1.step AB λd u H2 _ e2 t2 r2 h2=>?_⟩⟩
 .cases e:G ρ with
  |stuck=>rw[e]at h1;exact h1.elim
  |err x p=>exact absurd e (hG ρ x p)
  |ok d=>
    rw[e]at h1;obtain⟨r,er,_⟩:=Di.of (o:=g c d) h1;exact⟨c,d,r,r1.rd,er⟩
 .obtain⟨r,er,h2⟩:=h2.of;exact⟨c,d,r,r1.rd.ext e2 (λ_ z=>z) λ_ z=>z,r2.rd,er,h2.new t2⟩
variable{t:T}
theorem QC{c:Const}(L:Br ct X W EX cf k)(h:kE ct (.Constant c n pos)=some t):Bt X W EX cf (.Constant c n pos) t:=by
 cases c with
 |none=>cases h;exact E1 L.K XO (λH _ _=>(DJ (W:=W) (H:=H)).mpr rfl) (λ_=>rfl) rfl rfl
 |bool b=>cases h;exact E1 L.K bq (λH _ _=>(Dj (W:=W) (H:=H)).mpr rfl) (λ_=>rfl) rfl rfl
 |int i=>cases h;exact E1 L.K XR (λH _ _=>(Ao (W:=W) (H:=H)).mpr rfl) (λ_=>rfl) rfl rfl
 |str x=>cases h;exact E1 L.K XM (λH _ _=>(By (W:=W) (H:=H)).mpr rfl) (λ_=>rfl) rfl rfl
 |_=>cases h
theorem Uq(L:Br ct X W EX cf k)(h:kE ct (.Name x pos)=some t):Bt X W EX cf (.Name x pos) t:=by
 replace h:ct.name x=some t:=h;unfold Ct.name at h;cases hs:ct.slot x with
 |some i=>
   rw[hs]at h;cases h;obtain⟨h1,h2,h3,h4⟩:=L.slot hs;exact MR L.K h1 h2 h3 h4
 |none=>
   rw[hs]at h;dsimp only at h;split at h
   case isFalse=>cases h
   rename_i hg;obtain⟨g1,g2,g3⟩:=L.glob hg;rcases or_some h with h|h
   .obtain⟨c,hl,rfl⟩:=Bg h;obtain⟨u,v,q1,q2,q3⟩:=L.gl x c hl;exact E1 L.K (Jc g1 q1 q2 g2) q3 (λ_=>rfl) rfl rfl
   .obtain⟨n,hl,rfl⟩:=Bg h;obtain⟨a,q1,q2,_⟩:=L.fns x n hl;exact E1 L.K (Jc (v:=.ref a) g1 q1 rfl g2) (λH _ _=>(Gp (W:=W) (H:=H)).mpr ⟨a,q2,rfl⟩) (λ_=>rfl) rfl rfl
theorem Wr{op:PySem.BoolOp}(L:Br ct X W EX cf k):∀{es:List Expr} {t:T},(∀e∈es,Pk W cf k e)->kB ct op es=some t->PE X (.BoolOp op es pos) (tG W EX (rV W) (ev cf t))/\PW X (.BoolOp op es pos) (tG W EX rB (tv cf t))
 |[],_,_,h=>by cases h
 | [e],t,ih,h=>by
   obtain⟨x,h1,h2⟩:=Ae h;cases h2;have hs:=ih e mS L h1;cases op with
   |And=>exact⟨Qm hs.v,U1 hs.b⟩
   |Or=>exact⟨Qm hs.v,Q7 hs.b⟩
 | e::e2::es,t,ih,h=>by
   obtain⟨x,h1,h2⟩:=Ae h;obtain⟨y,h3,rfl⟩:=Bg (show(kB ct op (e2::es)).map _=some t from h2);obtain⟨q1,q2⟩:=Wr L (λe he=>ih e (mC he)) h3;have hs:=ih e mS L h1;cases op with
   |And=>exact snd_and hs q1 q2
   |Or=>exact Xe hs q1 q2
theorem U8(h:Al b=true):NW b:=by
 intro o i;cases b<;>first|rfl|cases h
theorem az{F G:Env->Res C}{σ:L2.St}{Q:VK}(h:tG W EX (rV W) (λρ=>(F ρ).bind λx=>(G ρ).bind λy=>Res.of (Fu x y)) σ H Q):dB (λx lo hi H Q=>∃c r,Ef W H c x/\K6 lo hi c=some r/\Cq W H r Q) (tG W EX (rV W) F) (JY (tG W EX (rV W) G)) IM σ H Q:=by
 obtain⟨ρ,B,R,hA⟩:=h;refine⟨ρ,B,R,hA.step AB λc v H1 _ e1 t1 r1 h1=>⟨ρ,B,R.ext e1 t1,h1.step AB λd u H2 _ e2 t2 r2 h2=>?_⟩⟩;obtain⟨r,er,h3⟩:=h2.of;clear h2;obtain⟨l,el,er⟩:=Ae er;cases C.Bh el;exact⟨l,Ba r2,c,r,r1.rd.ext e2 (λ_ z=>z) λ_ z=>z,er,h3.new t2⟩
theorem ay{F G:Env->Res C}{σ:L2.St}{Q:VK}(h:tG W EX (rV W) (λρ=>(F ρ).bind λx=>(G ρ).bind λy=>Res.of (DC x y)) σ H Q):dB (λx lo hi H Q=>∃c r,Ef W H c x/\K6 lo hi c=some r/\Cq W H r Q) (tG W EX (rV W) F) IM (JY (tG W EX (rV W) G)) σ H Q:=by
 obtain⟨ρ,B,R,hA⟩:=h;refine⟨ρ,B,R,hA.step AB λc v H1 _ e1 t1 r1 h1=>⟨ρ,B,R.ext e1 t1,h1.step AB λd u H2 _ e2 t2 r2 h2=>?_⟩⟩;obtain⟨r,er,h3⟩:=h2.of;clear h2;obtain⟨l,el,er⟩:=Ae er;cases C.Bh el;exact⟨l,Ba r2,c,r,r1.rd.ext e2 (λ_ z=>z) λ_ z=>z,er,h3.new t2⟩
theorem aw{F G J:Env->Res C}{σ:L2.St}{Q:VK}(hJ:∀ρ x p,J ρ≠.err x p)(h:tG W EX (rV W) (λρ=>(F ρ).bind λx=>(G ρ).bind λy=>(J ρ).bind λz=>Res.of (SO x y z)) σ H Q):dB (λx lo hi H Q=>∃c r,Ef W H c x/\K6 lo hi c=some r/\Cq W H r Q) (tG W EX (rV W) F) (JY (tG W EX (rV W) G)) (JY (tG W EX (rV W) J)) σ H Q:=by
 obtain⟨ρ,B,R,hA⟩:=h;refine⟨ρ,B,R,hA.step AB λc v H1 _ e1 t1 r1 h1=>⟨ρ,B,R.ext e1 t1,h1.step AB λd u H2 e0 e2 t2 r2 h2=>?_⟩⟩
 have key:∃l,d= .p (.int l):=by
  cases e:J ρ with
  |stuck=>rw[e]at h2;exact h2.elim
  |err x p=>exact absurd e (hJ ρ x p)
  |ok f=>
    rw[e]at h2;obtain⟨r,er,_⟩:=Di.of (o:=SO c d f) h2;obtain⟨l,el,_⟩:=Ae er;exact⟨l,C.Bh el⟩
 obtain⟨l,rfl⟩:=key;refine⟨l,Ba r2,ρ,B,(R.ext e1 t1).ext e2 t2,h2.step AB λf w H3 _ e3 t3 r3 h3=>?_⟩;obtain⟨r,er,h4⟩:=h3.of;clear h3;obtain⟨l',el,er⟩:=Ae er;cases el;obtain⟨m,em,er⟩:=Ae er;cases C.Bh em;exact⟨m,Ba r3,c,r,r1.rd.ext (e2.trans e3) (λ_ z=>z) λ_ z=>z,er,h4.new t3⟩
variable{ifs:List Expr}
theorem XG{Y:Cx}{cs:List T}(h:HE Y W NX cf ifs cs)(hl:cs.length<=1):ZE Y ifs (tG W NX rB (Mq cf cs)):=by
 cases h with
 |nil=>exact λpins s σ H Q I ⟨ρ,B,R,z⟩=>Ua pins s σ H Q I (z true H (Ext.refl _) R.tb rfl)
 |cons h r=>
   cases r with
   |nil=>exact U9 h.b
   |cons _ _=>simp at hl
variable{elt:Expr}
theorem PX(hK:W.K=X.K)(hc:X.calm=true){it tg:Expr}{N:List Str}{ks:Sq}{g:Tg}{cs:List T}(ok:Dw X.N X.env.scope N sc fr)(hi:PI X tg it (wI W ks (tG W EX (rV W) (ev cf x))))(st:Al it=true)(hl:cs.length<=1)(hg:∀i∈g.slots,i < fr.length)
 (hb:∀C s H fp,PG (AQ X N sc C s H fp) tg (gT W g)/\Bt (AQ X N sc C s H fp) W NX cf elt e/\HE (AQ X N sc C s H fp) W NX cf ifs cs):
 Bt X W EX cf (.ListComp elt [⟨tg,it,ifs,0⟩] sc pos) (.comp g ks x cs e fr):=by
 have hv:∀σ H Q,tG W EX (rV W) (ev cf (.comp g ks x cs e fr)) σ H Q->IP (wI W ks (tG W EX (rV W) (ev cf x))) (gT W g) (tG W NX rB (Mq cf cs)) (tG W NX (rV W) (ev cf e)) fr σ H Q:=λσ H Q z=>WY hg z
 have hb':∀C s H fp,PG (AQ X N sc C s H fp) tg (gT W g)/\PE (AQ X N sc C s H fp) elt (tG W NX (rV W) (ev cf e))/\ZE (AQ X N sc C s H fp) ifs (tG W NX rB (Mq cf cs)):=λC s H fp=>⟨(hb C s H fp).1,(hb C s H fp).2.1.v,XG (hb C s H fp).2.2 hl⟩
 have v:PE X (.ListComp elt [⟨tg,it,ifs,0⟩] sc pos) (tG W EX (rV W) (ev cf (.comp g ks x cs e fr))):=Au (Qq N fr hc ok hi hb' (Ir st _)) hv;refine⟨v,GW (Wc hK v λ_=>rfl) λσ H Q z=>VO z,rfl,λi y py spos hN hy hx hf=>?_⟩;have hs:swapsWith (.ListComp elt [⟨tg,it,ifs,0⟩] sc pos) (some (.Name y py)) spos.line X.env=pure (X.env.blockKind == .function && X.env.kindOf y == some .local && py.line == pos.line && !(sc.names.any λ(n,k)=>n == y && (k == .local || k == .cell))):=rfl;cases hbo:(X.env.blockKind == .function && X.env.kindOf y == some .local && py.line == pos.line && !(sc.names.any λ(n,k)=>n == y && (k == .local || k == .cell)))with
 |false=>
   rw[hbo]at hs;exact J5 hN hy hx v hs hf
 |true=>
   rw[hbo]at hs
   have hl':X.env.scope.names.lookup y=some .local:=by
    simp only[bA]at hbo;exact beq_iff_eq.mp hbo.1.1.2
   exact λpins s σ H D I z=>Qd N fr hN hy hl' hc ok hi hb' hs (Ir st _) pins s σ H D I (hv σ H _ z)
theorem QF{x:Str}(h:DE e=some x):∃p,e= .Name x p:=by cases e<;>cases h;exact⟨_,rfl⟩
theorem CY{l:List α}{a:α}(h:one l=some a):l=[a]:=by
 match l,h with
 |[b],h=>cases h;rfl
theorem Fp{l:List α}{a:α×α}(h:two l=some a):l=[a.1,a.2]:=by
 match l,h with
 |[b,c],h=>cases h;rfl
theorem Vm{q:Expr×List Expr×List Keyword×Pos}(h:OW e=some q):e= .Call q.1 q.2.1 q.2.2.1 q.2.2.2:=by cases e<;>cases h;rfl
theorem Dd{a:Expr}(h:ct.BW x e=some a):∃p pos,e= .Call (.Name x p) [a] [] pos/\ct.own x=true:=by
 obtain⟨q,h1,h3⟩:=Ae h;clear h;obtain⟨y,h2,h4⟩:=Ae h3;clear h3;split at h4
 case isFalse=>cases h4
 rename_i hc;obtain⟨hy,hc2,hc3⟩:=hc;rw[hy]at hc2 h2;obtain⟨p,hp⟩:=QF h2;rw[Vm h1,hp,CY h4,isEmpty_iff.mp hc3];exact⟨p,_,rfl,hc2⟩
theorem R9{tg it:Expr}{q:Sq×T}(O:SY ct X W)(L:Br ct X W EX cf k)(h:ZO ct tg it (kE ct it) (Ra ct it)=some q)(h0:Pk W cf k it)(h1:∀a p pos x,it= .Call (.Name x p) [a] [] pos->Pk W cf k a):Al it=true/\PI X tg it (wI W q.1 (tG W EX (rV W) (ev cf q.2)))/\((q.1=Ar/\kE ct it=some q.2)\/(∃a,ct.BW "range" it=some a/\q.1=AM/\kE ct a=some q.2)\/∃a,ct.BW "enumerate" it=some a/\q.1=Mo/\kE ct a=some q.2):=by
 unfold ZO at h;split at h
 .rename_i a hr;obtain⟨ta,ha,rfl⟩:=Bg h;obtain⟨p,pos,rfl,ho⟩:=Dd hr;have ha:kE ct a=some ta:=ha;have hs:=h1 a p pos _ rfl L ha;exact⟨rfl,O.Xy ho rfl hs.st hs.v,.inr (.inl ⟨a,hr,rfl,ha⟩)⟩
 .rename_i a _ hr;split at h
  case isFalse=>cases h
  rename_i hb;obtain⟨ta,ha,rfl⟩:=Bg h;obtain⟨p,pos,rfl,ho⟩:=Dd hr;have ha:kE ct a=some ta:=ha;have hs:=h1 a p pos _ rfl L ha;exact⟨rfl,O.iU hb ho rfl hs.st hs.v,.inr (.inr ⟨a,hr,rfl,ha⟩)⟩
 .obtain⟨t,ht,rfl⟩:=Bg h;have hs:=h0 L ht;exact⟨hs.st,O.walk hs.v,.inl ⟨rfl,ht⟩⟩
theorem YU:(ct.block sc).2.length=(ct.block sc).1.N.length:=by
 unfold Ct.block;simp
theorem Ur{gs:List Comprehension}(opx:∀{ct X EX},Br ct X W EX cf k->SY ct X W)(he:Pk W cf k elt)(hg:∀tg it ifs ia,(⟨tg,it,ifs,ia⟩:Comprehension)∈gs->Pk W cf k it/\(∀a p pos x,it= .Call (.Name x p) [a] [] pos->Pk W cf k a)/\∀e∈ifs,Pk W cf k e)(L:Br ct X W EX cf k)(h:kE ct (.ListComp elt gs sc pos)=some t):Bt X W EX cf (.ListComp elt gs sc pos) t:=by
 replace h:kG ct sc gs (kE (ct.block sc).1 elt)=some t:=h;cases gs with
 |nil=>cases h
 |cons c gs=>
   obtain⟨tg,it,ifs,ia⟩:=c;obtain⟨p1,p2,p3⟩:=hg tg it ifs ia mS;obtain⟨g,h1,h⟩:=Ae h;obtain⟨q,h2,h⟩:=Ae h;obtain⟨cs,h3,h⟩:=Ae h;obtain⟨e,h4,h⟩:=Ae h;obtain⟨hc,rfl⟩:=A6 h;simp only[bA]at hc;obtain⟨⟨⟨⟨c0,c1⟩,c2⟩,c3⟩,c4⟩:=hc;cases of_decide_eq_true c0;cases isEmpty_iff.mp c1;obtain⟨st,hi,_⟩:=R9 (opx L) L h2 p1 p2;refine PX L.K L.calm (L.iX c3) hi st (of_decide_eq_true c2) (λi hi=>?_) λC s H fp=>?_
   .have:=(Qk (L.block c3 (of_decide_eq_true c4) 0 X.s₀ X.H₀ []) h1).2 i hi;rw[YU];exact this
   .have L2:=L.block c3 (of_decide_eq_true c4) C s H fp;exact⟨(Qk L2 h1).1,he L2 h4,FG p3 L2 h3⟩
theorem NJ(L:Br ct X W EX cf k):∀{xs:List Str} {G9:List Nat},Vq ct xs=some G9->Paired (λx i=>X.N[i]? =some x) xs G9
 |[],_,h=>by cases h;exact .nil
 | x::xs,_,h=>by
   obtain⟨i,h1,h⟩:=Ae h;obtain⟨is,h2,rfl⟩:=Bg h;exact .cons (L.slot h1).1 (NJ L h2)
theorem NU{l:List (Str×NameKind)}{f:Str×NameKind->Bool}{k:NameKind}(h:(l.all λy=>y.2 != k || f y)=true):∀z∈l,z.2=k->f z=true:=λz hz e=>by
 have:=all_eq_true.mp h z hz;rw[e]at this;simpa using this
theorem QX(L:Br ct X W EX cf k){as:Arguments}(h:QY ct.sc as sc=true)(hc:Vq ct ((sc.names.filter λq=>q.2 == .free).map (·.1))=some G9):∃y fr,WD X sc as y fr G9:=by
 unfold QY at h;simp only[bA]at h;obtain⟨⟨⟨⟨⟨⟨⟨⟨⟨⟨⟨⟨⟨⟨⟨h1,h2⟩,h3⟩,h4⟩,h5⟩,h6⟩,h7⟩,h8⟩,h9⟩,h10⟩,h11⟩,h12⟩,h13⟩,h14⟩,h15⟩,h16⟩:=h;obtain⟨a1,a2,a3,a4,a5,a6,a7⟩:=as;have h10:=of_decide_eq_true h10
 obtain⟨ann,ps,rfl⟩:∃ann ps,a2=[⟨Kd,ann,ps⟩]:=by
  match a2,h10 with
  |[⟨a,ann,ps⟩],h=>exact⟨ann,ps,by rw[map_cons,map_nil]at h;cases h;rfl⟩
 simp only[isEmpty_iff,Option.isNone_iff_eq_none]at h11 h12 h13 h14 h15 h16
 subst_vars
 refine⟨Kd,(sc.names.filter λq=>q.2 == .free).map (·.1),?_⟩;have hn:OG ⟨[],[⟨Kd,ann,ps⟩],none,[],[],none,[]⟩ sc=Kd::(sc.names.filter λq=>q.2 == .free).map (·.1):=rfl
 have all:∀x∈(sc.names.filter λq=>q.2 == .free).map (·.1),∃z∈sc.names,z.2= .free/\z.1=x:=λx hx=>by
  obtain⟨z,hz,rfl⟩:=mem_map.mp hx;obtain⟨hz1,hz2⟩:=mem_filter.mp hz;exact⟨z,hz1,beq_iff_eq.mp hz2,rfl⟩
 refine⟨beq_iff_eq.mp h1,by simpa using h2,by simpa using h3,λz hz=>by simpa using all_eq_true.mp h4 z hz,λz hz e=>?_,?_,λz hz e=>⟨mem_map.mpr ⟨z,mem_filter.mpr ⟨hz,beq_iff_eq.mpr e⟩,rfl⟩,?_⟩,λx hx=>?_,of_decide_eq_true h7,hn,rfl,λ_ _ _ _ _ _=>by kernel_rfl,NJ L hc⟩
 .have:=NU h5 z hz e;simpa using this
 .simpa using h8
 .have:=all_eq_true.mp h6 z hz;rw[e]at this;simp at this;rcases this with q|q
  .exact .inl (L.sc.dO _ q)
  .exact(L.sc.YT _ q).symm
 .obtain⟨z,hz,e,rfl⟩:=all x hx;have:=NU h9 z hz e;simpa using this
theorem UR{q:Arguments×Expr×Scope×Pos}(h:Yv e=some q):e= .Lambda q.1 q.2.1 q.2.2.1 q.2.2.2:=by cases e<;>cases h;rfl
theorem LB{g:C->Option C}(h:special ct x e=some g):∃y p a pos,e= .Call (.Name y p) [a] [] pos:=by
 have key:∀{y:Str},(ct.BW y e).isSome=true->∃y p a pos,e= .Call (.Name y p) [a] [] pos:=λ{y} z=>by
  obtain⟨a,ha⟩:=Option.isSome_iff_exists.mp z;obtain⟨p,pos,e,_⟩:=Dd ha;exact⟨_,p,a,pos,e⟩
 unfold special at h;split at h
 .rename_i hc;simp only[bA]at hc;exact key hc.2
 .split at h
  .rename_i hc;simp only[bA]at hc;exact key hc.2
  .split at h
   .rename_i hc;simp only[bA]at hc;exact key hc.2
   .cases h
theorem Us{f:Expr}{args:List Expr}{kws:List Keyword}(opx:∀{ct X EX},Br ct X W EX cf k->SY ct X W)(ha:∀e∈args,Pk W cf k e)(hin:∀y p a pos,.Call (.Name y p) [a] [] pos∈args->Pk W cf k a)(ho:∀o m p,f= .Attribute o m p->Pk W cf k o)(L:Br ct X W EX cf k)(h:kE ct (.Call f args kws pos)=some t):Bt X W EX cf (.Call f args kws pos) t:=by
 have O:=opx L;replace h:(if kws.isEmpty then kC ct f args pos (SQ ct args) (cb ct args) (dI ct args) (fQ ct args)else none)=some t:=h;split at h
 case isFalse=>cases h
 rename_i hkw;cases isEmpty_iff.mp hkw;cases f with
 |Name x p=>
   replace h:(if ct.own x && decide (x="isinstance")then(two args).bind λq=>(UX ct q.2).bind λty=>(cb ct args).map λt=>.Ai ty t
    else match(two args).bind λq=>Yv q.2 with
    |some l=>(cb ct args).bind λa=>YE ct x a l.1 l.2.2.1 l.2.2.2 (dI ct args)
    | none=>match(one args).bind (special ct x)with
      |some f=>(fQ ct args).map λt=>.Ai f t
      |none=>(SQ ct args).bind (fP ct x))=some t:=h
   split at h
   .rename_i hc;rw[bA]at hc;obtain⟨q,h1,h⟩:=Ae h;obtain⟨g,h2,h⟩:=Ae h;obtain⟨te,h3,rfl⟩:=Bg h;cases Fp h1;obtain⟨y,hy,_⟩:=Ae h2;obtain⟨p',hp⟩:=QF hy;obtain⟨q1,q2⟩:=q;dsimp only at hp h2 ha h3 ⊢;subst hp;have hs:=ha q1 mS L h3;exact EF L.K (O.Dq hc.1 (of_decide_eq_true hc.2) h2 hs.st hs.v) (λ_=>rfl) rfl rfl
   .split at h
    .rename_i l hl;obtain⟨q,h1,h2⟩:=Ae hl;obtain⟨a,h3,h⟩:=Ae h;cases Fp h1;obtain⟨q1,q2⟩:=q;dsimp only at h2 ha h3 h ⊢;cases UR h2;have hs:=ha q1 mS L h3;unfold YE at h;split at h
     case isFalse=>cases h
     rename_i hc;simp only[bA]at hc;obtain⟨f',h4,h⟩:=Ae h;obtain⟨ln,h5,h⟩:=Ae h;obtain⟨G9,h6,h⟩:=Ae h;obtain⟨tb,h7,h⟩:=Ae h;obtain⟨hlt,rfl⟩:=A6 h;obtain⟨y,fr,S⟩:=QX L hc.1.1 h6;obtain⟨g1,g2,g3⟩:=L.glob hc.2;obtain⟨a0,r1,r2,_⟩:=L.fns x f' h4
     have h7':kE (ct.lam l.1 l.2.2.1) l.2.1=some tb:=by
      replace h7:(fO ct q1 <|> (kE (ct.lam l.1 l.2.2.1) l.2.1 <|> none))=some tb:=h7;cases hq:fO ct q1 with
      |none=>rw[hq]at h7;cases e:kE (ct.lam l.1 l.2.2.1) l.2.1<;>rw[e]at h7<;>first|exact h7|cases h7
      |some _=>
        exfalso;cases q1 with
        |Lambda _ _ _ _=>cases h3
        |_=>cases hq
     exact O9 L.K (L.room.mono (Nat.le_succ _)) g1 r1 g2 r2 hs (L.lam _ _ h5) S (L.fn hc.1.2) h7' (by rw[<-S.n];exact hlt)
    .split at h
     .rename_i _ g hg;obtain⟨te,h3,rfl⟩:=Bg h;obtain⟨e0,h1,h2⟩:=Ae hg;cases CY h1;obtain⟨y,p',a,pos',rfl⟩:=LB h2;replace h3:kE ct a=some te:=h3;have hs:=hin y p' a pos' mS L h3;exact EF L.K (O.jG h2 hs.st hs.v) (λ_=>rfl) rfl rfl
     .obtain⟨ts,h1,h⟩:=Ae h;have hs:=FG ha L h1;unfold fP at h;split at h
      .rename_i hown;obtain⟨t1,h2,h⟩:=Ae h;obtain⟨g,h3,rfl⟩:=Bg h;cases CY h2;cases hs with
       |cons he hr=>
         cases hr;exact EF L.K (O.jY hown h3 he.st he.v) (λ_=>rfl) rfl rfl
      .split at h
       .rename_i i hi;cases h;exact Tz L.K L.fv (L.room.mono (Nat.le_succ _)) L.ex (L.pv hi) hs
       .split at h
        .rename_i hg;obtain⟨f',h4,rfl⟩:=Bg h;obtain⟨g1,g2,g3⟩:=L.glob hg;obtain⟨a0,r1,r2,r3⟩:=L.fns x f' h4;exact PY L.K r3 (L.room.mono (Nat.le_succ _)) L.ex g1 r1 g2 hs
        .cases h
 |Attribute o m ap=>
   replace h:(if LY args.length ap pos && (DE o).isSome then(kE ct o).bind λo=>(SQ ct args).bind (fN m o)else none)=some t:=h;split at h
   case isFalse=>cases h
   rename_i hm;rw[bA]at hm;obtain⟨hm,hn⟩:=hm;obtain⟨to,h1,h⟩:=Ae h;obtain⟨ts,h2,h⟩:=Ae h;have so:=ho o m ap rfl L h1;have hs:=FG ha L h2
   have one1:∀{g:C->C->Option C},((m="get"/\g=Mf)\/(m="index"/\g=D2))->((one ts).bind λt=>if t.calm then some (.A1 g to t)else none)=some t->Bt X W EX cf (.Call (.Attribute o m ap) args [] pos) t:=λ{g} hg h=>by
    obtain⟨t1,h3,h⟩:=Ae h;obtain⟨hc,rfl⟩:=A6 h;cases CY h3;cases hs with
    |cons he hr=>
      cases hr;exact Bt.of L.K (Au (O.jQ hg hm hn he.st so.v he.v) λσ H Q z=>aD (Fb hc) z) rfl
   unfold fN at h;split at h
   .rename_i hm';exact one1 (.inl ⟨hm',rfl⟩) h
   .split at h
    .rename_i hm';exact one1 (.inr ⟨hm',rfl⟩) h
    .split at h
     .rename_i hc;cases h;cases isEmpty_iff.mp hc.2;cases hs;exact EF L.K (O.jm hc.1 hm hn so.v) (λ_=>rfl) rfl rfl
     .cases h
 |_=>cases h
theorem LR[SizeOf α]{a:α}{l:List α}(h:a∈l):sizeOf a < sizeOf l:=List.sizeOf_lt_of_mem h
theorem Zc{EX}(L:Br ct X W EX cf k)(ox:SY ct X W)(ha:Bt X W EX cf a x){ops:List CmpOp}{es:List Expr}{ys:List T}{t:T}(hs:HE X W EX cf es ys)(h:Vk x ops ys=some t):Bt X W EX cf (.Compare a ops es pos) t:=by
 unfold Vk at h;split at h
 .cases h;cases hs with
  |cons h1 hr=>cases hr;exact Tv (ox.cmp _) (λ_ _ _ z=>RW z) ha h1
 .cases h;cases hs with
  |cons h1 hr=>
    cases hr with
    |cons h2 hr=>
      cases hr;exact Tw (ox.cmp _) (ox.cmp _) (λ_ _ _ z=>RW z) ha h1 h2 (FT h2.st _)
 .cases h
theorem FH(opx:∀{ct X EX},Br ct X W EX cf k->SY ct X W):∀(n:Nat) (e:Expr),sizeOf e<=n->Pk W cf k e:=by
 intro n
 induction n with
 |zero=>intro e h;cases e<;>simp at h
 |succ n ih =>
   intro e hn ct X EX t L h;have ihl:∀(es:List Expr),sizeOf es<=n->∀e∈es,Pk W cf k e:=λes hs e he=>ih e (by have:=LR he;lia)
   cases e with
   |Constant c m pos=>exact QC L h
   |Name x pos=>exact Uq L h
   |Tuple es x1 pos=>
     simp at hn;obtain⟨ts,h1,rfl⟩:=Bg h;exact Tr L.K (FG (ihl es (by lia)) L h1)
   |List es pos=>
     simp at hn;obtain⟨ts,h1,rfl⟩:=Bg h;exact Tt L.K (FG (ihl es (by lia)) L h1)
   |Dict ks vs pos=>
     replace h:(if ks.isEmpty && vs.isEmpty then some (.Ai (λ_=>some (.BC true [])) (.cst (.p .A8)))else none)=some t:=h;obtain⟨hk,rfl⟩:=A6 h;exact Bt.of L.K (Au ((opx L).g9 hk) λσ H Q ⟨ρ,B,R,hA⟩=>Di.new (c:=.BC true []) hA R.tb) rfl
   |BinOp a op b pos=>
     simp at hn;obtain⟨g,h1,h⟩:=Ae h;obtain⟨x,h2,h⟩:=Ae h;obtain⟨y,h3,rfl⟩:=Bg h;exact Tx L.K ((opx L).bin op g h1) (ih a (by lia) L h2) (ih b (by lia) L h3)
   |UnaryOp op a pos=>
     simp at hn;obtain⟨x,h1,h⟩:=Ae h;have hs:=ih a (by lia) L h1;cases op with
     |Not=>cases h;exact Ts hs
     |USub=>cases h;exact Xd L.K (opx L).neg (λ_=>rfl) hs
     |_=>cases h
   |BoolOp op es pos=>
     simp at hn;obtain⟨q1,q2⟩:=Wr (pos:=pos) L (ihl es (by lia)) (show kB ct op es=some t from h);exact Bt.bF q1 q2.pt
   |IfExp c a b pos=>
     simp at hn;obtain⟨z,h0,h⟩:=Ae h;obtain⟨x,h1,h⟩:=Ae h;obtain⟨y,h2,rfl⟩:=Bg h;exact Tu L.K (ih c (by lia) L h0) (ih a (by lia) L h1) (ih b (by lia) L h2)
   |Compare a ops es pos=>
     simp at hn;obtain⟨x,h0,h⟩:=Ae h;obtain⟨ys,h1,h⟩:=Ae h;have ha:=ih a (by lia) L h0;have hs:=FG (ihl es (by lia)) L h1;replace h:Vk x ops ys=some t:=h;clear h1 h0;exact Zc L (opx L) ha hs h
   |Attribute o m pos=>
     simp at hn;replace h:(if m="place"/\(DE o).isSome=true then(kE ct o).map λx=>.Ai EK x else none)=some t:=h;split at h
     case isFalse=>cases h
     rename_i hm;obtain⟨hm,hnm⟩:=hm;subst hm;obtain⟨x,h1,rfl⟩:=Bg h;have hs:=ih o (by lia) L h1;exact EF L.K ((opx L).jO hnm hs.v) (λ_=>rfl) rfl rfl
   |Subscript v i pos=>
     simp at hn;obtain⟨x,h0,h⟩:=Ae h;have hv:=ih v (by lia) L h0;replace h:(if Mc i then(kI ct i).bind λq=>iS x q.1 q.2 else(kE ct i).map λy=>.A1 A2 x y)=some t:=h;split at h
     .rename_i hsl;obtain⟨q,h1,hq⟩:=Ae h;clear h;cases i with
      |Slice lo hi st sp=>
        simp at hn;replace h1:(if st.isNone then(kO ct lo).bind λl=>(kO ct hi).map λh=>(l,h)else none)=some q:=h1;split at h1
        case isFalse=>cases h1
        rename_i hst;cases Option.isNone_iff_eq_none.mp hst;obtain⟨l,h2,h1⟩:=Ae h1;obtain⟨u,h3,rfl⟩:=Bg h1
        have po:∀{o:Option Expr} {w:Option T},sizeOf o<=n->kO ct o=some w->(w=none/\o=none)\/∃e t,o=some e/\w=some t/\Bt X W EX cf e t:=λ{o w} hs hk=>by
         cases o with
         |none=>cases hk;exact .inl ⟨rfl,rfl⟩
         |some e=>obtain⟨t,ht,rfl⟩:=Bg hk;simp at hs;exact .inr ⟨e,t,rfl,rfl,ih e (by lia) L ht⟩
        have sl:=(opx L).sl;rcases po (by lia) h2 with⟨rfl,rfl⟩|⟨e1,t1,rfl,rfl,s1⟩
        .rcases po (by lia) h3 with⟨rfl,rfl⟩|⟨e2,t2,rfl,rfl,s2⟩
         .cases hq
         .cases hq;exact Bt.of L.K (Au (H8 sl hv.v N3 (Gq s2.v)) λσ H Q z=>ay z) rfl
        .rcases po (by lia) h3 with⟨rfl,rfl⟩|⟨e2,t2,rfl,rfl,s2⟩
         .cases hq;exact Bt.of L.K (Au (H8 sl hv.v (Gq s1.v) N3) λσ H Q z=>az z) rfl
         .obtain⟨hc,rfl⟩:=A6 (show(if t2.calm then some (.Wi SO x t1 t2)else none)=some t from hq);exact Bt.of L.K (Au (H8 sl hv.v (Gq s1.v) (Gq s2.v)) λσ H Q z=>aw (Fb hc) z) rfl
      |_=>cases hsl
     .obtain⟨y,h1,rfl⟩:=Bg h;have hi:=ih i (by lia) L h1;exact Bt.of L.K (Au (bj (opx L).ix hv.v hi.v (U8 hi.st)) λσ H Q z=>MJ z) rfl
   |ListComp elt gs sc pos=>
     simp at hn;refine Ur opx (ih elt (by lia)) (λtg it ifs ia hm=>?_) L h;have:=LR hm;simp at this;refine⟨ih it (by lia),λa p pos x e=>?_,ihl ifs (by lia)⟩;subst e;simp at this;exact ih a (by lia)
   |Call f args kws pos=>
     simp at hn;refine Us opx (ihl args (by lia)) (λy p a pos hm=>?_) (λo m p e=>?_) L h
     .have:=LR hm;simp at this;exact λ{_ _ _ _}=>ih a (by lia)
     .subst e;simp at hn;exact ih o (by lia)
   |_=>cases h
def rS(W:Wd)(EX:XP)(cf:CF)(s:S):TS:=tS W EX (cS s) (Nv.exec cf AW s)
def iO(W:Wd)(EX:XP)(cf:CF)(ss:List S):TS:=tS W EX (CT ss) (Nv.execs cf AW ss)
def jd(W:Wd)(cf:CF)(k:Nat)(s:Stmt):Prop:=∀{ct:Ct} {X:Cx} {EX:XP} {t:S},Br ct X W EX cf k->kS ct s=some t->PS X s (rS W EX cf t)
def dg(W:Wd)(cf:CF)(k:Nat)(ss:List Stmt):Prop:=∀{ct:Ct} {X:Cx} {EX:XP} {ts:List S},Br ct X W EX cf k->UT ct ss=some ts->Lp X ss (iO W EX cf ts)
structure jb(ct:Ct)(X:Cx)(W:Wd)(EX:XP)(cf:CF)(k:Nat):Prop where
 tup:∀{es:List Expr} {n:Nat} {p pos:Pos} {e:Expr} {t:T} {is:List Nat},Dr e=false->Bt X W EX cf e t->Kx ct es=some is->PS X (.Assign [.Tuple es n p] e pos) (rS W EX cf (.asg (.tup is) t))
 fo:∀{x:Str} {i j:Nat} {e:Expr} {p pos:Pos},ct.Bk x=some i->R6 ct e=some j->PS X (.Assign [.Name x p] e pos) (rS W EX cf (.pop (some i) j))
 mt:∀{e:Expr} {pos:Pos} {t:S},Ci e=false->R7 ct e=some t->PS X (.Expr e pos) (rS W EX cf t)
 put:∀{y:Str} {i j:Nat} {e ie:Expr} {p q pos:Pos} {t u:T},ct.slot y=some j->Mc ie=false->Bt X W EX cf e t->Bt X W EX cf ie u->PS X (.Assign [.Subscript (.Name y p) ie q] e pos) (rS W EX cf (.Bu j false (G1 λc x k=>Ei c k x) [t,u]))
 jK:∀{e:Expr} {pos:Pos} {t:S},M8 ct e=some t->PS X (.Raise (some e) none pos) (rS W EX cf t)
 WV:∀{b:List Stmt} {hs:List ExceptHandler} {pos:Pos} {t:S},YC ct b hs=some t->PS X (.Try b hs [] [] pos) (rS W EX cf t)
theorem EI{e:Stmt}{t t':TS}(h:PS X e t)(k:∀D σ H,σ.length=X.N.length->t' D σ H->t D σ H):PS X e t':=λpins s σ H D I z=>h pins s σ H D I (k D σ H I.len z)
theorem N2{ss:List Stmt}(ih:∀s∈ss,jd W cf k s):dg W cf k ss:=by
 induction ss with
 |nil=>
   intro ct X EX ts L h;cases h;exact J2 J1 λD σ H z=>W6 z
 |cons s ss ihl=>
   intro ct X EX ts L h;obtain⟨t,h1,h2⟩:=Ae h;obtain⟨us,h3,rfl⟩:=Bg h2;exact J2 (GX (ih s mS L h1) (ihl (λe he=>ih e (mC he)) L h3)) λD σ H z=>Xt z
theorem Nu(h:Al e=true)(env:PySem.Env)(x:Value):foldedSetIterable e env x=pure x:=by
 cases e with
 |Set es n p=>cases h
 |_=>rfl
theorem AH{c:Prop}[Decidable c]{a:Option α}{b:α}(h:(if c then a else none)=some b):c/\a=some b:=by
 split at h
 .exact⟨‹_›,h⟩
 .cases h
theorem He{i:Nat}(h:ct.name x=some (.var i)):ct.slot x=some i:=by
 unfold Ct.name at h;split at h
 .rename_i e;cases h;exact e
 .obtain⟨_,z⟩:=AH h;rcases or_some z with z|z<;>(obtain⟨c,_,z⟩:=Bg z;cases z)
theorem Cu{x:Str}(h:DE e=some x):∃p,e= .Name x p:=by
 cases e with
 |Name y p=>cases h;exact⟨p,rfl⟩
 |_=>cases h
theorem Xn{D:Ends}{σ:L2.St}(h:tS W EX [] (λρ=>.ret (.p .A8)) D σ H):VU D σ H:=by
 obtain⟨Hin,A0,Bo,ρ,S,hA⟩:=h;exact hA .A8 H ⟨rfl,S.tb,S.FI,S.HI,S.kp⟩
theorem UU(O:SY ct X W)(L:Br ct X W EX cf k){tg:Expr}{ks:Sq}{i:Nat}(h:ZO ct tg e (kE ct e) (Ra ct e)=some (ks,.var i))(hn:(DE (ct.src e)).isSome=true):Al e=true/\(∀o kvs,ks (.BC o kvs)=none)/\PI X tg e (wI W ks (IL i)):=by
 obtain⟨x,hx⟩:=Option.isSome_iff_exists.mp hn;unfold Ct.src at hx;unfold ZO at h;split at h
 .rename_i a hr;obtain⟨p,pos,rfl,ho⟩:=Dd hr;rw[hr]at hx;obtain⟨q,rfl⟩:=Cu hx;obtain⟨t,ht,h⟩:=Bg h;cases h;exact⟨rfl,λ_ _=>rfl,O.Xy ho rfl rfl (L.pv (He ht))⟩
 .rename_i a hr0 hr;split at h
  case isFalse=>cases h
  rename_i hb;obtain⟨p,pos,rfl,ho⟩:=Dd hr;rw[hr0,hr]at hx;obtain⟨q,rfl⟩:=Cu hx;obtain⟨t,ht,h⟩:=Bg h;cases h;exact⟨rfl,λ_ _=>rfl,O.iU hb ho rfl rfl (L.pv (He ht))⟩
 .rename_i hr0 hr;rw[hr0,hr]at hx;obtain⟨q,rfl⟩:=Cu hx;obtain⟨t,ht,h⟩:=Bg h;cases h;exact⟨rfl,λ_ _=>rfl,O.walk (L.pv (He ht))⟩
theorem UL{i:Nat}(h:ER t=some i):t= .var i:=by
 unfold ER at h;split at h
 .cases h;rfl
 .cases h
theorem K7{a:Stmt}{l:List Stmt}(h:a∈l):sizeOf a < sizeOf l:=List.sizeOf_lt_of_mem h
theorem YD(opx:∀{ct X EX},Br ct X W EX cf k->SY ct X W)(stx:∀{ct X EX},Br ct X W EX cf k->jb ct X W EX cf k):∀(n:Nat) (s:Stmt),sizeOf s<=n->jd W cf k s:=by
 intro n
 induction n with
 |zero=>intro e h;cases e<;>simp at h
 |succ n ih=>
   intro s hn ct X EX t L h;have pk:∀e:Expr,Pk W cf k e:=λe=>FH opx (sizeOf e) e (lR)
   have ihl:∀(ss:List Stmt),sizeOf ss<=n->dg W cf k ss:=λss hs=>N2 λe he=>ih e (by have:=K7 he;lia)
   cases s with
   |Assign tgs e pos=>
     obtain⟨tg,h1,hq⟩:=Ae h;clear h;cases CY h1;cases tg with
     |Name x p=>
       obtain⟨i,h2,hr⟩:=Ae (show((ct.Bk x).bind λi=>match R6 ct e with
        |some j=>some (.pop (some i) j)
        |none=>(kE ct e).map λt=>.asg (.nm i) t)=some t from hq)
       clear hq;cases ep:R6 ct e with
       |some j=>rw[ep]at hr;cases hr;exact(stx L).fo h2 ep
       |none=>
         rw[ep]at hr;obtain⟨u,h3,rfl⟩:=Bg hr;obtain⟨t1,t2,t3⟩:=L.Bk h2;exact EI ((pk e L h3).a i x p pos L.nd t1 t2 t3) λD σ H hl z=>aS (by rw[hl];exact(List.getElem?_eq_some_iff.mp t1).1) z
     |Tuple es n p=>
       replace hq:(if Dr e then none else(kE ct e).bind λt=>(Kx ct es).map λis=>.asg (.tup is) t)=some t:=hq;cases et:Dr e with
       |true=>rw[et]at hq;cases hq
       |false=>
         rw[et]at hq;obtain⟨u,h2,hr⟩:=Ae hq;obtain⟨is,h3,rfl⟩:=Bg hr;exact(stx L).tup et (pk e L h2) h3
     |Subscript v i p=>
       obtain⟨j,h2,hr⟩:=Ae (show(((DE v).bind ct.slot).bind λj=>(kE ct e).bind λt=>if Mc i then none else(kE ct i).map λk=>.Bu j false (G1 λc x k=>Ei c k x) [t,k])=some t from hq);obtain⟨u,h3,hr⟩:=Ae hr;obtain⟨y,h4,h5⟩:=Ae h2;obtain⟨q,rfl⟩:=Cu h4;cases et:Mc i with
       |true=>rw[et]at hr;cases hr
       |false=>
         rw[et]at hr;obtain⟨w,h6,rfl⟩:=Bg hr;exact(stx L).put (i:=0) h5 et (pk e L h3) (pk i L h6)
     |_=>cases hq
   |Expr e pos=>
     replace h:(if Ci e then none else match R7 ct e with
      |some s=>some s
      |none=>(kE ct e).map .expr)=some t:=h
     cases et:Ci e with
     |true=>rw[et]at h;cases h
     |false=>
       rw[et]at h;cases em:R7 ct e with
       |some s=>rw[em]at h;cases h;exact(stx L).mt et em
       |none=>
         rw[em]at h;obtain⟨u,h1,rfl⟩:=Bg h;exact C1 (EJ (pk e L h1).v (K1 et _ _ _)) λD σ H z=>Xs z
   |Return o pos=>
     cases o with
     |none=>
       cases h;exact C1 U4 λD σ H z=>Xn z
     |some e=>
       replace h:(match(DE e).bind ct.slot with
        |some i=>some (.DI i)
        |none=>(kE ct e).map .ret)=some t:=h
       cases em:(DE e).bind ct.slot with
       |some i=>
         rw[em]at h;cases h;obtain⟨y,h4,h5⟩:=Ae em;obtain⟨q,rfl⟩:=Cu h4;exact C1 (Qb (L.pv h5)) λD σ H z=>Xm z
       |none=>
         rw[em]at h;obtain⟨u,h1,rfl⟩:=Bg h;exact C1 (Qb (pk e L h1).v) λD σ H z=>W5 z
   |If c a b pos=>
     simp at hn;obtain⟨u,h1,h⟩:=Ae h;obtain⟨x,h2,h⟩:=Ae h;obtain⟨y,h3,rfl⟩:=Bg h;exact C1 (We (pk c L h1).b (ihl a (by lia) L h2) (ihl b (by lia) L h3)) λD σ H z=>eW z
   |While c b o pos=>
     simp at hn;obtain⟨ho,hq⟩:=AH h;obtain⟨u,h1,hq⟩:=Ae hq;obtain⟨x,h2,rfl⟩:=Bg hq;cases isEmpty_iff.mp ho;exact C1 (Qa L.po (pk c L h1).b (ihl b (by lia) L h2)) λD σ H z=>TL z
   |For tg it b o pos=>
     simp at hn;obtain⟨ho,hq⟩:=AH h;clear h;obtain⟨g,h1,hq⟩:=Ae hq;obtain⟨q,h2,hq⟩:=Ae hq;obtain⟨x,h3,hq⟩:=Ae hq;obtain⟨hm,rfl⟩:=A6 hq;cases isEmpty_iff.mp ho;obtain⟨g1,g2⟩:=Qk L h1;obtain⟨ks,u⟩:=q;cases el:ER u with
     |some i=>
       cases UL el;obtain⟨st,hd,hi⟩:=UU (opx L) L h2 (by simpa[bN,ER]using hm);exact EI (Qc L.po L.calm hi g1 (ihl b (by lia) L h3) (Nu st _)) λD σ H hl z=>Xr hd (λi hi=>by rw[hl];exact g2 i hi) z
     |none=>
       obtain⟨st,hi,_⟩:=R9 (opx L) L h2 (pk it) λa p pos x _=>pk a
       refine EI (Qc L.po L.calm hi g1 (ihl b (by lia) L h3) (Nu st _)) λD σ H hl z=>aU (λi hi=>by rw[hl];exact g2 i hi) ?_
       obtain⟨Hin,A0,Bo,ρ,S,hA⟩:=z;refine⟨Hin,A0,Bo,ρ,S,?_⟩;simp only[Nv.exec,el]at hA;exact hA
   |Pass pos=>cases h;exact C1 U5 λD σ H z=>W6 z
   |Break pos=>cases h;exact C1 Qe λD σ H z=>aW z
   |Continue pos=>cases h;exact C1 Kc λD σ H z=>aV z
   |Raise e c pos=>
     obtain⟨hc,hq⟩:=AH h;cases Option.isNone_iff_eq_none.mp hc;obtain⟨e',h1,hq⟩:=Ae hq;cases h1;exact(stx L).jK hq
   |Try b hs o f pos=>
     simp at hn;obtain⟨hc,hq⟩:=AH h;rw[bA]at hc;cases isEmpty_iff.mp hc.1;cases isEmpty_iff.mp hc.2;exact(stx L).WV hq
   |_=>cases h
variable{Hin:Hp}{A0:Addr->Prop}{Bo:Nat->Addr->Prop}{D:Ends}
def Q6(K:Frag):V->List V->Hp->VK->Prop:=λx vs H Q=>∃l b xs zs,x= .ref l/\vs=[.ref b]/\H l=some (.lst xs)/\DF K H b zs/\xs.length+zs.length<=sizeLine/\Q .A8 (upd H l (.lst (xs++zs)))
theorem UD:ZF X "list.extend" (Q6 X.K):=by
 intro pins s σ H x vs v us Q I rx rv h;obtain⟨l,b,xs,zs,rfl,rfl,hH,hB,hz,q⟩:=h;cases rx;obtain⟨u,rfl,ru⟩:=rv.one;cases ru;obtain⟨z,its,n,r,hl,e⟩:=I.OB hH;obtain⟨its2,r2,ht,hz2⟩:=I.tuple hB;have hl2:=r2.length;obtain⟨⟨cl,BC,dat,sl⟩,e2,c2,n2,d2⟩:=ht;have c2:cl= .type "tuple":=c2;have d2:dat= .seq its2.toArray n2:=d2;subst c2 d2;have hsz:its.toArray.size+its2.toArray.size<=sizeLine:=by rw[size_toArray,size_toArray];lia
 have hlong:¬(!its.toArray.isEmpty && Builtin.List.listTooLong (its.toArray.size + its2.toArray.size))=true:=by
  rw[Hb hsz,Bool.and_false];exact Bool.false_ne_true
 refine call_meets F.slot_list_extend ⟨_,e,rfl⟩ F.entry_list_extend (F.args_list_extend_2 _ _)
  (V3 l its.toArray n b its2.toArray n2 BC sl hlong (by rw[size_toArray];lia) (by lia)) ⟨e,e2,?_⟩
 refine⟨.A8,_,I.OC (its':=its++its2) hH e (by simp) (r.append r2) ?_,rfl,q⟩;rw[lA]
 lia
theorem Yp:ZF X "list.extend" (λx vs H Q=>J0 x vs H Q\/Q6 X.K x vs H Q):=λpins s σ H x vs v us Q I rx rv h=>h.elim (Ox pins s σ H x vs v us Q I rx rv) (UD pins s σ H x vs v us Q I rx rv)
theorem QQ(hK:W.K=X.K):∀x vs H Q,G0 W (BY HQ) x vs H Q->J0 x vs H Q\/Q6 X.K x vs H Q:=by
 rintro x vs H Q ⟨own,bor,c,cs,c',h1,h2,e,q⟩
 obtain⟨a,rfl,e⟩:=Qz e;obtain⟨ps,ep,e⟩:=Ae e;obtain⟨qs,eq,e⟩:=Ae e;obtain⟨ws,ew,rfl⟩:=Bg e;obtain⟨hl,rfl⟩:=A6 (show(if(ps++qs).length<=big then some (ps++qs)else none)=some ws from ew);cases EN ep;obtain⟨v,rfl,r⟩:=W8 h2;obtain⟨l,ws,rfl,k1,k2,k3⟩:=DR h1 q;have l1:=Paired.length k2;have bl:=BH;rw[lA]at hl;rcases or_some eq with eq|eq
 .obtain⟨b,us,rfl,q1,q2⟩:=BF eq r;have l2:=Paired.length q2;exact .inl ⟨l,b,ws,us,rfl,rfl,k1,q1,by lia,k3 _ _ (Pd.append k2 q2)⟩
 .obtain⟨x,ex,et⟩:=Ae eq;cases C.Cs ex;cases P.Bx et;obtain⟨b,us,rfl,q1,q2⟩:=Cb r;have l2:=Paired.length q2;exact .inr ⟨l,b,ws,us,rfl,rfl,k1,by rw[<-hK];exact q1,by lia,k3 _ _ (Pd.append k2 q2)⟩
theorem U6{q:P×C}(h:J9 c=some q):∃ps,c= .lst true ps/\ps.getLast? =some q.1/\q.2= .lst true ps.dropLast:=by
 cases c with
 |lst o ps=>
   cases o with
   |true=>obtain⟨x,h1,rfl⟩:=Bg (show(ps.getLast?.map λx=>(x,C.lst true ps.dropLast))=some q from h);exact⟨ps,rfl,h1,rfl⟩
   |false=>cases h
 |_=>cases h
theorem Pd.last{ps:List P}(h:CU W H ps vs){x:P}(e:ps.getLast? =some x):∃v,vs[vs.length - 1]? =some v/\Af W H x v/\CU W H ps.dropLast vs.dropLast:=by
 induction h with
 |nil=>cases e
 |cons h1 h2 ih=>
   rename_i p v ps vs;cases h2 with
   |nil=>cases e;exact⟨v,rfl,h1,.nil⟩
   |cons h3 h4=>
     obtain⟨w,e1,e2,e3⟩:=ih (by simpa using e);exact⟨w,by simpa using e1,e2,.cons h1 e3⟩
theorem VP{ρ:Env}{i:Nat}{q:P×C}(S:Aw W Hin A0 Bo H ρ σ)(h:(Ap ρ i).bind J9=some q):∃a ws v,σ[i]? =some (some (.ref a))/\H a=some (.lst ws)/\ws[ws.length - 1]? =some v/\Aw W Hin A0 Bo (upd H a (.lst ws.dropLast)) (ρ.set i (some q.2)) σ/\Af W (upd H a (.lst ws.dropLast)) q.1 v:=by
 obtain⟨c,hg,hp⟩:=Ae h;obtain⟨ps,rfl,h1,h2⟩:=U6 hp;obtain⟨O,hO⟩:=S.env;obtain⟨x,q1,q2⟩:=hO i _ hg;obtain⟨a,ws,rfl,k1,k2⟩:=q2;obtain⟨v,e1,e2,e3⟩:=Pd.last k2 h1;have kp:=D7 (u':=.lst ws.dropLast) k1.1 FC.1 FC.2.1;refine⟨a,ws,v,q1,k1.1,e1,S.chg hO hg q1 k1.2 k1.1 FC ?_,e2.mono kp⟩;rw[h2];exact⟨a,ws.dropLast,rfl,⟨Ag,k1.2⟩,e3.mono kp⟩
theorem Xq{i:Nat}(K:Frag)(h:tS W EX [] (Nv.exec cf AW (.pop none i)) D σ H):MK (X3 K "list" XA (IL i)) D σ H:=by
 obtain⟨Hin,A0,Bo,ρ,S,hA⟩:=h
 replace hA:Bp W EX Hin A0 Bo [] D σ (match(Ap ρ i).bind J9 with
  |some q=>.nx (ρ.set i (some q.2))
  |none=>.stuck):=hA
 cases e:(Ap ρ i).bind J9 with
 |none=>rw[e]at hA;exact hA.elim
 |some q=>
   rw[e]at hA;obtain⟨a,ws,v,q1,q2,q3,S',r⟩:=VP S e;exact⟨_,q1,.inl ⟨rfl,ws,Ep.of q2⟩,a,ws,v,rfl,rfl,q2,q3,hA _ _ S' (AD.refl _ _)⟩
variable{j:Nat}
theorem Xp{i:Nat}(K:Frag)(hj:j < σ.length)(h:tS W EX [j] (Nv.exec cf AW (.pop (some j) i)) D σ H):LA (X3 K "list" XA (IL i)) (EU j) D σ H:=by
 obtain⟨Hin,A0,Bo,ρ,S,hA⟩:=h
 replace hA:Bp W EX Hin A0 Bo [j] D σ (match(Ap ρ i).bind J9 with
  |some q=>if j=i then .stuck else .nx ((ρ.set i (some q.2)).set j (some (.p q.1)))
  |none=>.stuck):=hA
 cases e:(Ap ρ i).bind J9 with
 |none=>rw[e]at hA;exact hA.elim
 |some q=>
   rw[e]at hA;dsimp only at hA;split at hA
   .exact hA.elim
   obtain⟨a,ws,v,q1,q2,q3,S',r⟩:=VP S e;exact⟨_,q1,.inl ⟨rfl,ws,Ep.of q2⟩,a,ws,v,rfl,rfl,q2,q3,hA _ _ (S'.set (B:=λ_=>True) (Ext.refl _) S'.tb hj rfl r) (AD.set mS)⟩
theorem Nd{q:Nat×Str×List Expr}(h:R8 ct e=some q):∃x p ap pos,e= .Call (.Attribute (.Name x p) q.2.1 ap) q.2.2 [] pos/\LY q.2.2.length ap pos=true/\ct.slot x=some q.1:=by
 obtain⟨c,h1,h⟩:=Ae h;obtain⟨a,h2,h⟩:=Ae h;obtain⟨x,h3,h⟩:=Ae h;obtain⟨hc,h⟩:=AH h;obtain⟨i,h4,rfl⟩:=Bg h;rw[bA]at hc;cases e with
 |Call f as kw pos=>
   cases h1;cases f with
   |Attribute o m ap=>
     cases h2;obtain⟨p,rfl⟩:=Cu h3;cases isEmpty_iff.mp hc.1;exact⟨x,p,ap,pos,rfl,hc.2,h4⟩
   |_=>cases h2
 |_=>cases h1
variable{ap:Pos}
theorem CK(h:LY n ap pos=true):(ap.endLine == pos.line)=true:=by
 unfold LY at h;rw[bA]at h;exact h.1
theorem cG(h:Al a=true):((backTo pos (starEach [a] X.env)).all (λx=>!x.1) && (backToKw pos (keywordEach [] X.env)).all (λx=>x.1.isSome)
 && decide (([a]:List Expr).length+([]:List Keyword).length+(if([]:List Keyword).isEmpty then 0 else 1) < 30))=true:=by
 rw[A9 h [] X.env];rfl
variable{cp:Pos}
theorem PR(L:Br ct X W EX cf k){i:Nat}(hs:ct.slot x=some i)(hm:LY 0 ap cp=true):PS X (.Expr (.Call (.Attribute (.Name x p) "pop" ap) [] [] cp) pos) (rS W EX cf (.pop none i)):=
 C1 (EJ (Jd PySem.F.plainAttrs_list PySem.F.slot_list_pop PySem.F.type_list_pop QK (L.pv hs) rfl (CK hm))) λD σ H z=>Xq X.K z
theorem PQ(L:Br ct X W EX cf k){i:Nat}(ht:ct.Bk x=some i)(h:R6 ct e=some j):PS X (.Assign [.Name x p] e pos) (rS W EX cf (.pop (some i) j)):=by
 obtain⟨q,h1,h2⟩:=Ae h;obtain⟨⟨e1,e2⟩,rfl⟩:=A6 h2;obtain⟨y,yp,ap,cp,rfl,hm,hs⟩:=Nd h1;rw[isEmpty_iff.mp e2]at hm ⊢;rw[e1];obtain⟨t1,t2,t3⟩:=L.Bk ht;exact EI (J5 L.nd t1 t2 (Jd PySem.F.plainAttrs_list PySem.F.slot_list_pop PySem.F.type_list_pop QK (L.pv hs) rfl (CK hm)) rfl t3) λD σ H hl z=>Xp X.K (by rw[hl];exact(List.getElem?_eq_some_iff.mp t1).1) z
variable{id:String}
theorem PU(L:Br ct X W EX cf k){x m:Str}{i:Nat}{f:C->List C->Option C}{r:V->List V->Hp->VK->Prop}(slot:Slot "list" m id)(hty:typeOf (.builtin id)=pure (.type "method_descriptor"))(hM:ZF X id r)(hr:∀x vs H Q,G0 W f x vs H Q->r x vs H Q)
 (hs:ct.slot x=some i)(hm:LY 1 ap cp=true)(ha:Bt X W EX cf a t):PS X (.Expr (.Call (.Attribute (.Name x p) m ap) [a] [] cp) pos) (rS W EX cf (.Bu i true f [t])):=
 C1 (EJ (Wh PySem.F.plainAttrs_list slot hty hM (L.pv hs) (Qt (.cons ha .nil)) rfl (cG ha.st) (CK hm) (A9 ha.st [] X.env))) λD σ H z=>Q0 X.K hr z
theorem YL(l:List Value)(k:Nat)(y:Value):(l.toArray.extract 0 k).push y++l.toArray.extract k=(l.take k++y::l.drop k).toArray:=by
 apply Array.toList_inj.mp;simp;exact take_of_length_le (by simp)
def ba:V->List V->Hp->VK->Prop:=λx vs H Q=>∃l xs i y,x= .ref l/\vs=[.int i,y]/\H l=some (.lst xs)/\0<=i/\i<=xs.length/\xs.length < big/\Q .A8 (upd H l (.lst (xs.take i.toNat++y::xs.drop i.toNat)))
theorem Ow:ZF X "list.insert" ba:=by
 intro pins s σ H x vs v us Q I rx rv h;obtain⟨l,xs,i,y,rfl,rfl,hH,h0,hi,hz,q⟩:=h;cases rx;obtain⟨u,w,rfl,⟨t,rfl⟩,rw'⟩:=rv.two;obtain⟨z,its,n,r,hl,e⟩:=I.OB hH;have hb:=BH;have hbb:big=100000:=rfl;have hf:Builtin.List.listFitsIndex i=true:=fitsIndex_both (by lia) (by lia);refine call_meets F.slot_list_insert ⟨_,e,rfl⟩ F.entry_list_insert (F.args_list_insert_3 _ _ _) (AutoSeq1.list_insert_list_int_val_1 l its.toArray n i t w (by simp[hf]) (by rw[size_toArray];lia)) ⟨e,?_⟩;refine⟨.A8,_,I.OC (its':=its.take i.toNat++w::its.drop i.toNat) hH e ?_ ((r.take _).append (.cons rw' (r.drop _))) ?_,rfl,q⟩
 .show(its.toArray.extract 0 (if i < 0 then(i+(its.toArray.size:Int)).toNat else min i.toNat its.toArray.size)).push w++its.toArray.extract (if i < 0 then(i+(its.toArray.size:Int)).toNat else min i.toNat its.toArray.size)=_;rw[iN (by lia),size_toArray,show min i.toNat its.length=i.toNat by lia];exact YL its _ w
 .rw[lA,lC,length_take,length_drop]
  lia
theorem QP:∀x vs H Q,G0 W (G1 KA) x vs H Q->ba x vs H Q:=by
 rintro x vs H Q ⟨own,bor,c,cs,c',h1,h2,e,q⟩
 obtain⟨a,b,rfl,e⟩:=Qy e;obtain⟨ps,ep,e⟩:=Ae e;obtain⟨i,ei,e⟩:=Ae e;obtain⟨y,ey,e⟩:=Ae e;obtain⟨hl,rfl⟩:=A6 e;cases EN ep;cases C.Bh ei;cases C.Cs ey;obtain⟨v,u,rfl,r1,r2⟩:=W7 h2;cases Ba r1;obtain⟨l,ws,rfl,k1,k2,k3⟩:=DR h1 q;have:=Paired.length k2;exact⟨l,ws,i,u,rfl,rfl,k1,hl.1,by lia,by lia,k3 _ _ (Pd.insert (JT r2) _ k2)⟩
theorem UJ:∀x H Q,G0 W RY x [] H Q->LI x [] H Q:=by
 rintro x H Q ⟨own,bor,c,cs,c',h1,h2,e,q⟩
 obtain⟨ps,ep,e⟩:=Ae e;obtain⟨hl,rfl⟩:=A6 e;cases EN ep;obtain⟨l,ws,rfl,k1,k2,k3⟩:=DR h1 q;exact⟨l,ws,rfl,rfl,k1,k3 _ _ .nil⟩
theorem fY(h:Al a=true)(h2:Al b=true):((backTo pos (starEach [a,b] X.env)).all (λx=>!x.1) && (backToKw pos (keywordEach [] X.env)).all (λx=>x.1.isSome)
 && decide (([a,b]:List Expr).length+([]:List Keyword).length+(if([]:List Keyword).isEmpty then 0 else 1) < 30))=true:=by
 rw[A9 h [b] X.env,A9 h2 [] X.env];rfl
theorem Ti(L:Br ct X W EX cf k){i:Nat}(hs:ct.slot x=some i)(hm:LY 2 ap cp=true)(ha:Bt X W EX cf a t)(hb:Bt X W EX cf b u):PS X (.Expr (.Call (.Attribute (.Name x p) "insert" ap) [a,b] [] cp) pos) (rS W EX cf (.Bu i true (G1 KA) [t,u])):=
 C1 (EJ (Wh PySem.F.plainAttrs_list PySem.F.slot_list_insert PySem.F.type_list_insert Ow (L.pv hs) (Qt (.cons ha (.cons hb .nil))) rfl (fY ha.st hb.st) (CK hm) (A9 ha.st [b] X.env) (by rw[A9 hb.st [] X.env];rfl))) λD σ H z=>Q0 X.K QP z
theorem Tj(L:Br ct X W EX cf k){i:Nat}(hs:ct.slot x=some i)(hm:LY 0 ap cp=true):PS X (.Expr (.Call (.Attribute (.Name x p) "clear" ap) [] [] cp) pos) (rS W EX cf (.Bu i true RY [])):=
 C1 (EJ (Jd PySem.F.plainAttrs_list PySem.F.slot_list_clear PySem.F.type_list_clear QL (L.pv hs) rfl (CK hm))) λD σ H z=>by
  have z:=Q0 (r:=λx vs H Q=>vs=[]->LI x vs H Q) X.K (λx vs H Q y e=>by subst e;exact UJ x H Q y) z;obtain⟨v,q1,q2,ρ,B,R,hA⟩:=z;exact⟨v,q1,q2,hA [] H (Ext.refl H) R.tb ⟨λ_=>0,rfl⟩ rfl⟩
theorem Xa(opx:∀{ct X EX},Br ct X W EX cf k->SY ct X W)(L:Br ct X W EX cf k){t:S}(h:R7 ct e=some t):PS X (.Expr e pos) (rS W EX cf t):=by
 obtain⟨q,h1,h2⟩:=Ae h;clear h;obtain⟨y,yp,ap,cp,rfl,hm,hs⟩:=Nd h1;clear h1;obtain⟨i,m,args⟩:=q;dsimp only at h2 hm hs ⊢;split at h2
 .rename_i hc;cases h2;obtain⟨rfl,e2⟩:=hc;cases isEmpty_iff.mp e2;exact PR L hs hm
 split at h2
 .rename_i hc;cases h2;obtain⟨rfl,e2⟩:=hc;cases isEmpty_iff.mp e2;exact Tj L hs hm
 split at h2
 .rename_i hc;obtain⟨ab,h3,h2⟩:=Ae h2;obtain⟨t1,h4,h2⟩:=Ae h2;obtain⟨t2,h5,rfl⟩:=Bg h2;cases Fp h3;subst hc;exact Ti L hs hm (FH opx (sizeOf ab.1) ab.1 (lR) L h4) (FH opx (sizeOf ab.2) ab.2 (lR) L h5)
 .obtain⟨f,h3,h2⟩:=Ae h2;obtain⟨a,h4,h2⟩:=Ae h2;obtain⟨u,h5,rfl⟩:=Bg h2;cases CY h4;have hsn:=FH opx (sizeOf a) a (lR) L h5;unfold bP at h3;split at h3
  .rename_i hx;subst hx;cases h3;exact PU L PySem.F.slot_list_append PySem.F.type_list_append Oy QR hs hm hsn
  .obtain⟨rfl,rfl⟩:=A6 h3;exact PU L PySem.F.slot_list_extend PySem.F.type_list_extend Yp (QQ L.K) hs hm hsn
theorem Tf(opx:∀{ct X EX},Br ct X W EX cf k->SY ct X W)(L:Br ct X W EX cf k){t:S}(h:M8 ct e=some t):PS X (.Raise (some e) none pos) (rS W EX cf t):=by
 obtain⟨q,h1,h⟩:=Ae h;obtain⟨x,h2,h⟩:=Ae h;obtain⟨a,h3,h⟩:=Ae h;obtain⟨hc,h⟩:=AH h;obtain⟨c,h4,h⟩:=Ae h;obtain⟨Cw,h⟩:=AH h;obtain⟨u,h5,rfl⟩:=Bg h;rw[bA]at hc;cases e with
 |Call f as kw cp=>
   cases h1;obtain⟨p,hf⟩:=Cu h2;cases (show f=_ from hf);cases (show as=_ from CY h3);cases isEmpty_iff.mp (show kw.isEmpty=true from hc.2);obtain⟨g1,g2,g3⟩:=L.glob hc.1;obtain⟨ff,sf,st,fd,xk⟩:=L.xk c (by simpa using Cw);have ha:=FH opx (sizeOf a) a (lR) L h5;intro pins s σ H D I z;obtain⟨Hin,A0,Bo,ρ,S,hA⟩:=z
   replace hA:Bp W EX Hin A0 Bo [] D σ ((ev cf u ρ).fl ρ λc'=>match c'.GZ with
    |some p=>.err c p ρ
    |none=>.stuck):=hA
   refine Xc.Oi (R:=λv H1=>∃p',Af W H1 p' v/\EX c p' σ H1) xk (L.room.mono (by have:=L.k3;lia)) g1 (L.cls x c h4) g2 I ha.v (A9 ha.st [] X.env) ⟨ρ,_,S.rev,hA.step S λc' v H1 e t r h1=>?_⟩ ?_
   .cases ep:c'.GZ with
    |none=>rw[ep]at h1;exact h1.elim
    |some p'=>
      rw[ep]at h1;cases C.Cs ep;exact⟨p',r,h1 σ H1 (S.ext e t) (AD.refl _ _)⟩
   .rintro s1 s' e t d w v H1 I1 ⟨p',r,ex⟩ rv a1 a2 a3 a4 a5 a6 a7 a8
    exact(L.ex _ _ _ _ ex).2 pins s1 s' e t d w v I1 r rv a1 a2 a3 a4 a5 a6 a7 a8
 |_=>cases h1
section
variable{prog:Program}{w:World}{A:Around}{E:Va}{s:Shared}
variable{vs:Array Value}
theorem IA{it l:Addr}(hne:l≠it):∀(n i:Nat) (s:Shared) (Q:List Value->Shared->Prop),s.heap.IsListIter it l i->s.heap.IsList l vs->i + n<=vs.size->
 (∀h',h'.IsListIter it l (i+n)->Heap.SameBut it s.heap h'->Q ((vs.toList.drop i).take n) {s with heap:=h'})->wpAny (model prog w) A (draw (.ref it) n) Q E s
 |0,i,s,Q,hit,_,_,hQ=>wP (by simpa using hQ s.heap hit (Heap.SameBut.refl ..))
 | n + 1,i,s,Q,hit,hl,hle,hQ=>by
   have hlt:i < vs.size:=by lia
   show wpAny _ _ (pyNext (.ref it) >>= _) Q E s;refine wB (wpAny_pyNext_list_item hit hl (x:=vs[i]) (by simp[hlt]) λh1 t1 s1=>?_);refine wB (wpAny_holding (IA hne n (i+1) _ _ t1 (hl.extBut s1.extBut hne) (by lia) λh2 t2 s2=>wP ?_));have:=hQ h2 (by rw[show i+(n+1)=i+1+n by lia];exact t2) (s1.trans s2);rw[show vs.toList.drop i=vs[i]::vs.toList.drop (i+1)by simp[List.drop_eq_getElem_cons,hlt],List.take_succ_cons]at this;exact this
theorem Sy{env:PySem.Env}{es:List Expr}{x1}{pos:Pos}{Q:Unit->Shared->Prop}(hh:A.handled=none)(hl:s.heap.IsList l vs)(hn:(assignEach es env).length=vs.size)(hst:(assignEach es env).findIdx? (·.1)=none)
 (h:∀h',Heap.ExtBut s.heap.objs.size s.heap h'->wpAny (model prog w) A (assignInOrder ((assignEach es env).map (·.2)) vs.toList) Q E {s with heap:=h'}):wpAny (model prog w) A (assign (.Tuple es x1 pos) env (.ref l)) Q E s:=by
 rw[assign_Tuple];refine wB (wpAny_standAt ?_);unfold unpack;rw[hn,hst];refine wB (wpAny_holding ?_);have hlt:l≠s.heap.objs.size:=by obtain⟨o,ho,_⟩:=hl;exact Nat.ne_of_lt (Heap.lt_size ho)
 unfold unpackItems;refine wB ?_;unfold notIterableAtAll;refine wB (wpAny_specialOf hl.typeIs slot_list_iter.lookup ?_);refine wP ?_;simp only[Bool.false_eq_true,if_false];refine wB (wpAny_holding (wpAny_pyIter_list hl ?_));refine wB (wpAny_holding (IA hlt vs.size 0 _ _ ⟨_,Heap.get?_push_size _ rfl,rfl,rfl⟩ (hl.push _) (by lia) λh1 t1 s1=>?_));rw[show List.take vs.size (List.drop 0 vs.toList)=vs.toList by rw[List.drop_zero];exact take_of_length_le (by simp)];rw[iN (by simp)];refine wB (wpAny_holding (wpAny_pyNext_list_end hh t1 ((hl.push _).extBut s1.extBut hlt) (by simp) λh2 e2=>?_));simp only[Option.isSome_none,Bool.false_eq_true,if_false];exact wP (h h2 λb o hb e=>e2 b o hb (s1.extBut b o hb (gP e)))
end
def fW(K:Frag)(n:Nat)(t:SW):TG:=λv σ H Q=>∃a xs,v= .ref a/\(Ep K H a xs\/DF K H a xs)/\xs.length=n/\t xs σ H Q
theorem XI{es:List Expr}{k:Nat}{t:SW}(hc:X.calm=true)(h:ZU X es t)(hn:(assignEach es X.env).length=n)(hst:(assignEach es X.env).findIdx? (·.1)=none):PG X (.Tuple es k pos) (fW X.K n t):=by
 intro pins s σ H v u Q I r hw;obtain⟨a,xs,e1,hq,hl,hw⟩:=hw;rcases hq with hq|hq
 .subst e1;cases r;obtain⟨its,rv,p,hz⟩:=I.list hq;refine Sy (I.ok.hd hc) p.isList (by simp[hn,<-hl,rv.length]) hst λh' hx=>?_
  have I1:Inv X pins σ H {s with heap:=h'}:=I.kept (t':=s.toks) λb o e=>hx b o (Nat.ne_of_lt (Heap.lt_size e)) e
  exact h pins _ σ H xs _ Q I1 (by simpa using rv) hw
 .exact Qj hc h hn hst pins s σ H v u Q I r ⟨a,xs,e1,hq,hl,hw⟩
theorem X6{es:List Expr}(h:Dr e=false){env:PySem.Env}:swappedStores [.Tuple es n p] e env=pure none:=by
 cases e<;>first|rfl|cases h
theorem X5{es:List Expr}{l:Nat}{env:PySem.Env}:swapsWithSole [.Tuple es n p] e l env=pure false:=by
 cases e<;>rfl
theorem Td(L:Br ct X W EX cf k){es:List Expr}{is:List Nat}(ht:Dr e=false)(hs:Bt X W EX cf e t)(hk:Kx ct es=some is):PS X (.Assign [.Tuple es n p] e pos) (rS W EX cf (.asg (.tup is) t)):=by
 obtain⟨q1,q2,q3,q4⟩:=LL L hk;refine EI (Qf hs.v (XI L.calm q1 q2 q3) X5 (X6 ht)) λD σ H hl z=>?_
 obtain⟨Hin,A0,Bo,ρ,S,hA⟩:=z
 replace hA:Bp W EX Hin A0 Bo is D σ ((ev cf t ρ).fl ρ λc=>match GR (.tup is) c ρ with
  |some ρ'=>.nx ρ'
  |none=>.stuck):=hA
 refine⟨ρ,_,S.rev,hA.step S λc v H1 e t r h1=>?_⟩;cases es:GR (.tup is) c ρ with
 |none=>rw[es]at h1;exact h1.elim
 |some ρ'=>
   rw[es]at h1;obtain⟨ps,e1,e2⟩:=Ae (show((match c with| .lst _ ps=>some ps| .p x=>x.CV |_=>none).bind λps=>IX (.tup is) (.tup ps) ρ)=some ρ' from es);obtain⟨hlen,e3⟩:=A6 (show(if is.length=ps.length then some ((is.zip ps).foldl (λr q=>r.set q.1 (some (.p q.2))) ρ)else none)=some ρ' from e2)
   have key:∃a xs,v= .ref a/\(Ep X.K H1 a xs\/DF X.K H1 a xs)/\CU W H1 ps xs:=by
    cases c with
    |lst o qs=>
      cases e1;obtain⟨a,xs,z1,z2,z3⟩:=Fx (c:=.lst o ps) rfl r;exact⟨a,xs,z1,by rw[<-L.K];exact z2,z3⟩
    |p x=>
      cases P.Bx e1;obtain⟨a,xs,z1,z2,z3⟩:=Cb r;exact⟨a,xs,z1,.inr (by rw[<-L.K];exact z2),z3⟩
    |_=>cases e1
   obtain⟨a,xs,z1,z2,z3⟩:=key;have:=Paired.length z3;refine⟨a,xs,z1,z2,by lia,Mg z3 hlen (S.ext e t) (λi hi=>by rw[hl];exact q4 i hi) λσ' s u=>?_⟩;rw[e3]at s;exact h1 σ' H1 s u
variable{Pg:Program}
variable{xs:List V}
theorem D3(Aq:DV Pg W.w H h)(Dn:W.K.In h)(hs:DF W.K H a xs):∃its:List Value,Vals xs its/\IsTup h a its.toArray:=by
 rcases hs with hs|⟨o,its,n,hk,hc,hd,hz,r⟩
 .obtain⟨z,its,r,p⟩:=hs.ok Aq;exact⟨its,r,p⟩
 .exact⟨its.toList,r,⟨o,Dn a o hk,hc,n,by simpa using hd⟩⟩
variable{ys:List V}{us:List Value}
theorem OI{zs:List Value}(hx:Vals xs us)(hy:Vals ys zs)(p:IsTup h a us.toArray)(q:IsTup h a zs.toArray):xs=ys:=by
 obtain⟨o,e1,_,n,d1⟩:=p;obtain⟨o',e2,_,n',d2⟩:=q;rw[e1]at e2;cases e2;rw[d1]at d2;injection d2 with d3 _
 have:us=zs:=by simpa using congrArg Array.toList d3
 subst this;exact hx.inj hy
def Dh:P->Option V
 |.A8=>some .A8
 |.bl b=>some (.bl b)
 |.int i=>some (.int i)
 |.str x=>some (.str x)
 |_=>none
theorem Df{w:V}(h:Af W H p v)(e:Dh p=some w):v=w:=by
 cases p with
 |A8=>cases e;exact DJ.mp h
 |bl _=>cases e;exact Dj.mp h
 |int _=>cases e;exact Ao.mp h
 |str _=>cases e;exact By.mp h
 |_=>cases e
theorem P1{v:V}(e:Dh p=some v)(f:Dh q=some v):p=q:=by
 cases p<;>cases e<;>cases q<;>cases f<;>rfl
theorem PB{q:P}(h:q.tag < 4):∃v,Dh q=some v:=by
 cases q<;>first|exact⟨_,rfl⟩|(simp[P.tag]at h)
theorem Sw{q:P}{v:V}(h:Dh q=some v):q.tag < 4/\q.CV =none/\∀a,v≠.ref a:=by
 cases q<;>cases h<;>exact⟨by simp[P.tag],rfl,nofun⟩
def dm(A:Around)(s:Shared)(u z:Value)(b:Bool):Prop:=SeqAt.RcAt A s u z b/\SeqAt.RcNeAt A s u z (!b)/\SeqAt.EqAt A s u z b
theorem NC[DecidableEq α][BEq α][LawfulBEq α]{f:α->P}(hf:∀a b,f a=f b->a=b)(a b:α):decide (f a=f b)=(a == b):=by
 by_cases h:a=b
 .subst h;simp
 .rw[dF λz=>h (hf _ _ z)];simp[h]
variable{A:Around}
theorem Vb{v y:V}{s:Shared}(hp:Dh p=some v)(hq:Dh q=some y)(r:RelV v u)(r':RelV y z)(hc:CM p q=true):dm A s u z (decide (p=q)):=by
 cases p with
 |A8=>
   cases hp;cases r;cases q with
   |A8=>cases hq;cases r';exact⟨SeqAt.RcAt.none_none,SeqAt.RcNeAt.none_none,SeqAt.EqAt.same _⟩
   |bl b=>cases hq;cases r';exact⟨SeqAt.RcAt.none_bool _,SeqAt.RcNeAt.none_bool _,SeqAt.EqAt.none_bool _⟩
   |int b=>cases hq;obtain⟨t,rfl⟩:=r';exact⟨SeqAt.RcAt.none_int _ _,SeqAt.RcNeAt.none_int _ _,SeqAt.EqAt.none_int _ _⟩
   |str b=>cases hq;obtain⟨t,rfl⟩:=r';exact⟨SeqAt.RcAt.none_str _ _,SeqAt.RcNeAt.none_str _ _,SeqAt.EqAt.none_str _ _⟩
   |_=>cases hq
 |bl i=>
   cases hp;cases r;cases q with
   |A8=>cases hq;cases r';exact⟨SeqAt.RcAt.bool_none _,SeqAt.RcNeAt.bool_none _,SeqAt.EqAt.bool_none _⟩
   |bl b=>cases hq;cases r';rw[NC (f:=P.bl) λ_ _=>P.bl.inj];exact⟨SeqAt.RcAt.bool_bool _ _,SeqAt.RcNeAt.bool_bool _ _,SeqAt.EqAt.bool_bool _ _⟩
   |int b=>unfold CM at hc;cases hc
   |str b=>cases hq;obtain⟨t,rfl⟩:=r';exact⟨SeqAt.RcAt.bool_str _ _ _,SeqAt.RcNeAt.bool_str _ _ _,SeqAt.EqAt.bool_str _ _ _⟩
   |_=>cases hq
 |int i=>
   cases hp;obtain⟨t,rfl⟩:=r;cases q with
   |A8=>cases hq;cases r';exact⟨SeqAt.RcAt.int_none _ _,SeqAt.RcNeAt.int_none _ _,SeqAt.EqAt.int_none _ _⟩
   |bl b=>unfold CM at hc;cases hc
   |int b=>cases hq;obtain⟨t,rfl⟩:=r';rw[NC (f:=P.int) λ_ _=>P.int.inj];exact⟨SeqAt.RcAt.int_int _ _ _ _,SeqAt.RcNeAt.int_int _ _ _ _,SeqAt.EqAt.int_int _ _ _ _⟩
   |str b=>cases hq;obtain⟨t,rfl⟩:=r';exact⟨SeqAt.RcAt.int_str _ _ _ _,SeqAt.RcNeAt.int_str _ _ _ _,SeqAt.EqAt.int_str _ _ _ _⟩
   |_=>cases hq
 |str i=>
   cases hp;obtain⟨t,rfl⟩:=r;cases q with
   |A8=>cases hq;cases r';exact⟨SeqAt.RcAt.str_none _ _,SeqAt.RcNeAt.str_none _ _,SeqAt.EqAt.str_none _ _⟩
   |bl b=>cases hq;cases r';exact⟨SeqAt.RcAt.str_bool _ _ _,SeqAt.RcNeAt.str_bool _ _ _,SeqAt.EqAt.str_bool _ _ _⟩
   |int b=>cases hq;obtain⟨t,rfl⟩:=r';exact⟨SeqAt.RcAt.str_int _ _ _ _,SeqAt.RcNeAt.str_int _ _ _ _,SeqAt.EqAt.str_int _ _ _ _⟩
   |str b=>cases hq;obtain⟨t,rfl⟩:=r';rw[NC (f:=P.str) λ_ _=>P.str.inj];exact⟨SeqAt.RcAt.str_str _ _ _ _,SeqAt.RcNeAt.str_str _ _ _ _,SeqAt.EqAt.str_str _ _ _ _⟩
   |_=>cases hq
 |_=>cases hp
theorem Ww{its:Array Value}{v:V}{s:Shared}(hp:Dh p=some v)(r:RelV v u)(t:IsTup s.heap b its)(hu:A.units + 1 < cLine):dm A s u (.ref b) false/\dm A s (.ref b) u false:=by
 have h0:A.units < cLine:=by lia
 cases p with
 |A8=>cases hp;cases r;exact⟨⟨SeqAt.RcAt.none_tuple t h0,SeqAt.RcNeAt.none_tuple t h0,SeqAt.EqAt.none_tuple t h0⟩,SeqAt.RcAt.tuple_none t h0,SeqAt.RcNeAt.tuple_none t h0,SeqAt.EqAt.tuple_none t h0⟩
 |bl b=>cases hp;cases r;exact⟨⟨SeqAt.RcAt.bool_tuple _ t h0,SeqAt.RcNeAt.bool_tuple _ t h0,SeqAt.EqAt.bool_tuple _ t h0⟩,SeqAt.RcAt.tuple_bool _ t h0,SeqAt.RcNeAt.tuple_bool _ t h0,SeqAt.EqAt.tuple_bool _ t h0⟩
 |int b=>cases hp;obtain⟨t',rfl⟩:=r;exact⟨⟨SeqAt.RcAt.int_tuple _ _ t h0,SeqAt.RcNeAt.int_tuple _ _ t h0,SeqAt.EqAt.int_tuple _ _ t h0⟩,SeqAt.RcAt.tuple_int _ _ t h0,SeqAt.RcNeAt.tuple_int _ _ t h0,SeqAt.EqAt.tuple_int _ _ t h0⟩
 |str b=>cases hp;obtain⟨t',rfl⟩:=r;exact⟨⟨SeqAt.RcAt.str_tuple _ _ t h0,SeqAt.RcNeAt.str_tuple _ _ t h0,SeqAt.EqAt.str_tuple _ _ t h0⟩,SeqAt.RcAt.tuple_str _ _ t h0,SeqAt.RcNeAt.tuple_str _ _ t h0,SeqAt.EqAt.tuple_str _ _ t h0⟩
 |_=>cases hp
theorem IC{v:V}(e:Dh p=some v)(h:CM p q=true):(∃y,Dh q=some y)\/∃qs,q= .tup qs:=by
 cases q with
 |tup ps=>exact .inr ⟨ps,rfl⟩
 |fn _ _=>cases p<;>cases e<;>(unfold CM at h;cases h)
 |box _ _=>cases p<;>cases e<;>(unfold CM at h;cases h)
 |_=>exact .inl ⟨_,rfl⟩
theorem L1{ps:List P}(h:CM (.tup ps) q=true):(∃y,Dh q=some y)\/∃qs,q= .tup qs/\C9 ps qs=true:=by
 unfold CM at h;rw[Bool.or_eq_true]at h;rcases h with h|h
 .exact .inl (PB (of_decide_eq_true h))
 .obtain⟨qs,e1,e2⟩:=any_some h;exact .inr ⟨qs,P.Bx e1,e2⟩
mutual
theorem Af.det {h:Heap} (Aq:DV Pg W.w H h) (Dn:W.K.In h):∀{p q:P} {v:V},Af W H p v->Af W H q v->CM p q=true->p=q
 | .tup ps,q,v,hp,hq,hc=>by
   obtain⟨a,vs,rfl,s1,r1⟩:=AX.mp hp;rcases L1 hc with⟨y,hy⟩|⟨qs,rfl,hc⟩
   .exact absurd (Df hq hy).symm ((Sw hy).2.2 a)
   .obtain⟨b,ws,e,s2,r2⟩:=AX.mp hq;cases e;obtain⟨its,v1,p1⟩:=D3 Aq Dn s1;obtain⟨its',v2,p2⟩:=D3 Aq Dn s2;cases OI v1 v2 p1 p2;rw[C7.det Aq Dn r1 r2 hc]
 | .A8,q,v,hp,hq,hc| .bl _,q,v,hp,hq,hc| .int _,q,v,hp,hq,hc| .str _,q,v,hp,hq,hc=>by
   have e1:=Df hp rfl;rcases IC rfl hc with⟨y,hy⟩|⟨qs,rfl⟩
   .have e2:=Df hq hy;subst e1;subst e2;exact P1 rfl hy
   .obtain⟨a,_,e2,_⟩:=AX.mp hq;subst e1;cases e2
 |.fn _ _,q,v,hp,hq,hc| .box _ _,q,v,hp,hq,hc=>by unfold CM at hc;cases hc
theorem C7.det {h:Heap} (Aq:DV Pg W.w H h) (Dn:W.K.In h):∀{ps qs:List P} {vs:List V},CU W H ps vs->CU W H qs vs->C9 ps qs=true->ps=qs
 |[],qs,vs,hp,hq,hc=>by cases hp;cases hq;rfl
 | p ::ps,qs,vs,hp,hq,hc=>by
   cases hp with
   |cons h1 h2=>
     cases hq with
     |cons g1 g2=>
       unfold C9 at hc;rw[bA]at hc;rw[Af.det Aq Dn h1 g1 hc.1,C7.det Aq Dn h2 g2 hc.2]
end
def RT(b:Bool)(e:Nat->Bool):Nat->Bool
 |0=>b
 |j+1=>e j
theorem P5(b:Bool)(e:Nat->Bool)(n m:Nat):((List.range (min (n + 1) (m + 1))).all (RT b e) && (n + 1 == m + 1))=(b && ((List.range (min n m)).all e && n == m)):=by
 rw[show min (n+1) (m+1)=min n m+1 by lia,List.range_succ_eq_map,all_cons,all_map];have h1:(RT b e ∘ Nat.succ)=e:=rfl
 have h2:(n + 1 == m + 1)=(n == m):=by
  by_cases h:n=m
  .simp[h]
  .simp[h]
 rw[h1,h2,Bool.and_assoc];rfl
theorem in1_units:A.in1.units=A.units+1:=by first|rfl|simp[Around.in1]
variable{qs:List P}
theorem Vg{ps:List P}:decide (P.tup ps=P.tup qs)=decide (ps=qs):=by
 by_cases h:ps=qs
 .subst h;simp
 .rw[dF h,dF (λz=>h (P.tup.inj z))]
theorem OV{ps:List P}:(P.tup ps).depth=P.AO ps+1:=by conv=>lhs;unfold P.depth
theorem Mp{p:P}{ps:List P}:P.AO (p::ps)=max p.depth (P.AO ps):=by conv=>lhs;unfold P.AO
theorem FY{v:V}(e:Dh p=some v):decide (p= .tup qs)=false/\decide (P.tup qs=p)=false:=by
 cases p<;>cases e<;>exact⟨dF nofun,dF nofun⟩
theorem RG{p:P}{w:V}{s:Shared}(hp:Af W H p v)(hq:Af W H q y)(r:RelV v u)(r':RelV y z)(Aq:DV Pg W.w H s.heap)(Dn:W.K.In s.heap)(hc:CM p q=true)(hu:A.units + p.depth + 1 < cLine)(hv:Dh p=some w):dm A s u z (decide (p=q)):=by
 cases Df hp hv;rcases IC hv hc with⟨w,hy⟩|⟨qs,rfl⟩
 .cases Df hq hy;exact Vb hv hy r r' hc
 .obtain⟨b,ws,rfl,s2,r2⟩:=AX.mp hq;cases r';obtain⟨its,v1,p1⟩:=D3 Aq Dn s2;rw[(FY hv).1];exact(Ww hv r p1 (by lia)).1
mutual
theorem RE:∀(p:P) {q:P} {v y:V} {u z:Value} {A:Around} {s:Shared},Af W H p v->Af W H q y->RelV v u->RelV y z->DV Pg W.w H s.heap->W.K.In s.heap->CM p q=true->A.units + p.depth + 1 < cLine->
 dm A s u z (decide (p=q))
 | .tup ps,q,v,y,u,z,A,s,hp,hq,r,r',Aq,Dn,hc,hu=>by
   have hp0:=hp;have hc0:=hc;obtain⟨a,vs,rfl,s1,r1⟩:=AX.mp hp;cases r;obtain⟨its,v1,p1⟩:=D3 Aq Dn s1;rcases L1 hc with⟨w,hy⟩|⟨qs,rfl,hc⟩
   .cases Df hq hy;rw[(FY hy).2];exact(Ww hy r' p1 (by lia)).2
   .obtain⟨b,ws,rfl,s2,r2⟩:=AX.mp hq;cases r';obtain⟨its',v2,p2⟩:=D3 Aq Dn s2;have hu1:A.in1.units=A.units+1:=in1_units;have hdp:=OV (ps:=ps);obtain⟨e,he,hd⟩:=Ml ps (A:=A.in1) (s:=s) r1 r2 v1 v2 Aq Dn hc (by lia);have hj:∀j (h1:j < its.toArray.size) (h2:j < its'.toArray.size),SeqAt.EqAt A.in1 s its.toArray[j] its'.toArray[j] (e j):=λj h1 h2=>he j _ _ (by simp at h1 ⊢) (by simp at h2 ⊢)
    have rc:=SeqAt.RcAt.tuples (A:=A) (s:=s) (e:=e) p1 p2 (by lia) hj;have rn:=SeqAt.RcNeAt.tuples (A:=A) (s:=s) (e:=e) p1 p2 (by lia) hj;rw[size_toArray,size_toArray,hd,<-Vg]at rc rn;refine⟨rc,rn,?_⟩
    by_cases hab:a=b
    .subst hab;rw[dZ (Af.det Aq Dn hp0 hq hc0)];exact SeqAt.EqAt.same _
    .exact SeqAt.EqAt.of_refs hab rc
 | .A8,q,v,y,u,z,A,s,hp,hq,r,r',Aq,Dn,hc,hu| .bl _,q,v,y,u,z,A,s,hp,hq,r,r',Aq,Dn,hc,hu| .int _,q,v,y,u,z,A,s,hp,hq,r,r',Aq,Dn,hc,hu| .str _,q,v,y,u,z,A,s,hp,hq,r,r',Aq,Dn,hc,hu=>by
   exact RG hp hq r r' Aq Dn hc hu rfl
 |.fn _ _,q,v,y,u,z,A,s,hp,hq,r,r',Aq,Dn,hc,hu| .box _ _,q,v,y,u,z,A,s,hp,hq,r,r',Aq,Dn,hc,hu=>by unfold CM at hc;cases hc
theorem Ml:∀(ps:List P) {qs:List P} {vs ws:List V} {us zs:List Value} {A:Around} {s:Shared},CU W H ps vs->CU W H qs ws->Vals vs us->Vals ws zs->DV Pg W.w H s.heap->W.K.In s.heap->C9 ps qs=true->A.units + P.AO ps + 1 < cLine->
 ∃e:Nat->Bool,(∀(j:Nat) (x y:Value),us[j]? =some x->zs[j]? =some y->SeqAt.EqAt A s x y (e j))/\((List.range (min us.length zs.length)).all e && us.length == zs.length)=decide (ps=qs)
 | [],qs,vs,ws,us,zs,A,s,hp,hq,r,r',Aq,Dn,hc,hu=>by
   cases hp;cases r;refine⟨λ_=>true,λj x y hx _=>by simp at hx,?_⟩;cases hq with
   |nil=>cases r';rfl
   |cons _ _=>cases r';rw[dF nofun];simp
 | p ::ps,qs,vs,ws,us,zs,A,s,hp,hq,r,r',Aq,Dn,hc,hu=>by
   cases hp with
   |cons h1 h2=>
     cases r with
     |cons r1 r2=>
       cases hq with
       |nil=>
         cases r';refine⟨λ_=>true,λj x y _ hy=>by simp at hy,?_⟩;rw[dF nofun];simp
       |cons g1 g2=>
         rename_i q _ qs _;cases r' with
         |cons q1 q2=>
           unfold C9 at hc;rw[bA]at hc;have hd:=Mp (p:=p) (ps:=ps);obtain⟨e,he,hdd⟩:=Ml ps (A:=A) (s:=s) h2 g2 r2 q2 Aq Dn hc.2 (by lia);have h0:=(RE p (A:=A) (s:=s) h1 g1 r1 q1 Aq Dn hc.1 (by lia)).2.2;refine⟨RT (decide (p=q)) e,λj x y hx hy=>?_,?_⟩
           .cases j with
            |zero=>
              simp at hx hy;subst hx hy;exact h0
            |succ j=>exact he j x y (by simpa using hx) (by simpa using hy)
           .rw[lC,lC,P5,hdd]
            by_cases h1:p=q<;>by_cases h2:ps=qs<;>simp[h1,h2]
end
theorem QS{ps:List P}{σ:L2.St}{s:Shared}(hK:W.K=X.K)(hw:W.w=X.w)(hu:X.A.units + 200 < cLine)(I:Inv X pins σ H s)(ha:Rd H a (.lst xs))(hb:Rd H b (.lst ys))(h1:CU W H ps xs)(h2:CU W H qs ys)
 (hc:C9 ps qs=true)(hd:P.AO ps<=90):SeqAt.RcAt X.A s (.ref a) (.ref b) (decide (ps=qs))/\SeqAt.RcNeAt X.A s (.ref a) (.ref b) (!decide (ps=qs)):=by
 obtain⟨its1,r1,p1,z1⟩:=I.list (.inl ha);obtain⟨its2,r2,p2,z2⟩:=I.list (.inl hb);have hu1:X.A.in1.units=X.A.units+1:=in1_units;obtain⟨e,he,hd⟩:=Ml (Pg:=X.prog) ps (A:=X.A.in1) (s:=s) h1 h2 r1 r2 (hw▸I.Aq) (hK▸I.FF) hc (by lia)
 by_cases hl:its1.length=its2.length
 .have e1:((List.range its1.toArray.size).all e)=decide (ps=qs):=by
   rw[<-hd,size_toArray,<-hl];simp
  have hj:∀j (h1:j < its1.toArray.size) (h2:j < its2.toArray.size),SeqAt.EqAt X.A.in1 s its1.toArray[j] its2.toArray[j] (e j):=λj h1 h2=>he j _ _ (by simp at h1 ⊢) (by simp at h2 ⊢)
  have q1:=SeqAt.RcAt.lists (e:=e) p1.isList p2.isList (by rw[size_toArray,size_toArray];exact hl) (by lia) hj;have q2:=SeqAt.RcNeAt.lists (e:=e) p1.isList p2.isList (by rw[size_toArray,size_toArray];exact hl) (by lia) hj;rw[e1]at q1 q2;exact⟨q1,q2⟩
 .have e1:decide (ps=qs)=false:=by
   rw[<-hd];simp[hl]
  rw[e1]
  have hne:(its1.toArray.size != its2.toArray.size)=true:=by
   rw[size_toArray,size_toArray];simpa using hl
  exact⟨SeqAt.RcAt.lists_lengths p1.isList p2.isList hne (by lia),SeqAt.RcNeAt.lists_lengths p1.isList p2.isList hne (by lia)⟩
theorem RF(hK:W.K=X.K)(hw:W.w=X.w)(hu:X.A.units + 200 < cLine){s:Shared}{σ:L2.St}{t:Bool}(I:Inv X pins σ H s)(rx:RelV x v)(ry:RelV y u)(h1:Ef W H c1 x)(h2:Ef W H c2 y)(e:SS c1 c2=some t):
 SeqAt.RcAt X.A s v u t/\SeqAt.RcNeAt X.A s v u (!t):=by
 rcases or_some e with e|e
 .obtain⟨p,e1,e⟩:=Ae e;obtain⟨q,e2,e⟩:=Ae e;obtain⟨hc,rfl⟩:=A6 e;cases C.Cs e1;cases C.Cs e2;have z:=RE (Pg:=X.prog) p (A:=X.A) (JT h1) (JT h2) rx ry (hw▸I.Aq) (hK▸I.FF) hc.1 (by lia);exact⟨z.1,z.2.1⟩
 .obtain⟨p,e1,e⟩:=Ae e;obtain⟨q,e2,e⟩:=Ae e;obtain⟨hc,rfl⟩:=A6 e;obtain⟨a,xs,rfl,k1,k2⟩:=BF e1 h1;obtain⟨b,ys,rfl,k3,k4⟩:=BF e2 h2;cases rx;cases ry;exact QS hK hw hu I k1 k3 k2 k4 hc.1 hc.2
theorem fJ(hK:W.K=X.K)(hw:W.w=X.w)(hu:X.A.units + 200 < cLine):BA X (compareOp .Eq) (AY W Bq):=by
 rintro pins s σ H x y v u Q I rx ry ⟨c1,c2,c,h1,h2,e,q⟩
 obtain⟨t,et,rfl⟩:=Bg e;exact(RF hK hw hu I rx ry h1 h2 et).1 X.prog X.w _ _ ⟨.bl t,H,I,rfl,q.bl⟩
theorem fA(hK:W.K=X.K)(hw:W.w=X.w)(hu:X.A.units + 200 < cLine):BA X (compareOp .NotEq) (AY W JU):=by
 rintro pins s σ H x y v u Q I rx ry ⟨c1,c2,c,h1,h2,e,q⟩
 obtain⟨t,et,rfl⟩:=Bg e;exact(RF hK hw hu I rx ry h1 h2 et).2 X.prog X.w _ _ ⟨.bl (!t),H,I,rfl,q.bl⟩
theorem Ut{f:Value->Value->Sem Value}{b:Int->Int->Bool}{r:R2}(ho:BA X f r)(hr:∀i j H Q,Q (.bl (b i j)) H->r (.int i) (.int j) H Q):BA X f (AY W λa c=>a.int?.bind λi=>c.int?.map λj=>bC (b i j)):=by
 rintro pins s σ H x y v u Q I rx ry ⟨c1,c2,c,h1,h2,e,q⟩
 obtain⟨i,ei,e⟩:=Ae e;obtain⟨j,ej,rfl⟩:=Bg e;cases C.Bh ei;cases C.Bh ej;cases Ba h1;cases Ba h2;exact ho pins s σ H _ _ v u Q I rx ry (hr i j H Q q.bl)
theorem fB:BA X (compareOp .Lt) (AY W Jm):=Ut bw λi j H Q q=>⟨i,j,rfl,rfl,q⟩
theorem fH:BA X (compareOp .Gt) (AY W Hq):=Ut bz λi j H Q q=>⟨i,j,rfl,rfl,q⟩
theorem fI:BA X (compareOp .GtE) (AY W dM):=Ut bB λi j H Q q=>⟨i,j,rfl,rfl,q⟩
theorem OE(a b:List Nat):decide (a<=b)= !decide (b < a):=by
 by_cases h:b < a
 .have:¬a<=b:=λz=>not_lt.mpr z h
  simp[h,this]
 .have:a<=b:=not_lt.mp h;simp[h,this]
theorem fE:BA X (compareOp .LtE) (AY W HN):=by
 refine BA.or (Ut bx λi j H Q q=>⟨i,j,rfl,rfl,q⟩) ?_
 rintro pins s σ H x y v u Q I rx ry ⟨c1,c2,c,h1,h2,e,q⟩
 obtain⟨i,ei,e⟩:=Ae e;obtain⟨j,ej,rfl⟩:=Bg e;cases C.BE ei;cases C.BE ej;cases BO h1;cases BO h2;refine Oo pins s σ H _ _ v u Q I rx ry ⟨_,_,rfl,rfl,?_⟩;have:=q.bl;rw[OE]at this;exact this
theorem GU{c:C} :Ef W H c x->c.Yk=decide (x= .A8):=by
 intro h;cases c with
 |lst o ps=>obtain⟨_,_,rfl,_⟩:=h;rfl
 |BC o ps=>obtain⟨_,_,rfl,_⟩:=h;rfl
 |exc o ps=>rw[h.1];rfl
 |p p=>
   cases p with
   |A8=>rw[GV h];rfl
   |bl _=>rw[Ek h];rfl
   |int _=>rw[Ba h];rfl
   |str _=>rw[BO h];rfl
   |fn _ _=>obtain⟨a,_,rfl⟩:=Gp.mp (JT h);rfl
   |tup _=>obtain⟨_,_,rfl,_⟩:=Cb h;rfl
   |box _ _=>obtain⟨_,_,rfl,_⟩:=DK.mp (JT h);rfl
theorem fF:BA X (compareOp .Is) (AY W ZQ):=by
 rintro pins s σ H x y v u Q I rx ry ⟨c1,c2,c,h1,h2,e,q⟩
 obtain⟨p,ep,e⟩:=Ae e;obtain⟨rfl,rfl⟩:=A6 e;cases C.Cs ep;cases GV h2;have:=q.bl;rw[GU h1]at this;exact Ya pins s σ H _ _ v u Q I rx ry ⟨rfl,this⟩
theorem bL:BA X (compareOp .IsNot) (AY W cn):=by
 rintro pins s σ H x y v u Q I rx ry ⟨c1,c2,c,h1,h2,e,q⟩
 obtain⟨p,ep,e⟩:=Ae e;obtain⟨rfl,rfl⟩:=A6 e;cases C.Cs ep;cases GV h2;have:=q.bl;rw[GU h1]at this;exact Uh pins s σ H _ _ v u Q I rx ry ⟨rfl,this⟩
def Nn(x:Str):Value->Bool
 |.str z _=>z == x
 |_=>false
theorem EC:∀{ps:List P} {xs:List Str} {vs:List V} {us:List Value},DT P.BZ ps=some xs->CU W H ps vs->Vals vs us->Paired (λz u=>∃t,u= .str z t) xs us
 |[],xs,vs,us,e,h,r=>by cases e;cases h;cases r;exact .nil
 | p ::ps,xs,vs,us,e,h,r=>by
   obtain⟨z,e1,e⟩:=Ae e;obtain⟨zs,e2,rfl⟩:=Bg e;cases P.BE e1;cases h with
   |cons h1 h2=>
     cases By.mp h1;cases r with
     |cons r1 r2=>exact .cons r1 (EC e2 h2 r2)
theorem NT{xs:List Str}(h:Paired (λz u=>∃t,u=Value.str z t) xs us):us.any (Nn x)=xs.contains x:=by
 induction h with
 |nil=>rfl
 |cons h1 _ ih=>
   obtain⟨t,rfl⟩:=h1;rw[List.any_cons,contains_cons,ih]
   congr 1
   exact BEq.comm
theorem Mk{t:Tok}{s:Shared}{xs:List Str}(h:Paired (λz u=>∃t,u=Value.str z t) xs us):∀y∈us,SeqAt.EqAt A s y (.str x t) (Nn x y):=by
 induction h with
 |nil=>intro y hy;cases hy
 |cons h1 _ ih=>
   intro y hy;obtain⟨t,rfl⟩:=h1;rcases mK hy with rfl|hy
   .exact SeqAt.EqAt.str_str _ _ _ _
   .exact ih y hy
theorem Rk(hK:W.K=X.K){s:Shared}{σ:L2.St}{t:Bool}{Q:VK}(I:Inv X pins σ H s)(rx:RelV x v)(ry:RelV y u)(h1:Ef W H c1 x)(h2:Ef W H c2 y)(e:fT c1 c2=some t):
 (Q (.bl t) H->(X|||(compareOp .In v u)) (EP X pins σ Q) X.xe s)/\(Q (.bl (!t)) H->(X|||(compareOp .NotIn v u)) (EP X pins σ Q) X.xe s):=by
 obtain⟨z,e1,e⟩:=Ae e;obtain⟨ps,e2,e⟩:=Ae e;obtain⟨xs,e3,rfl⟩:=Bg e;cases C.BE e1;cases BO h1;obtain⟨tk,rfl⟩:=rx;obtain⟨a,vs,rfl,k1,k2⟩:=Fx e2 h2;cases ry;rcases k1 with k1|k1
 .obtain⟨its,r,pl,hz⟩:=I.list (hK▸k1);have hp:=EC e3 k2 r;have an:its.toArray.any (Nn z)=xs.contains z:=by rw[<-NT hp];simp
  have hm:∀y,y∈its.toArray->SeqAt.EqAt X.A.in1 s y (.str z tk) (Nn z y):=λy hy=>Mk hp y (by simpa using hy)
  exact⟨λq=>SeqAt.in_listAt (Nn z) pl.isList hm ⟨.bl _,H,I,rfl,by rw[an];exact q⟩,λq=>SeqAt.notIn_listAt (Nn z) pl.isList hm ⟨.bl _,H,I,rfl,by rw[an];exact q⟩⟩
 .obtain⟨its,r,pl,hz⟩:=I.tuple (hK▸k1);have hp:=EC e3 k2 r;have an:its.toArray.any (Nn z)=xs.contains z:=by rw[<-NT hp];simp
  have hm:∀y,y∈its.toArray->SeqAt.EqAt X.A.in1 s y (.str z tk) (Nn z y):=λy hy=>Mk hp y (by simpa using hy)
  exact⟨λq=>SeqAt.in_tupleAt (Nn z) pl hm ⟨.bl _,H,I,rfl,by rw[an];exact q⟩,λq=>SeqAt.notIn_tupleAt (Nn z) pl hm ⟨.bl _,H,I,rfl,by rw[an];exact q⟩⟩
theorem fG(hK:W.K=X.K):BA X (compareOp .In) (AY W Rl):=by
 rintro pins s σ H x y v u Q I rx ry ⟨c1,c2,c,h1,h2,e,q⟩
 obtain⟨t,et,rfl⟩:=Bg e;exact(Rk hK I rx ry h1 h2 et).1 q.bl
theorem bI(hK:W.K=X.K):BA X (compareOp .NotIn) (AY W bO):=by
 rintro pins s σ H x y v u Q I rx ry ⟨c1,c2,c,h1,h2,e,q⟩
 obtain⟨t,et,rfl⟩:=Bg e;exact(Rk hK I rx ry h1 h2 et).2 q.bl
theorem Ug(hK:W.K=X.K)(hw:W.w=X.w)(hu:X.A.units + 200 < cLine)(op:CmpOp):BA X (compareOp op) (AY W (OH op)):=by
 cases op with
 |Eq=>exact fJ hK hw hu
 |NotEq=>exact fA hK hw hu
 |Lt=>exact fB
 |LtE=>exact fE
 |Gt=>exact fH
 |GtE=>exact fI
 |Is=>exact fF
 |IsNot=>exact bL
 |In=>exact fG hK
 |NotIn=>exact bI hK
section
open PySem.Builtin.Str
def gf(v:Option Int)(n d:Int):Int:=match v with|none=>d|some i=>max 0 (min (if i < 0 then i+n else i) n)
theorem RZ(n d:Nat)(v:Option Int):gf v n d=(Cd n d v:Nat):=by
 cases v with
 |none=>rfl
 |some i=>show max 0 (min (if i < 0 then i+(n:Int)else i) (n:Int))=((if i < 0 then(i+n).toNat else min i.toNat n:Nat):Int);split<;>lia
theorem idx_eq(lo hi:Option Int)(n:Nat):strSliceIndices lo hi 1 n=(List.range (Cd n n hi - Cd n 0 lo)).map (λk=>Cd n 0 lo + k):=by
 show sliceRange (gf lo n 0) (gf hi n n) 1=_;have h1:=RZ n 0 lo;have h2:=RZ n n hi;rw[show((0:Nat):Int)=0 from rfl]at h1;rw[h1,h2];unfold sliceRange;simp only[show(1:Int) > 0 by decide,if_true]
 congr 1
 .funext k;lia
 .congr 1;split<;>lia
theorem Nx{α:Type}(xs:List α)(a:Nat):∀m:Nat,((List.range m).map (λk=>a + k)).filterMap (xs[·]?)=(xs.drop a).take m
 |0=>rfl
 | m + 1=>by
   rw[List.range_succ,map_append,List.filterMap_append,Nx xs a m,take_add_one]
   congr 1
   rw[List.getElem?_drop];show List.filterMap _ [a+m]=_;rw[filterMap_cons];cases xs[a+m]?<;>rfl
theorem Oc(x:Str)(lo hi:Option Int):Txt.slice x lo hi=⟨(cut x.cps.toList lo hi).toArray⟩:=by
 have hn:x.cps.toList.length=x.length:=by simp[Str.length]
 have key:((strSliceIndices lo hi 1 x.length).filterMap (x.cps[·]?))=cut x.cps.toList lo hi:=by
  rw[idx_eq,show(λi:Nat=>x.cps[i]?)=(λi:Nat=>x.cps.toList[i]?)by funext i;simp,Nx];unfold cut;rw[hn]
 unfold Txt.slice;split
 .rename_i h;have hl:(strSliceIndices lo hi 1 x.length).length=x.length:=by simpa using h
  rw[idx_eq,lM,length_range]at hl;have h1:Cd x.length x.length hi<=x.length:=by cases hi<;>simp[Cd];split<;>lia
  by_cases h0:x.length=0
  .have e0:x.cps.toList=[]:=List.eq_nil_of_length_eq_zero (by rw[hn];exact h0);rw[e0];obtain⟨c⟩:=x;rw[show c= #[]from Array.toList_inj.mp e0];simp[cut]
  have h2:Cd x.length 0 lo=0/\Cd x.length x.length hi-Cd x.length 0 lo=x.length:=by lia
  unfold cut;rw[hn,h2.2,h2.1,List.drop_zero,take_of_length_le (by rw[hn];exact lR)]
 .rw[key]
end
theorem ag:HS X (unaryOp .USub) (BJ W (DD EM)):=by
 rintro pins s σ H x v Q I rx ⟨c1,c,h1,e,q⟩
 obtain⟨i,ei,e⟩:=Ae e;obtain⟨p,ep,rfl⟩:=Bg e;cases ep;cases C.Bh ei;cases Ba h1;exact WN pins s σ H _ v Q I rx ⟨i,rfl,q.int⟩
theorem cj(hK:W.K=X.K):SI X (AY W A2):=by
 rintro value slice pins s σ H x y v u Q I rx ry ⟨c1,c2,c,h1,h2,e,q⟩ hs
 obtain⟨ps,e1,e⟩:=Ae e;obtain⟨i,ei,e⟩:=Ae e;obtain⟨j,ej,e⟩:=Ae e;obtain⟨p,ep,rfl⟩:=Bg e;cases C.Bh ei;cases Ba h2;refine YH value slice pins s σ H x _ v u Q I rx ry ?_ hs;rcases or_some e1 with e1|e1
 .obtain⟨a,vs,rfl,k1,k2⟩:=Fx e1 h1;obtain⟨w,ew,rw'⟩:=Pd.get k2 ep
  have at':ZT vs i=some w:=by
   show(L2.G5 vs.length i).bind _=_;rw[<-Paired.length k2,show L2.G5 ps.length i=some j from ej];exact ew
  rcases k1 with k1|k1
  .exact .inl ⟨a,vs,i,w,rfl,rfl,hK▸k1,at',q.plain rw'⟩
  .exact .inr (.inl ⟨a,vs,i,w,rfl,rfl,hK▸k1,at',q.plain rw'⟩)
 .obtain⟨z,ez,e1⟩:=Ae e1;obtain⟨hl,rfl⟩:=A6 e1;cases C.BE ez;cases BO h1;obtain⟨ch,ec,rfl⟩:=oM (show(z.cps.toList[j]?).map sign=some p by rw[<-List.getElem?_map];exact ep);refine .inr (.inr ⟨z,i,ch,rfl,rfl,Nat.le_trans hl BH,?_,q.str⟩);show(L2.G5 z.cps.toList.length i).bind _=_;rw[show L2.G5 z.cps.toList.length i=some j by rw[show z.cps.toList.length=(z.cps.toList.map sign).length from by simp];exact ej];exact ec
theorem Gz(n d:Nat)(o:Option Int):Cd n d o=HT.BL n d o:=by cases o<;>rfl
theorem NF{ps:List P}(h:CU W H ps vs)(lo hi:Option Int):CU W H (cut ps lo hi) (L0 vs lo hi):=by
 unfold cut L0;rw[Gz,Gz,Paired.length h];exact Pd.take _ (Pd.drop _ h)
theorem aQ(hK:W.K=X.K):ZC X (λx lo hi H Q=>∃c r,Ef W H c x/\K6 lo hi c=some r/\Cq W H r Q):=by
 rintro pins s σ H x v vl vu lo hi sl Q I rx hs pl pu ⟨c,r,h1,e,q⟩
 rcases or_some e with e|e
 .obtain⟨ps,e1,rfl⟩:=Bg e;obtain⟨a,vs,rfl,k1,k2⟩:=BF e1 h1;exact TF pins s σ H _ v vl vu lo hi sl Q I rx hs pl pu ⟨a,vs,rfl,.inl k1,q.list (NF k2 lo hi)⟩
 rcases or_some e with e|e
 .obtain⟨ps,e1,rfl⟩:=Bg e;cases C.Bx e1;obtain⟨a,vs,rfl,k1,k2⟩:=Cb h1
  by_cases hw:HT.BL vs.length 0 lo=0/\HT.BL vs.length vs.length hi=vs.length
  .refine TC pins s σ H _ v vl vu lo hi sl Q I rx hs pl pu ⟨a,vs,rfl,hK▸k1,hw,?_⟩
   have e:cut ps lo hi=ps:=by
    unfold cut;rw[Gz,Gz,Paired.length k2,hw.1,hw.2,<-Paired.length k2];simp
   rw[e]at q;exact q.plain (JT h1)
  .exact Xh pins s σ H _ v vl vu lo hi sl Q I rx hs pl pu ⟨a,vs,rfl,hK▸k1,hw,q.tup (NF k2 lo hi)⟩
 .obtain⟨z,ez,e⟩:=Ae e;obtain⟨⟨_,hl⟩,rfl⟩:=A6 e;cases C.BE ez;cases BO h1;refine LC pins s σ H _ v vl vu lo hi sl Q I rx hs pl pu ⟨z,rfl,Nat.le_trans hl BH,?_⟩;rw[Oc];exact q.str
theorem S8:bootBuiltins "len"=some (.builtin "len"):=by decide +kernel
theorem MA:bootBuiltins "isinstance"=some (.builtin "isinstance"):=by decide +kernel
theorem Zk:bootBuiltins "all"=some (.builtin "all"):=by decide +kernel
theorem Zl:bootBuiltins "abs"=some (.builtin "abs"):=by decide +kernel
theorem JI:bootBuiltins "list"=some (.type "list"):=by decide +kernel
theorem L7:bootBuiltins "tuple"=some (.type "tuple"):=by decide +kernel
theorem S9:bootBuiltins "int"=some (.type "int"):=by decide +kernel
theorem Vt:bootBuiltins "bool"=some (.type "bool"):=by decide +kernel
theorem Zi:bootBuiltins "str"=some (.type "str"):=by decide +kernel
def fy(r:V->Hp->VK->Prop):List V->Hp->VK->Prop
 |[v],H,Q=>r v H Q
 |_,_,_=>False
theorem GB{r:V->Hp->VK->Prop}(h:HS X (λv=>call f [v]) r):DB X f (fy r):=by
 intro pins s σ H xs us Q I rs q;cases rs with
 |nil=>exact q.elim
 |cons r1 r2=>
   cases r2 with
   |nil=>exact h pins s σ H _ _ Q I r1 q
   |cons _ _=>exact q.elim
variable{te:TE}
theorem YY(L:Br ct X W EX cf k){g:C->Option C}(hc:HS X (λv=>call (.builtin id) [v]) (BJ W g))(ho:ct.own x=true)(hv:bootBuiltins x=some (.builtin id))(hp:Al e=true)(he:PE X e te):PE X (.Call (.Name x p) [e] [] pos) (λσ H Q=>te σ H λv H1=>BJ W g v H1 Q):=by
 obtain⟨g1,g2,g3,g4⟩:=L.Gf ho;exact Au (DL (GB hc) g1 g2 hv (AU he BR (A9 hp [] _)) g4 g3 (A9 hp [] _) rfl) λσ H Q z=>z
theorem YW(L:Br ct X W EX cf k){g:C->Option C}(hc:HS X (λv=>call (.type id) [v]) (BJ W g))(ho:ct.own x=true)(hv:bootBuiltins x=some (.type id))(hp:Al e=true)(he:PE X e te):PE X (.Call (.Name x p) [e] [] pos) (λσ H Q=>te σ H λv H1=>BJ W g v H1 Q):=by
 obtain⟨g1,g2,g3,g4⟩:=L.Gf ho;exact Au (Ie (GB hc) g1 g2 hv (AU he BR (A9 hp [] _)) g4 g3 (A9 hp [] _) rfl) λσ H Q z=>z
theorem ah(hK:W.K=X.K):HS X (λv=>call (.builtin "len") [v]) (BJ W Av):=by
 rintro pins s σ H x v Q I rx ⟨c1,c,h1,e,q⟩
 obtain⟨ps,e1,rfl⟩:=Bg e;rcases or_some e1 with e1|e1
 .obtain⟨a,vs,rfl,k1,k2⟩:=Fx e1 h1;rw[Paired.length k2]at q;exact JG pins s σ H [.ref a] [v] Q I (.cons rx .nil) ⟨a,vs,rfl,hK▸k1,q.int⟩
 .obtain⟨z,ez,e1⟩:=Ae e1;obtain⟨hl,rfl⟩:=A6 e1;cases C.BE ez;cases BO h1;rw[show(signs z).length=z.length by simp[signs,Str.length]]at q;exact JF pins s σ H [.str z] [v] Q I (.cons rx .nil) ⟨z,rfl,Nat.le_trans hl BH,q.int⟩
theorem ae(hK:W.K=X.K):HS X (λv=>call (.type "tuple") [v]) (BJ W Eh):=by
 rintro pins s σ H x v Q I rx ⟨c1,c,h1,e,q⟩
 obtain⟨ps,e1,rfl⟩:=Bg e;obtain⟨a,vs,rfl,k1,k2⟩:=Fx e1 h1;refine HR pins s σ H [.ref a] [v] Q I (.cons rx .nil) ⟨a,vs,rfl,?_⟩;rcases k1 with k1|k1
 .exact .inl ⟨hK▸k1,q.tup k2⟩
 .exact .inr ⟨hK▸k1,q.plain (AX.mpr ⟨a,vs,rfl,k1,k2⟩)⟩
theorem Se:∀{ps:List P} {bs:List Bool} {vs:List V},DT P.Fj ps=some bs->CU W H ps vs->vs=bs.map V.bl
 |[],bs,vs,e,h=>by cases e;cases h;rfl
 | p::ps,bs,vs,e,h=>by
   obtain⟨z,e1,e⟩:=Ae e;obtain⟨zs,e2,rfl⟩:=Bg e;cases P.Fc e1;cases h with
   |cons h1 h2=>cases Dj.mp h1;rw[Se e2 h2];rfl
theorem aj(hc:X.calm=true):HS X (λv=>call (.builtin "all") [v]) (BJ W FW):=by
 rintro pins s σ H x v Q I rx ⟨c1,c,h1,e,q⟩
 obtain⟨ps,e1,e⟩:=Ae e;obtain⟨bs,e2,rfl⟩:=Bg e;obtain⟨a,vs,rfl,k1,k2⟩:=BF e1 h1;cases Se e2 k2;exact L5 hc pins s σ H [.ref a] [v] Q I (.cons rx .nil) ⟨a,bs,rfl,.inl k1,q.bl⟩
theorem ak:HS X (λv=>call (.builtin "abs") [v]) (BJ W (DD VB)):=by
 rintro pins s σ H x v Q I rx ⟨c1,c,h1,e,q⟩
 obtain⟨i,ei,e⟩:=Ae e;obtain⟨p,ep,rfl⟩:=Bg e;cases ep;cases C.Bh ei;cases Ba h1;exact S6 pins s σ H [.int i] [v] Q I (.cons rx .nil) ⟨i,rfl,q.int⟩
theorem ai:HS X (λv=>call (.type "int") [v]) (BJ W V0):=by
 rintro pins s σ H x v Q I rx ⟨c1,c,h1,e,q⟩
 obtain⟨b,eb,rfl⟩:=Bg e;cases Fc eb;cases Ek h1;exact OZ pins s σ H [.bl b] [v] Q I (.cons rx .nil) (.inr ⟨b,rfl,q.int⟩)
theorem LD{x:Str}{acc:Array Value}(h:ItemsOf (SignAt x) acc x.cps.size):∃vs,Vals vs acc.toList/\∀{W:Wd} {H:Hp},CU W H (signs x) vs:=by
 have gen:∀(l:List Nat) (us:List Value),us.length=l.length->(∀(j:Nat) (u:Value),us[j]? =some u->∃(c:Nat) (t:Tok),l[j]? =some c/\u=Value.str ⟨#[c]⟩ t)->Vals (l.map λc=>V.str ⟨#[c]⟩) us/\∀{W:Wd} {H:Hp},CU W H (l.map sign) (l.map λc=>V.str ⟨#[c]⟩):=by
  intro l
  induction l with
  |nil=>intro us hl _;cases List.eq_nil_of_length_eq_zero hl;exact⟨.nil,.nil⟩
  |cons c l ih=>
    intro us hl hu;cases us with
    |nil=>cases hl
    |cons u us=>
      obtain⟨i1,i2⟩:=ih us (by simpa using hl) λj u hj=>hu (j+1) u hj
      obtain⟨c',t,e1,rfl⟩:=hu 0 u rfl;cases e1;exact⟨.cons ⟨t,rfl⟩ i1,.cons (By.mpr rfl) i2⟩
 obtain⟨g1,g2⟩:=gen x.cps.toList acc.toList (by simp[h.1]) λj u hj=>by
  obtain⟨c,t,e1,e2⟩:=h.2 j u (by simpa using hj);exact⟨c,t,by simpa using e1,e2⟩
 exact⟨_,g1,g2⟩
theorem T4(hc:X.calm=true){s:Shared}{σ:L2.St}{z:Str}{Q:VK}(I:Inv X pins σ H s)(rx:RelV (.str z) v)(hl:z.length<=big)(q:Cq W H (nw (signs z)) Q):(X|||(call (.type "list") [v])) (EP X pins σ Q) X.xe s:=by
 obtain⟨t,rfl⟩:=rx;refine call_list_str (I.ok.hd hc) z t (λh' tk acc c' kp e hi=>?_) (Nat.le_trans hl BH);obtain⟨vs,r1,r2⟩:=LD hi;refine⟨.ref s.heap.objs.size,_,I.laid (t':=tk) (o:=.lst vs) kp (lR) ⟨?_,acc.toList,c',r1,by rw[e]⟩,rfl,q.list r2 _ (I.Aq.fresh (lR))⟩;have:=Vals.length r1;have h2:=hi.1;have:=BH;have e3:acc.toList.length=z.length:=by simp[h2,Str.length]
 lia
theorem Pd.Rt{β:Type}{F:α->β->Prop}{xs:List α}{ys:List β}{i:Nat}{y:β}(h:Paired F xs ys)(e:ys[i]? =some y):∃x,xs[i]? =some x/\F x y:=by
 obtain⟨x,h1,h2⟩:=Pd.get (Pd.flip h) e;exact⟨x,h1,h2⟩
theorem JV{L:Frag->Hp->Addr->List V->Prop}{ps:List P}(hL:∀H,Ef W H c (.ref a)->∃vs,L W.K H a vs/\CU W H ps vs):
 Walk W ⟨λi H=>∃xs x,L W.K H a xs/\xs[i]? =some x,λi H x H'=>H'=H/\∀xs,L W.K H a xs->xs[i]? =some x,λi H=>∃xs,L W.K H a xs/\xs.length<=i⟩ ps (λH=>Ef W H c (.ref a)) where
 go:=λi H h hi=>by
   obtain⟨vs,h1,h2⟩:=hL H h;obtain⟨v,h3,_⟩:=Pd.get h2 (List.getElem?_eq_getElem hi);exact⟨vs,v,h1,h3⟩
 P8:=λi H x H' h hi hy=>by
  obtain⟨vs,h1,h2⟩:=hL H h;obtain⟨rfl,hy⟩:=hy;obtain⟨p,h3,h4⟩:=Pd.Rt h2 (hy vs h1);exact⟨DU.refl _,p,h3,h4⟩
 stop:=λH h=>by
  obtain⟨vs,h1,h2⟩:=hL H h;exact⟨vs,h1,by rw[Paired.length h2];exact lR⟩
theorem Pf{g:Hp->Prop}:Walk W (jf y) (signs y) g where
 go:=λi H _ hi=>by
   show i < y.length;simpa[signs,Str.length]using hi
 P8:=λi H x H' _ hi hy=>by
  obtain⟨rfl,c,e,rfl⟩:=hy;refine⟨DU.refl _,sign c,?_,By.mpr rfl⟩;show(y.cps.toList.map sign)[i]? =_;rw[List.getElem?_map,Array.getElem?_toList,e];rfl
 stop:=λH _=>by
  show y.length<=_;simp[signs,Str.length]
theorem MY{c:C}{ps:List P}(e:c.Gg =some ps)(h:Ef W H c (.ref a)):∃vs,Ep W.K H a vs/\CU W H ps vs:=by
 obtain⟨b,vs,eb,h1,h2⟩:=BF e h;cases eb;exact⟨vs,.inl h1,h2⟩
theorem TY{c:C}{ps:List P}(e:c.CV =some ps)(h:Ef W H c (.ref a)):∃vs,DF W.K H a vs/\CU W H ps vs:=by
 cases C.Bx e;obtain⟨b,vs,eb,h1,h2⟩:=Cb h;cases eb;exact⟨vs,h1,h2⟩
theorem Ud(L:Br ct X W EX cf k){tg:Expr}{tl:TE}(hl:PE X l tl):PI X tg l (wI W Ar tl):=by
 intro pins s σ H R I h;refine thn (hl pins s σ H _ I h) λv s1 ⟨x,H1,I1,r1,c,ps,hc,ek,q⟩=>?_
 have fp:∀b∈[s1.heap.objs.size],FX X pins H1 b:=λb hb=>by
  rw[mE hb];exact I1.ON (lR) (I1.Aq.fresh (lR))
 rcases or_some ek with e|e
 .rcases or_some e with e|e
  .obtain⟨a,vs,rfl,k1,k2⟩:=BF e hc;cases r1;obtain⟨its,rv,p,hz⟩:=I1.list (.inl k1);have w:=JV (W:=W) (L:=Ep) (a:=a) (c:=c) (ps:=ps) λH h=>MY e h
   rw[L.K]at w;exact wpAny_pyIter_list p.isList ⟨s1.heap.objs.size,[s1.heap.objs.size],_,_,H1,rfl,I1.kept (t':=s1.toks) λb o e=>gP e,O3 a _,⟨_,Heap.get?_push_size _ rfl,rfl,rfl⟩,fp,q _ w⟩
  .cases C.Bx e;obtain⟨a,vs,rfl,k1,k2⟩:=Cb hc;cases r1;obtain⟨its,rv,p,hz⟩:=I1.tuple (L.K▸k1);have w:=JV (W:=W) (L:=DF) (a:=a) (c:=.p (.tup ps)) (ps:=ps) λH h=>TY e h
   rw[L.K]at w;exact wpAny_pyIter_tuple (show s1.heap.IsTuple a its.toArray from p) ⟨s1.heap.objs.size,[s1.heap.objs.size],_,_,H1,rfl,I1.kept (t':=s1.toks) λb o e=>gP e,Lu a _,⟨_,Heap.get?_push_size _ rfl,rfl,rfl⟩,fp,q _ w⟩
 .obtain⟨qs,f1,f2⟩:=Ae e;obtain⟨ha,rfl⟩:=A6 f2;obtain⟨z,ez,f3⟩:=Ae (show(c.BZ.bind λx=>if x.length<=big then some (signs x)else none)=some qs from f1);obtain⟨hl,rfl⟩:=A6 f3;cases C.BE ez;cases BO hc;obtain⟨t,rfl⟩:=r1;have ha:z.cps.all (· < 128)=true:=ha;exact wpAny_pyIter_ascii ha ⟨s1.heap.objs.size,[s1.heap.objs.size],_,_,H1,rfl,I1.kept (t':=s1.toks) λb o e=>gP e,Pq _ z t,⟨_,Heap.get?_push_size _ rfl,rfl,rfl⟩,fp,q _ Pf⟩
theorem Ph{n:Int}{g:Hp->Prop}:Walk W (gw 0 n.toNat) (BP 0 n) g where
 go:=λi H _ hi=>by
   show i < n.toNat;simpa[BP]using hi
 P8:=λi H x H' _ hi hy=>by
  obtain⟨rfl,rfl⟩:=hy;refine⟨DU.refl _,_,?_,Ao.mpr rfl⟩;have hi:i < n.toNat:=by simpa[BP]using hi
  simp[BP,hi]
 stop:=λH _=>by
  show n.toNat<=_;simp[BP]
def Um(r:V->Hp->Prop):List V->Hp->Prop
 |[v],H=>r v H
 |_,_=>False
theorem Jh{r:V->Hp->Prop}(h:Um r vs H):∃v,vs=[v]/\r v H:=by
 rcases vs with _|⟨v,_|⟨_,_⟩⟩
 .exact h.elim
 .exact⟨v,rfl,h⟩
 .exact h.elim
variable{ta:TE}
theorem XY(L:Br ct X W EX cf k){tg:Expr}(ho:ct.own x=true)(hx:x="range")(st:Al a=true)(ha:PE X a ta):PI X tg (.Call (.Name x p) [a] [] pos) (wI W AM ta):=by
 subst hx;obtain⟨g1,g2,g3,g4⟩:=L.Gf ho;intro pins s σ H R I h;refine Call_ (DO I g1 g2 boot_range (PyProof.Rows.callWith_type1 (thn ((AU ha BR (A9 st [] _)) pos pins s σ H (Um λv H1=>∃c xs,Ef W H1 c v/\AM c=some xs/\∀J,Walk W J xs (λH=>Ef W H c v)->R J H1) I h) λus s1 ⟨vs,H1,I1,r1,q1⟩=>?_) (A9 st [] _) rfl));obtain⟨v,rfl,q1⟩:=Jh q1
 .obtain⟨c,ps,hc,ek,q⟩:=q1;obtain⟨n,en,ek⟩:=Ae ek;obtain⟨hn,rfl⟩:=A6 ek;cases C.Bh en;cases Ba hc;cases r1 with
  |cons r rr=>
    cases rr;obtain⟨t,rfl⟩:=r;have:=q _ Ph;exact call_range_1 (Q4 I1 (by lia) (by lia) (by lia) (by lia) (by simpa using this))
def jg(K:Frag)(l:Addr):It:=
 ⟨λi H=>∃xs x,Ep K H l xs/\xs[i]? =some x,λi H x H'=>∃p y,x= .ref p/\H p=none/\H'=upd H p (.tup [.int i,y])/\∀xs,Ep K H l xs->xs[i]? =some y,λi H=>∃xs,Ep K H l xs/\xs.length<=i⟩
variable{h':Heap}
theorem UY{σ:L2.St}{s:Shared}{t':Nat}{e it:Addr}{o:HO}(I:Inv X pins σ H s)(k:∀b o,b≠e->b≠it->s.heap.get? b=some o->h'.get? b=some o)
 (c1:H e=none/\e≠X.env.locals/\(e∈X.ex\/X.s₀.heap.objs.size<=e)/\(∀x c,X.env.cells.lookup x=some c->c≠e)/\∀p∈X.pn++pins,p.1≠e)
 (c2:H it=none/\it≠X.env.locals/\(it∈X.ex\/X.s₀.heap.objs.size<=it)/\(∀x c,X.env.cells.lookup x=some c->c≠it)/\∀p∈X.pn++pins,p.1≠it)
 (new:BD X.prog X.w (upd H s.heap.objs.size o) h' s.heap.objs.size o):Inv X pins σ (upd H s.heap.objs.size o) {s with heap:=h',toks:=t'}:=by
 have fr:=I.Aq.fresh (Nat.le_refl s.heap.objs.size);have nit:∀b u,H b=some u->b≠e/\b≠it:=λb u q=>⟨λz=>(by rw[z,c1.1]at q;cases q),λz=>(by rw[z,c2.1]at q;cases q)⟩
 have nf:∀b u,H b=some u->upd H s.heap.objs.size o b=some u:=λb u q=>by rw[Ac (Bb q fr)];exact q
 have kk:∀b o,b∉[e,it]->s.heap.get? b=some o->h'.get? b=some o:=λb o hc q=>k b o (λz=>hc (by simp[z])) (λz=>hc (by simp[z])) q
 refine I.step (g':=s.gens) (d':=s.drawn) (ch:=[e,it]) (λb hb=>?_) (λb o _ _ hc q _=>kk b o hc q) (λb o _ _ hc q _=>⟨o.slots,kk b o hc q⟩) (λb o' _ q n=>by rw[Ac (Nat.ne_of_lt (Heap.lt_size q))];exact n)
  (λb o hc q=>⟨o,kk b o hc q⟩) (λ_ _ q=>nf _ _ q) (λ_ _ _ q=>nf _ _ q) (λb ps q=>⟨#[],by rw[nf _ _ q];simp⟩) (λm hm=>?_) (λb u q=>?_) I.bare
 .rcases mK hb with rfl|hb
  .exact⟨c1.2.2.1,c1.2.1,c1.2.2.2⟩
  .cases mE hb;exact⟨c2.2.2.1,c2.2.1,c2.2.2.2⟩
 .obtain⟨o,es,ep,ho,r⟩:=hm;exact⟨o,es,ep,k _ o (Ne.symm c1.2.1) (Ne.symm c2.2.1) ho,r⟩
 .by_cases hb:b=s.heap.objs.size
  .subst hb;rw[Ag]at q;cases q;exact new
  .rw[Ac hb]at q;refine(I.Aq b u q).CW (λc v hc z=>?_) (λc z=>nf _ _ z) λ_ _ z=>nf _ _ z
   rcases hc with y|y
   .rw[y]at z ⊢;exact k b v (nit b u q).1 (nit b u q).2 z
   .exact k c v (nit c _ y).1 (nit c _ y).2 z
theorem O4{P:Program}{w:World}{K:Frag}{es:List Expr}{tp:Pos}(l it e:Addr)(hne:e≠it):Turn P w K (.Tuple es n tp) (jg K l) [e,it] e (λi h=>(∃old,IsEnum h e it i old)/\h.IsListIter it l i) where
 mem:=by simp
 obj :=λi h st b hb=>by
  obtain⟨⟨old,h1⟩,o,h2,c,d⟩:=st;rcases mK hb with rfl|hb
  .exact⟨_,h1,λv z=>by cases z⟩
  .cases mE hb;exact⟨o,h2,λv z=>by rw[d]at z;cases z⟩
 keep:=λi h h' st k=>⟨st.1.imp λold h1=>k e (by simp) _ h1,st.2.at λo q=>k it (by simp) o q⟩
 item:=by
  intro X hP hw hK hc i pins s σ H E I hf st hg;subst hP hw hK;obtain⟨xs,x,hq,hx⟩:=hg;obtain⟨its,rv,p,hz⟩:=I.list hq;obtain⟨u,hu,ru⟩:=rv.get hx;obtain⟨⟨old,h1⟩,h2⟩:=st;refine wpAny_pyNext_enum_item h1 h2 p.isList (x:=u) (by simpa using hu) hne λh' a1 a2 a3 a4 a5=>⟨_,rfl,?_⟩
  refine wpAny_letOwnedTupleGo_enum (s:={s with heap:=h',toks:=s.toks+1}) a1 λh3 b1 b2=>?_
  obtain⟨f0,f1,f2,f3,f4,f5⟩:=hf e (by simp);obtain⟨g0,g1,g2,g3,g4,g5⟩:=hf it (by simp);have I2:Inv X pins σ (upd H s.heap.objs.size (.tup [.int i,x])) {s with heap:=h3,toks:=s.toks+1}:=UY I (λb o n1 n2 q=>b2.extBut b o n1 (a5 b o n1 n2 q)) ⟨f0,f1,f3,f4,f5⟩ ⟨g0,g1,g3,g4,g5⟩ ⟨by simp[sizeLine],[.int i s.toks,u],.cons ⟨_,rfl⟩ (.cons ru .nil),_,b2.extBut _ _ (Nat.ne_of_gt (Heap.lt_size h1)) a3,rfl,_,rfl⟩;have fr:=I.Aq.fresh (Nat.le_refl s.heap.objs.size);have hit:it < s.heap.objs.size:=by obtain⟨o,q,_⟩:=id h2;exact Heap.lt_size q
  refine⟨.ref s.heap.objs.size,_,I2,rfl,⟨_,x,rfl,fr,rfl,λys hy=>by rw[I.Kr hy hq];exact hx⟩,⟨⟨u,b1⟩,a2.extBut b2.extBut (Ne.symm hne)⟩,λb hb=>?_⟩
  have:b≠s.heap.objs.size:=by
   rcases mK hb with rfl|hb
   .exact Nat.ne_of_lt (Heap.lt_size h1)
   .rw[mE hb];exact Nat.ne_of_lt hit
  rw[Ac this];exact(hf b hb).1
 done:=by
  intro X hP hw hK hc i pins s σ H E I hf st hg;subst hP hw hK;obtain⟨xs,hq,hx⟩:=hg;obtain⟨its,rv,p,hz⟩:=I.list hq;obtain⟨⟨old,h1⟩,h2⟩:=st;obtain⟨f0,f1,f2,f3,f4,f5⟩:=hf it (by simp);have hl:=rv.length;exact wpAny_pyNext_enum_end (I.ok.hd hc) h1 h2 p.isList (by simp;lia) λh' eb=>⟨rfl,I.turned (t':=s.toks) (λb o hb e=>eb b o hb e) f0 f1 f3 f4 f5⟩
 self:=λ_ _ _ _ _ st h=>let⟨⟨_,h1⟩,_⟩:=st;wpAny_pyIter_enum h1 h
theorem RH{ps:List P}{i:Nat}{p:P}(h:ps[i]? =some p):(Iy ps)[i]? =some (.tup [.int i,p]):=by
 simp[Iy,h]
theorem NZ{ps:List P}(hL:∀H,Ef W H c (.ref a)->∃vs,Ep W.K H a vs/\CU W H ps vs):Walk W (jg W.K a) (Iy ps) (λH=>Ef W H c (.ref a)) where
 go:=λi H h hi=>by
   obtain⟨vs,h1,h2⟩:=hL H h;obtain⟨v,h3,_⟩:=Pd.get h2 (List.getElem?_eq_getElem (by simpa[Iy]using hi));exact⟨vs,v,h1,h3⟩
 P8:=λi H x H' h hi hy=>by
  obtain⟨vs,h1,h2⟩:=hL H h;obtain⟨p,y,rfl,hp,rfl,hy⟩:=hy;obtain⟨z,h3,h4⟩:=Pd.Rt h2 (hy vs h1);have sm:=AF (o:=.tup [.int i,y]) hp;exact⟨sm,_,RH h3,AX.mpr ⟨p,_,rfl,DF.of Ag,.cons (Ao.mpr rfl) (.cons (h4.mono (AS.of sm)) .nil)⟩⟩
 stop:=λH h=>by
  obtain⟨vs,h1,h2⟩:=hL H h;exact⟨vs,h1,by simp[Iy,Paired.length h2]⟩
theorem Vs:bootBuiltins "enumerate"=some (.type "enumerate"):=by decide +kernel
theorem Y3(L:Br ct X W EX cf k){tg:Expr}(ht:Dr tg=true)(ho:ct.own x=true)(hx:x="enumerate")(st:Al a=true)(ha:PE X a ta):PI X tg (.Call (.Name x p) [a] [] pos) (wI W Mo ta):=by
 subst hx;obtain⟨g1,g2,g3,g4⟩:=L.Gf ho;intro pins s σ H R I h;refine Call_ (DO I g1 g2 Vs (PyProof.Rows.callWith_type1 (thn ((AU ha BR (A9 st [] _)) pos pins s σ H (Um λv H1=>∃c xs,Ef W H1 c v/\Mo c=some xs/\∀J,Walk W J xs (λH=>Ef W H c v)->R J H1) I h) λus s1 ⟨vs,H1,I1,r1,q1⟩=>?_) (A9 st [] _) rfl));obtain⟨v,rfl,c,ps,hc,ek,q⟩:=Jh q1;obtain⟨qs,en,rfl⟩:=Bg ek;obtain⟨l,vs,rfl,k1,k2⟩:=BF en hc;cases r1 with
 |cons r rr=>
   cases rr;cases r;obtain⟨its,rv,pl,hz⟩:=I1.list (.inl k1);have w:=NZ (W:=W) (a:=l) (c:=c) (ps:=qs) λH h=>MY en h
   rw[L.K]at w;cases tg with
   |Tuple es n tp=>
     refine call_enumerate_list pl.isList λh' e1 e2 e3 e4=>wpAny_pyIter_enum (s:={s1 with heap:=h'}) e1 ?_
     have I2:Inv X pins σ H1 {s1 with heap:=h'}:=I1.kept (t':=s1.toks) e4;refine⟨s1.heap.objs.size+1,[s1.heap.objs.size+1,s1.heap.objs.size],_,_,H1,rfl,I2,O4 l s1.heap.objs.size _ (by lia),⟨⟨_,e1⟩,e2⟩,λb hb=>?_,q _ w⟩
     have hb:s1.heap.objs.size<=b:=by
      rcases mK hb with rfl|hb
      .lia
      .rw[mE hb];exact lR
     exact I1.ON hb (I1.Aq.fresh hb)
   |_=>cases ht
def CO(h:Heap)(d:Addr)(es:List DictEntry)(ep:Nat):Prop:=∃o,h.get? d=some o/\o.ExactDict/\o.data= .dict es.toArray ep
variable{ep:Nat}
theorem CO.typ{s:Shared}{es:List DictEntry}(h:CO s.heap d es ep):s.TypeIs (.ref d) "dict":=let⟨o,h1,h2,_⟩:=h;⟨o,h1,h2.1⟩
theorem CO.at'{es:List DictEntry}(x:CO h d es ep)(k:∀o,h.get? d=some o->h'.get? d=some o):CO h' d es ep:=let⟨o,h1,r⟩:=x;⟨o,k o h1,r⟩
section
variable{prog:Program}{w:World}{A:Around}{E:Va}{s:Shared}
theorem GY{es:Array DictEntry}{h:Int}{i:Nat}(hi:i∈placesWithHash es.size (λi=>Option.map (λx=>x.hash) es[i]?) h):∃e,es[i]? =some e/\e.hash=h:=by
 unfold placesWithHash at hi;obtain⟨h1,h2⟩:=mem_filter.mp hi;have h1:=mem_range.mp h1;refine⟨es[i],Array.getElem?_eq_getElem h1,?_⟩;have h2:(Option.map (λx=>x.hash) es[i]? == some h)=true:=h2;rw[Array.getElem?_eq_getElem h1]at h2;have h2:(some es[i].hash == some h)=true:=h2;exact Option.some.inj (eq_of_beq h2)
theorem LQ{es:Array DictEntry}{h:Int}{i:Nat}{e:DictEntry}(he:es[i]? =some e)(hh:e.hash=h):i∈placesWithHash es.size (λi=>Option.map (λx=>x.hash) es[i]?) h:=by
 unfold placesWithHash;refine mem_filter.mpr ⟨mem_range.mpr (Array.getElem?_eq_some_iff.mp he).1,?_⟩;show(Option.map (λx=>x.hash) es[i]? == some h)=true;rw[he];show(some e.hash == some h)=true;rw[hh];exact beq_self_eq_true _
variable{ep:Nat}
theorem Mh{key:Value}{h:Int}{o:Obj}{es:Array DictEntry}{b:Nat->Bool}{Q:Option Nat->Shared->Prop}(hd:s.heap.get? d=some o)(ho:o.data= .dict es ep)(hk:∃n t,key= .int n t)(hc:∀(i:Nat) (e:DictEntry),es[i]? =some e->carriedByValue e.key=true)
 (eqs:∀i e,es[i]? =some e->e.hash=h->SeqAt.EqAt A s e.key key (b i))(hn:(∀i e,es[i]? =some e->e.hash=h->b i=false)->Q none s)(hy:∀i e,es[i]? =some e->e.hash=h->b i=true->Q (some i) s):wpAny (model prog w) A (dictFind d key h) Q E s:=by
 unfold dictFind;refine wpAny_holding (wB (wpAny_dictEntries hd ho ?_));obtain⟨n,t,rfl⟩:=hk
 try dsimp only
 refine wpAny_ite_split (λ_=>?_) (λhab=>absurd ?_ hab)
 .unfold dictWalkPlain;refine wB ?_;refine wpAny_forIn_list _ (λrest st s'=>s'=s/\st=(none,())/\(∀i∈rest,i∈placesWithHash es.size (λi=>Option.map (λx=>x.hash) es[i]?) h)/\∀i∈placesWithHash es.size (λi=>Option.map (λx=>x.hash) es[i]?) h,i∉rest->b i=false) _ ?_ ?_ _ _ ⟨rfl,rfl,λi hi=>hi,λi hi hni=>absurd hi hni⟩
  .rintro i rest st s' ⟨rfl,rfl,hm,hf⟩
   obtain⟨e,he,hh⟩:=GY (hm i mS);simp only[he,hh,beq_self_eq_true,if_true];refine wB (wpAny_dictEpoch hd ho ?_);refine wB (eqs i e he hh prog w _ _ ?_);refine wB (wpAny_dictEpoch hd ho ?_);refine wpAny_ite_split (λhab=>absurd hab (by simp)) (λ_=>?_);refine wpAny_ite_split (λhb=>?_) (λhb=>?_)
   .exact wB (wpAny_rule (wP (wP (hy i e he hh hb))))
   .refine wB (wpAny_rule (wP ⟨rfl,rfl,λj hj=>hm j (mC hj),λj hj hnj=>?_⟩))
    by_cases ej:j=i
    .rw[ej];simpa using hb
    .exact hf j hj (by simp[ej,hnj])
  .rintro st s' ⟨rfl,rfl,_,hf⟩
   exact wP (hn λi e he hh=>hf i (LQ he hh) (by simp))
 .rw[all_cons,bA];refine⟨rfl,all_eq_true.mpr λv hv=>?_⟩;obtain⟨i,hi,e⟩:=mem_filterMap.mp hv;obtain⟨f,hf1,hf2⟩:=GY hi;rw[hf1]at e;rw[<-Option.some.inj e];exact hc i f hf1
theorem Rz{d:Addr}{x:Str}{t:Tok}{h:Int}{o:Obj}{es:Array DictEntry}{Q:Option Nat->Shared->Prop}(hd:s.heap.get? d=some o)(ho:o.data= .dict es ep)(hc:∀(i:Nat) (e:DictEntry),es[i]? =some e->∃z t,e.key= .str z t)
 (hn:(∀(i:Nat) (e:DictEntry),es[i]? =some e->∀t,e.key≠.str x t)->Q none s)(hy:∀i e t,es[i]? =some e->e.key= .str x t->Q (some i) s):wpAny (model prog w) A (dictFind d (.str x t) h) Q E s:=by
 unfold dictFind;refine wpAny_holding (wB (wpAny_dictEntries hd ho ?_));dsimp only;refine wpAny_ite_split (λ_=>?_) (λhab=>absurd (Array.all_eq_true.mpr λi hi=>?_) hab)
 .unfold foundByValue;cases hf:es.findIdx? (·.key.isStr x)with
  |none=>
    refine wP (hn λi e he t z=>?_);have:=Array.findIdx?_eq_none_iff.mp hf e (Array.mem_of_getElem? he);rw[z]at this;simp[Value.isStr]at this
  |some i=>
    obtain⟨hi,h1,_⟩:=Array.findIdx?_eq_some_iff_getElem.mp hf;have he:es[i]? =some es[i]:=Array.getElem?_eq_getElem hi;dsimp only;rw[he];dsimp only;obtain⟨z,t',hz⟩:=hc i es[i] he;rw[hz]at h1 ⊢;have hzx:z=x:=by simpa[Value.isStr]using h1
    subst hzx;refine wB (wpAny_dictEpoch hd ho ?_);refine wB (SeqAt.EqAt.str_str z t' z t prog w _ _ ?_);refine wB (wpAny_dictEpoch hd ho ?_);refine wpAny_ite_split (λhab=>absurd hab (by simp)) (λ_=>?_);refine wpAny_ite_split (λ_=>?_) (λhab=>absurd (by simp) hab);exact wB (wpAny_rule (wP (hy i es[i] t' he hz)))
 .obtain⟨z,t',hz⟩:=hc i es[i] (Array.getElem?_eq_getElem hi);rw[hz];rfl
end
theorem DP{kvs:List (P×P)}{k:P}(h:D6 kvs k=true):keyOk k=true/\∀q∈kvs,q.1.tag=k.tag:=by
 unfold D6 at h;rw[bA]at h;exact⟨h.1,λq hq=>by simpa using all_eq_true.mp h.2 q hq⟩
theorem MI{p:P}(h:p.tag=2):∃i,p= .int i:=by
 cases p<;>first|exact⟨_,rfl⟩|cases h
theorem Ta{p:P}(h:p.tag=3):∃i,p= .str i:=by
 cases p<;>first|exact⟨_,rfl⟩|cases h
theorem ND{a:Addr}{kvs:List (P×P)}{es:List DictEntry}{o:Obj}{v:V}{k:P}{u:Value}{E:Va}{s:Shared}{Q:Option Nat->Shared->Prop}(hd:s.heap.get? a=some o)(ho:o.data= .dict es.toArray ep)(hp:Paired (Fg W H) kvs es)(hk:D6 kvs k=true)(hv:Af W H k v)(r:RelV v u)
 (q0:(∀p∈kvs,p.1≠k)->Q none s)(q1:∀(i:Nat) (p:P×P),kvs[i]? =some p->p.1=k->Q (some i) s):wpAny (model Pg W.w) A (dictFind a u (Em W.w k)) Q E s:=by
 obtain⟨hk,ht⟩:=DP hk
 have ent:∀(i:Nat) (e:DictEntry),es.toArray[i]? =some e->∃p y,kvs[i]? =some p/\e.hash=Em W.w p.1/\RelV y e.key/\Af W H p.1 y/\p.1.tag=k.tag:=by
  intro i e he;rw[List.getElem?_toArray]at he;obtain⟨p,h1,h2,⟨y,h3,h4⟩,_⟩:=Pd.Rt hp he;exact⟨p,y,h1,h2,h3,h4,ht p (mem_of_getElem? h1)⟩
 have ent':∀p∈kvs,∃(i:Nat) (e:DictEntry),kvs[i]? =some p/\es.toArray[i]? =some e/\e.hash=Em W.w p.1:=λp hp'=>by
  obtain⟨i,hi,e⟩:=List.mem_iff_getElem.mp hp';have h1:kvs[i]? =some p:=by rw[List.getElem?_eq_getElem hi,e]
  obtain⟨f,h2,h3⟩:=Pd.get hp h1;exact⟨i,f,h1,by rw[List.getElem?_toArray];exact h2,h3.1⟩
 cases k with
 |int n=>
   cases Ao.mp hv;obtain⟨t,rfl⟩:=r;refine Mh (b:=λi=>match kvs[i]? with|some p=>decide (p.1= .int n)|none=>false) hd ho ⟨n,t,rfl⟩ (λi e he=>?_) (λi e he _=>?_) (λhno=>q0 λp hp' hF=>?_) λi e he _ hb=>?_
   .obtain⟨p,y,h1,h2,h3,h4,h5⟩:=ent i e he;obtain⟨m,hm⟩:=MI h5;rw[hm]at h4;cases Ao.mp h4;obtain⟨t',e1⟩:=h3;rw[e1];rfl
   .obtain⟨p,y,h1,h2,h3,h4,h5⟩:=ent i e he;obtain⟨m,hm⟩:=MI h5;rw[hm]at h4;cases Ao.mp h4;obtain⟨t',e1⟩:=h3;rw[e1]
    try dsimp only
    rw[h1];dsimp only;rw[hm,NC (f:=P.int) λ_ _=>P.int.inj];exact SeqAt.EqAt.int_int _ _ _ _
   .obtain⟨i,e,h1,h2,h3⟩:=ent' p hp';have:=hno i e h2 (by rw[h3,hF]);simp[h1,hF]at this
   .obtain⟨p,y,h1,_⟩:=ent i e he;simp only[h1]at hb;exact q1 i p h1 (of_decide_eq_true hb)
 |str n=>
   cases By.mp hv;obtain⟨t,rfl⟩:=r
   have key:∀(i:Nat) (e:DictEntry),es.toArray[i]? =some e->∃p m t,kvs[i]? =some p/\p.1= .str m/\e.key= .str m t:=λi e he=>by
    obtain⟨p,y,h1,h2,h3,h4,h5⟩:=ent i e he;obtain⟨m,hm⟩:=Ta h5;rw[hm]at h4;cases By.mp h4;obtain⟨t',e1⟩:=h3;exact⟨p,m,t',h1,hm,e1⟩
   refine Rz hd ho (λi e he=>let⟨_,m,t,_,_,z⟩:=key i e he;⟨m,t,z⟩) (λhno=>q0 λp hp' hF=>?_) λi e t he hb=>?_
   .obtain⟨i,e,h1,h2,h3⟩:=ent' p hp';obtain⟨p',m,t',g1,g2,g3⟩:=key i e h2;rw[h1]at g1;cases g1;rw[hF]at g2;cases g2;exact hno i e h2 t' g3
   .obtain⟨p,m,t',g1,g2,g3⟩:=key i e he;rw[hb]at g3;cases g3;exact q1 i p g1 g2
 |_=>cases hk
theorem KD{k:P}{v:V}{u:Value}{E:Va}{s:Shared}{Q:Int->Shared->Prop}(hk:keyOk k=true)(hv:Af W H k v)(r:RelV v u)(q:∀tk:Nat,Q (Em W.w k) {s with toks:=tk}):wpAny (model Pg W.w) A (pyHash u) Q E s:=by
 cases k with
 |int i=>cases Ao.mp hv;obtain⟨t,rfl⟩:=r;exact wpAny_pyHash_int (q _)
 |str i=>cases By.mp hv;obtain⟨t,rfl⟩:=r;exact wpAny_pyHash_str (q _)
 |_=>cases hk
theorem QD{kvs:List (P×P)}(hn:(kvs.map (·.1)).Nodup){i:Nat}{p q:P×P}(h1:kvs[i]? =some p)(h2:kvs[j]? =some q)(e:p.1=q.1):i=j:=by
 obtain⟨hi,ei⟩:=List.getElem?_eq_some_iff.mp h1;obtain⟨hj,ej⟩:=List.getElem?_eq_some_iff.mp h2;have hpw:=List.pairwise_iff_getElem.mp hn;rcases Nat.lt_trichotomy i j with hlt|heq|hgt
 .exact absurd (by rw[getElem_map,getElem_map,ei,ej,e]) (hpw i j (by simpa using hi) (by simpa using hj) hlt)
 .exact heq
 .exact absurd (by rw[getElem_map,getElem_map,ei,ej,e]) (hpw j i (by simpa using hj) (by simpa using hi) hgt)
theorem OU{kvs:List (P×P)}{k:P}(h:∀p∈kvs,p.1≠k):Gi kvs k=none:=by
 unfold Gi;rw[List.find?_eq_none.mpr (λp hp=>by simp[h p hp])];rfl
theorem Vf{kvs:List (P×P)}{k:P}{i:Nat}{p:P×P}(hn:(kvs.map (·.1)).Nodup)(h:kvs[i]? =some p)(e:p.1=k):Gi kvs k=some p.2:=by
 unfold Gi;cases hf:kvs.find? λp=>decide (p.1=k)with
 |none=>
   have:=List.find?_eq_none.mp hf p (mem_of_getElem? h);simp[e]at this
 |some p'=>
   have h1:=List.mem_of_find?_eq_some hf;have h2:p'.1=k:=by simpa using List.find?_some hf
   obtain⟨j,hj,e'⟩:=List.mem_iff_getElem.mp h1;have h1':kvs[j]? =some p':=by rw[List.getElem?_eq_getElem hj,e']
   have:=QD hn h h1' (e.trans h2.symm);subst this;rw[h]at h1';cases h1';rfl
theorem Mt{a:Addr}{kvs:List (P×P)}{es:List DictEntry}{v:V}{k:P}{u:Value}{E:Va}{s:Shared}{Q:Option Value->Shared->Prop}(hd:CO s.heap a es ep)(ok:JR W H a kvs es)(hk:D6 kvs k=true)(hv:Af W H k v)(r:RelV v u)
 (q0:Gi kvs k=none->∀tk,Q none {s with toks:=tk})(q1:∀p y z,Gi kvs k=some p->Af W H p y->RelV y z->∀tk,Q (some z) {s with toks:=tk}):wpAny (model Pg W.w) A (dictGet a u) Q E s:=by
 obtain⟨o,h1,h2,h3⟩:=hd;unfold dictGet;refine wpAny_holding (wB (KD (DP hk).1 hv r λtk=>?_));refine wB (ND (s:={s with toks:=tk}) h1 h3 ok.pr hk hv r (λh=>?_) λi p hi e=>?_)
 .exact wP (q0 (OU h) tk)
 .refine wB (wpAny_dictEntries (s:={s with toks:=tk}) h1 h3 (wP ?_));obtain⟨f,g1,g2⟩:=Pd.get ok.pr hi;rw[List.getElem?_toArray,g1];obtain⟨y,ry,hy⟩:=g2.2.2;exact q1 _ y _ (Vf ok.nd hi e) hy ry tk
theorem OT(kvs:List (P×P))(k v:P)(h:(kvs.any λq=>decide (q.1=k))=true):(dput kvs k v).map (·.1)=kvs.map (·.1):=by
 unfold dput;rw[iP h,map_map];apply List.map_congr_left;intro p _;show(if p.1=k then(p.1,v)else p).1=p.1;split<;>rfl
theorem Hy{kvs:List (P×P)}{k v:P}(hn:(kvs.map (·.1)).Nodup):((dput kvs k v).map (·.1)).Nodup:=by
 by_cases h:(kvs.any λq=>decide (q.1=k))=true
 .rw[OT _ _ _ h];exact hn
 .unfold dput;rw[iN h,map_append,List.nodup_append];refine⟨hn,by simp,?_⟩;intro x hx z hz e;simp at hz;subst hz;obtain⟨p,hp,e2⟩:=mem_map.mp hx;exact h (any_eq_true.mpr ⟨p,hp,dZ (e2.trans e)⟩)
theorem KU(kvs:List (P×P))(k v:P):(dput kvs k v).length<=kvs.length + 1:=by
 unfold dput;split
 .rw[lM];lia
 .rw[lA];exact lR
theorem RM{kvs:List (P×P)}{k v:P}{p:P×P}(h:p∈dput kvs k v):(∃q∈kvs,p.1=q.1)\/p=(k,v):=by
 unfold dput at h;split at h
 .obtain⟨q,hq,e⟩:=mem_map.mp h;refine .inl ⟨q,hq,?_⟩;rw[<-e];split<;>rfl
 .rcases mZ h with z|z
  .exact .inl ⟨p,z,rfl⟩
  .exact .inr (mE z)
theorem HM{kvs:List (P×P)}{es:List DictEntry}{k:P}(hr:RelV y r)(hy:Af W H v y)(hn:(kvs.map (·.1)).Nodup):∀{i:Nat} {p:P×P},Paired (Fg W H) kvs es->kvs[i]? =some p->p.1=k->
 Paired (Fg W H) (kvs.map λp=>if p.1=k then(p.1,v)else p) (es.modify i λe=>{hash:=e.hash,key:=e.key,val:=r}):=by
 induction kvs generalizing es with
 |nil=>intro i p _ e;simp at e
 |cons q kvs ih=>
   intro i p hp hi he;rw[map_cons,nodup_cons]at hn;cases hp with
   |@cons _ e0 _ es' h0 ht=>
     cases i with
     |zero=>
       simp at hi;subst hi;rw[map_cons,iP he]
       have rest:(kvs.map λp=>if p.1=k then(p.1,v)else p)=kvs:=by
        have:∀q∈kvs,(if q.1=k then(q.1,v)else q)=q:=by
         intro q hq;rw[iN];intro z;exact hn.1 (mem_map.mpr ⟨q,hq,z.trans he.symm⟩)
        conv=>rhs;rw[<-List.map_id kvs]
        exact List.map_congr_left this
       rw[rest];exact .cons ⟨h0.1,h0.2.1,y,hr,hy⟩ ht
     |succ i=>
       have hi:kvs[i]? =some p:=by simpa using hi
       rw[map_cons,iN]
       .exact .cons h0 (ih hn.2 ht hi he)
       .intro z;exact hn.1 (mem_map.mpr ⟨p,mem_of_getElem? hi,he.trans z.symm⟩)
theorem Fg.mono{H':Hp}{q:P×P}{e:DictEntry}(z:Fg W H q e)(k:AS H H'):Fg W H' q e:=⟨z.1,let⟨v,a,b⟩:=z.2.1;⟨v,a,b.mono k⟩,let⟨v,a,b⟩:=z.2.2;⟨v,a,b.mono k⟩⟩
section
variable{pins:Oa}{s:Shared}{a:Addr}{kvs:List (P×P)}{k v:P}{x y:V}{u r:Value}{A:Around}{E:Va}
theorem RO(I:Inv X pins σ H s){es:List DictEntry}(hH:H a=some (DX a es)):CO s.heap a es es.length:=(show BD X.prog X.w H s.heap a (DX a es)from I.Aq a _ hH).1
theorem KZ{h':Heap}{t':Nat}{es es':List DictEntry}{oc:Value}{od:Option Addr}{os:Array (Option Value)}{d0:Data}(I:Inv X pins σ H s)(hH:H a=some (DX a es))(hs:Heap.SameBut a s.heap h')
 (hg:h'.get? a=some ⟨oc,od,.dict es'.toArray es'.length,os⟩)(hx:(Obj.mk oc od d0 os).ExactDict):Inv X pins σ (upd H a (DX a es')) {s with heap:=h',toks:=t'}:=by
 refine Vh I (by rw[hH];exact True.intro) hs ⟨_,hg⟩ ⟨⟨_,hg,hx,rfl⟩,⟨_,hg⟩,?_⟩
 rintro h1 h2 ⟨o,q1,q2,q3⟩ k
 exact⟨o,k o q1,q2,q3⟩
theorem Ms{Q:Unit->Shared->Prop}{es:List DictEntry}(hw:W.w=X.w)(I:Inv X pins σ H s)(hH:H a=some (DX a es))(ok:JR W H a kvs es)(hk:D6 kvs k=true)(hx:Af W H k x)(hy:Af W H v y)(hl:kvs.length < big)(rx:RelV x u)(ry:RelV y r)
 (h:∀es' s',JR W (upd H a (DX a es')) a (dput kvs k v) es'->Inv X pins σ (upd H a (DX a es')) s'->Q () s'):
 wpAny (model X.prog X.w) A (setItem (.ref a) u r) Q E s:=by
 have hd:=RO I hH;have ty:=hd.typ;obtain⟨o,h1,h2,h3⟩:=hd;have hlen:=Paired.length ok.pr;have T:∀es',AS H (upd H a (DX a es')):=λes'=>D7 hH QI.1 QI.2.1
 have ko:=(DP hk).1;unfold setItem;refine wpAny_holding (wB (wpAny_sequenceKey ty (by decide) ?_));refine wB (wpAny_callSpecial?_slot ty slot_dict_setitem (wpAny_call_entry slot_dict_setitem ty entry_dict_setitem ?_ (args_dict_setitem _ _ _)));show wpAny _ _ (Builtin.Dict.notOrdered "__setitem__" ⟨[.ref a,u,r],[]⟩ >>= λ_=>dictSet a u r >>= λ_=>ret Value.none) _ _ s;unfold Builtin.Dict.notOrdered;refine wB ?_;refine wpAny_ite_split (λ_=>?_) (λhab=>absurd (by decide) hab);refine wB (wpAny_typeOf ty ?_);refine wpAny_ite_split (λhab=>absurd hab (by decide)) (λ_=>wP ?_);refine wB ?_;unfold dictSet;rw[<-hw]
 have ksok:∀p∈dput kvs k v,keyOk p.1=true:=λp hp'=>by
  rcases RM hp' with⟨q,hq,e1⟩|e
  .rw[e1];exact ok.ks q hq
  .rw[e];exact ko
 refine wpAny_holding (wB (KD ko hx rx λtk=>?_));unfold dictSetHashed;refine wpAny_holding (wB (ND (s:={s with toks:=tk}) h1 h3 ok.pr hk hx rx (λhno=>?_) λi p hi e=>?_))
 .refine wB (wpAny_rule ?_);refine wpAny_updateDictKeys (s:={s with toks:=tk}) h1 h3 ?_ (by rw[size_toArray];have:=BH;lia) (by simp);refine wP ⟨_,rfl,wP ?_⟩
  have hnone:¬(kvs.any λq=>decide (q.1=k))=true:=λz=>by
   obtain⟨p,hp',e⟩:=any_eq_true.mp z;exact hno p hp' (of_decide_eq_true e)
  have eput:dput kvs k v=kvs++[(k,v)]:=by unfold dput;rw[iN hnone]
  obtain⟨oc,od,oda,os⟩:=o;have h3:oda= .dict es.toArray es.length:=h3;subst h3
  have hget:(s.heap.update a (Obj.mapDictKeys λx=>x.push (⟨Em W.w k,u,r⟩:DictEntry))).get? a=some ⟨oc,od,.dict (es++[(⟨Em W.w k,u,r⟩:DictEntry)]).toArray (es++[(⟨Em W.w k,u,r⟩:DictEntry)]).length,os⟩:=by
   rw[Heap.get?_update_self _ h1 rfl];show some (Obj.mk oc od (.dict (es.toArray.push (⟨Em W.w k,u,r⟩:DictEntry)) (es.length+1)) os)=_;rw[List.push_toArray,lA];rfl
  refine h (es++[(⟨Em W.w k,u,r⟩:DictEntry)]) _ ⟨?_,Hy ok.nd,ksok,by have:=KU kvs k v;lia,ok.sm⟩ (KZ (s:=s) (t':=tk) I hH (Heap.SameBut.update ..) hget h2);rw[eput];exact Pd.append (Paired.Kp ok.pr λ_ _ z=>z.mono (T _)) (.cons ⟨rfl,⟨x,rx,hx.mono (T _)⟩,y,ry,hy.mono (T _)⟩ .nil)
 .refine wB (wpAny_rule ?_);refine wB (wpAny_updateDict (s:={s with toks:=tk}) h1 h3 ?_ (by simp));have hsome:(kvs.any λq=>decide (q.1=k))=true:=any_eq_true.mpr ⟨p,mem_of_getElem? hi,dZ e⟩;have eput:dput kvs k v=kvs.map λp=>if p.1=k then(p.1,v)else p:=by unfold dput;rw[iP hsome]
  obtain⟨oc,od,oda,os⟩:=o;have h3:oda= .dict es.toArray es.length:=h3;subst h3
  have hget:(s.heap.update a (Obj.mapDict λx=>x.modify i λe=>{hash:=e.hash,key:=e.key,val:=r})).get? a=some ⟨oc,od,.dict (es.modify i λe=>{hash:=e.hash,key:=e.key,val:=r}).toArray (es.modify i λe=>{hash:=e.hash,key:=e.key,val:=r}).length,os⟩:=by
   rw[Heap.get?_update_self _ h1 rfl];show some (Obj.mk oc od (.dict (es.toArray.modify i _) es.length) os)=_;rw[List.modify_toArray,List.length_modify]
  refine wpAny_point ?_;refine wP ⟨_,rfl,wP ?_⟩;refine h (es.modify i λe=>{hash:=e.hash,key:=e.key,val:=r}) _ ⟨?_,Hy ok.nd,ksok,by have:=KU kvs k v;lia,ok.sm⟩ (KZ (s:=s) (t':=tk) I hH (Heap.SameBut.update ..) hget h2);rw[eput];exact HM ry (hy.mono (T _)) ok.nd (Paired.Kp ok.pr λ_ _ z=>z.mono (T _)) hi e
def fg(W:Wd):VE:=λo i v H Q=>G0 W (G1 λc x k=>Ei c k x) o [v,i] H λ_ H'=>Q H'
theorem Xl(hw:W.w=X.w):ZD X (fg W):=by
 intro pins s σ H o i v ov iv u Q I ro ri rv h;obtain⟨own,bor,c,cs,c',h1,h2,e,q⟩:=h;obtain⟨xv,xi,rfl,e⟩:=Qy e;obtain⟨z1,z2,ez,r1,r2⟩:=W7 h2;cases ez;rcases or_some e with e|e
 .obtain⟨ps,ep,e⟩:=Ae e;obtain⟨j,ej,e⟩:=Ae e;obtain⟨p,ep2,e⟩:=Ae e;obtain⟨n,en,rfl⟩:=Bg e;cases EN ep;cases C.Bh ej;cases C.Cs ep2;cases Ba r2;obtain⟨l,vs,rfl,k1,k2,k3⟩:=DR h1 q;exact set_list pins s σ H _ _ v ov iv u Q I ro ri rv ⟨l,vs,j,n,rfl,rfl,k1,by rw[<-Paired.length k2];exact en,k3 _ .A8 (Pd.set (JT r1) n k2)⟩
 .cases c with
  |BC b kvs=>
    cases b with
    |false=>cases e
    |true=>
      obtain⟨p,ep,e⟩:=Ae (show(xi.GZ.bind λk=>xv.GZ.bind λv=>if D6 kvs k=true/\kvs.length < big then some (C.BC true (dput kvs k v))else none)=some c' from e);obtain⟨w,ew,e⟩:=Ae e;obtain⟨hk,rfl⟩:=A6 e;cases C.Cs ep;cases C.Cs ew;obtain⟨a,es,rfl,⟨k1,k2⟩,k3⟩:=h1;cases ro;refine Ms hw I k1 k3 hk.1 (JT r2) (JT r1) hk.2 ri rv λes' s' ok I'=>⟨_,I',q a _ (DX a es') .A8 rfl k2 k1 QI ⟨a,es',rfl,⟨Ag,k2⟩,ok⟩⟩
  |_=>cases e
end
theorem PL{β:Type}{rep:Rp α β}{F:Env->Res α}{σ:L2.St}{Q Q':β->Hp->Prop}(h:tG W EX rep F σ H Q)(k:∀b H',Q b H'->Q' b H'):tG W EX rep F σ H Q':=let⟨ρ,B,R,z⟩:=h;⟨ρ,B,R,z.imp k⟩
theorem Th(L:Br ct X W EX cf k){i:Nat}{ie:Expr}(hs:ct.slot y=some j)(hi:Mc ie=false)(he:Bt X W EX cf e t)(hie:Bt X W EX cf ie u):
 PS X (.Assign [.Subscript (.Name y p) ie q] e pos) (rS W EX cf (.Bu j false (G1 λc x k=>Ei c k x) [t,u])):=by
 have hsw:swapsWithSole [.Subscript (.Name y p) ie q] e pos.line X.env=pure false:=by
  show swapsWith e (some (.Subscript (.Name y p) ie q)) pos.line X.env=pure false;cases e<;>rfl
 have hwp:swappedStores [.Subscript (.Name y p) ie q] e X.env=pure none:=by cases e<;>rfl
 refine C1 (Qf he.v (XH (L.pv hs) hie.v (Xl L.w) ?_) hsw hwp rfl) λD σ H z=>?_
 .intro v;cases ie<;>first|rfl|cases hi
 .obtain⟨Hin,A0,Bo,ρ,S,hA⟩:=z;replace hA:Bp W EX Hin A0 Bo [] D σ (if(!(Ap ρ j).any λ_=>true)=true then .stuck else(FO cf [t,u] ρ).fl ρ λcs=>match(Ap ρ j).bind λc=>(G1 λc x k=>Ei c k x) c cs with|some c'=>.nx (ρ.set j (some c'))|none=>.stuck):=hA;cases hg:Ap ρ j with
  |none=>rw[hg]at hA;exact hA.elim
  |some c=>
    rw[iN (by rw[hg];simp)]at hA;obtain⟨O,hO⟩:=S.env;obtain⟨x,q1,q2⟩:=hO j c hg;have z:=Lx (VR S hA hg q1);refine PL z λv H1 z=>⟨x,q1,?_⟩
    have z:=Lx z;refine PL z λw H2 z=>?_
    exact PD z
theorem G2(x:Str):∀l:List Str,AN (l++[x])=if l.contains x then AN l else AN l + 1
 |[]=>rfl
 | a ::l=>by
   have ih:=G2 x l;rw[cons_append];have e1:AN (a::(l++[x]))=if(l++[x]).contains a then AN (l++[x])else AN (l++[x])+1:=rfl
   have e2:AN (a::l)=if l.contains a then AN l else AN l+1:=rfl
   rw[e1,e2,ih]
   by_cases hax:x=a
   .subst hax;simp
   .have hxa:¬a=x:=λz=>hax z.symm
    by_cases h1:a∈l<;>by_cases h2:x∈l<;>simp[h1,h2,hax,hxa]
section
variable{prog:Program}{w:World}{A:Around}{R:Result->Shared->Prop}{E:Va}{s:Shared}
abbrev Eo(prog:Program)(w:World)(h:Heap)(S:Addr)(l:List Str):Prop:=h.SetOf (PySem.strKind prog w) S (λk=>l.contains k) (AN l)
theorem Ih:∀l:List Str,AN l<=l.length
 |[]=>lR
 | a::l=>by
   have:=Ih l;show(if l.contains a then AN l else AN l+1)<=l.length+1;split<;>lia
theorem take_snoc{l:List Str}{i:Nat}{x:Str}(h:l[i]? =some x):l.take (i + 1)=l.take i++[x]:=by
 rw[take_add_one,h];rfl
theorem T6{I S ax:Addr}{items:Array Value}{ks:List Str}(hSI:S≠I)(hSa:S≠ax)(haI:ax≠I)(hh:A.in1.handled=none)(hk:∀(i:Nat) (v:Value),items[i]? =some v->∃x t,ks[i]? =some x/\v= .str x t)(hl:ks.length=items.size)(hb:items.size + 1 < scanBound):
 ∀ (m i:Nat) (s:Shared),items.size - i=m->i<=items.size->s.heap.IsTupleIter I ax i->s.heap.IsTuple ax items->Eo prog w s.heap S (ks.take i)->
   (∀h' tk,(∀b o,b≠S->b≠I->s.heap.get? b=some o->h'.get? b=some o)->Eo prog w h' S ks->R (.ok (.ret .none)) {s with heap:=h',toks:=tk})->
   codeAny (model prog w) A (.builtin "set.update.loop" ⟨[.ref S,.ref I],[]⟩) R s:=by
 have W:=Walks.tuple (prog:=prog) (w:=w) hh I ax haI items;have mv:∀{h h':Heap} {l:List Str},(∀o,h.get? S=some o->h'.get? S=some o)->Eo prog w h S l->Eo prog w h' S l:=λ{h h' l} k ⟨o,es,ep,t,ho,r⟩=>⟨o,es,ep,t,k o ho,r⟩
 intro m
 induction m with
 |zero=>
   intro i s hm hi hit htu hS hR;have hin:i=items.size:=by lia
   subst hin;refine codeAny_builtin F.entry_set_update_loop ?_;rw[Around.under_plainId F.plain_set_update_loop _];show wpAny _ A.in1 (pyNext (.ref I) >>= _) _ _ s;refine wB (W.done s _ _ ⟨hit,htu⟩ λh' tk k=>?_);show wpAny _ A.in1 (ret Value.none) _ _ _;refine wP (hR h' tk (λb o h1 h2 e=>k b o (by simpa using h2) e) ?_);rw[<-hl,List.take_length]at hS;exact mv (λo e=>k S o (by simpa using hSI) e) hS
 |succ m ih=>
   intro i s hm hi hit htu hS hR;have hlt:i < items.size:=by lia
   refine codeAny_builtin F.entry_set_update_loop ?_;rw[Around.under_plainId F.plain_set_update_loop _];show wpAny _ A.in1 (pyNext (.ref I) >>= _) _ _ s;refine wB (W.item i s _ _ hlt ⟨hit,htu⟩ λv h1 tk hv st k=>?_);obtain⟨x,t,hx,rfl⟩:=hk i v hv;have hS1:=mv (λo e=>k S o (by simpa using hSI) e) hS;show wpAny _ A.in1 (holding [Value.str x t] (setAdd S (.str x t)) >>= _) _ _ _;refine wB (wpAny_holding ?_);unfold setAdd;refine wpAny_holding ?_
   have hkey:(PySem.strKind prog w).is x (.str x t)=true:=by
    show Value.isStrOf x (.str x t)=true;simp[Value.isStrOf]
   refine wB ((PySem.strKind prog w).pyHash (k:=x) hkey ?_)
   have hroom:AN (ks.take i) + 1 < scanBound:=by
    have:=Ih (ks.take i);rw[length_take]at this
    lia
   refine wpAny_setAddHashed_of (knd:=PySem.strKind prog w) (s:={s with heap:=h1,toks:=tk+1}) hkey rfl hS1 hroom λh2 hsb hS2=>?_
   have hS3:Eo prog w h2 S (ks.take (i + 1)):=by
    rw[take_snoc hx];refine SetOf_congr hS2 (λk'=>?_) ?_
    .simp[List.contains_eq_mem,Bool.or_comm,eq_comm]
    .rw[G2]
   have kp:∀b o,b≠S->b≠I->s.heap.get? b=some o->h2.get? b=some o:=λb o n1 n2 e=>by rw[hsb.2 b n1];exact k b o (by simpa using n2) e
   refine wP ⟨plainId_quiet F.plain_set_update_loop _,ih (i+1) _ (by lia) hlt (st.1.at λo e=>by rw[hsb.2 I hSI.symm];exact e) (st.2.at λo e=>by rw[hsb.2 ax hSa.symm];exact e) hS3 λh' tk' k' hS4=>?_⟩;exact hR h' tk' (λb o n1 n2 e=>k' b o n1 n2 (kp b o n1 n2 e)) hS4
end
end Nv
namespace PySem.F
theorem K2:isSubtype (.type "tuple") (.type "set")=pure false:=by rw[isSubtype_type];kernel_rfl
theorem IQ:isSubtype (.type "tuple") (.type "frozenset")=pure false:=by rw[isSubtype_type];kernel_rfl
end PySem.F
namespace Nv
open PySem L2 PyProof.Rows
abbrev PZ(led:Bool):Obj:={cls:=.type "set",dict:=none,data:=.set #[] 0 (.fresh 0 0 led)}
section
variable{prog:Program}{w:World}{A:Around}{E:Va}{s:Shared}
variable{ax:Addr}{ks:List Str}
theorem T7{S:Addr}{led:Bool}{items:Array Value}{Q:Va}(hh:A.handled=none)(hS:s.heap.get? S=some (PZ led))(hSl:S≠ax)(ht:s.heap.IsTuple ax items)
 (hk:∀(i:Nat) (v:Value),items[i]? =some v->∃x t,ks[i]? =some x/\v= .str x t)(hl:ks.length=items.size)(hb:items.size+1 < scanBound)
 (h:∀h' tk,(∀b o,b≠S->b < s.heap.objs.size->s.heap.get? b=some o->h'.get? b=some o)->Eo prog w h' S ks->Q .none {s with heap:=h',toks:=tk}):
 wpAny (model prog w) A (Builtin.«set.__init__» ⟨[.ref S,.ref ax],[]⟩) (λfin s'=>∃r,fin= .done (.ret r)/\Q r s') E s:=by
 have hT:s.TypeIs (.ref S) "set":=⟨_,hS,rfl⟩;have hTt:s.TypeIs (.ref ax) "tuple":=ht.typeIs;have hls:=F.K2;have hlf:=F.IQ;unfold Builtin.«set.__init__» noKeywords Builtin.Frozenset.updateFrom;generalize hPI:pyIter=PI
 wp_walk
 subst hPI;refine wpAny_pyIter_tuple ht ?_;refine wB (wpAny_runValue ?_);have hlt:S < s.heap.objs.size:=Heap.lt_size hS;obtain⟨ot,hot,r⟩:=ht;have hax:ax < s.heap.objs.size:=Heap.lt_size hot;refine T6 (A:=A) (ks:=ks) (items:=items) (ax:=ax) (Nat.ne_of_lt hlt) hSl (Nat.ne_of_lt hax) (by simp[hh]) hk hl hb items.size 0 _ (by lia) (Nat.zero_le _) ?_ ?_ ?_ λh' tk k hS'=>?_
 .exact⟨_,Heap.get?_push_size _ rfl,rfl,rfl⟩
 .exact⟨ot,gP hot,r⟩
 .exact SetOf_congr ((setObjOf_fresh (knd:=PySem.strKind prog w) led).setOf (gP hS) (by unfold scanBound;lia)) (λ_=>rfl) rfl
 .show wpAny _ _ _ _ _ _;refine wP ?_;show wpAny _ _ (ret Value.none) _ _ _;exact wP ⟨_,rfl,h h' tk (λb o n1 n2 e=>k b o n1 (Nat.ne_of_lt n2) (gP e)) hS'⟩
theorem T8{items:Array Value}{Q:Va}(hh:A.handled=none)(ht:s.heap.IsTuple ax items)
 (hk:∀(i:Nat) (v:Value),items[i]? =some v->∃x t,ks[i]? =some x/\v= .str x t)(hl:ks.length=items.size)(hb:items.size+1 < scanBound)
 (h:∀h' tk,(∀b o,s.heap.get? b=some o->h'.get? b=some o)->Eo prog w h' s.heap.objs.size ks->Q (.ref s.heap.objs.size) {s with heap:=h',toks:=tk}):
 wpAny (model prog w) A (call (.type "set") [.ref ax]) Q E s:=by
 obtain⟨c,tl,hmro⟩:=F.called_set.mro;have hmade:=F.called_set.made;have hsub:=F.called_set.sub;have h1:=F.called_set.notType;have h2:=F.called_set.canCreate;have hct:=F.typeCall_set_1 (.ref ax);refine wpAny_call (codeAny_of_tree ?_);show wpAny _ _ (callAny (.type "set") _) _ _ _;refine wP ⟨Code.quiet_builtin _ (by decide +kernel),codeAny_builtin F.entry_type_call ?_⟩;rw[Around.under_plain (weight_type_call_type "set" [.ref ax] []) rfl]
 repeat (any_goals (first|assumption|wp_step))
 refine codeAny_mono (code_set_new_1 (.ref ax) (E:=E) (Q₁:=λobj s₁=>∃led:Bool,obj= .ref s.heap.objs.size/\s₁={s with heap:=s.heap.push (PZ led)}) λled=>⟨led,rfl,rfl⟩) λr s₁ hr=>?_
 cases r with
 |error e=>exact hr
 |ok fl =>
   cases fl with
   |next=>exact hr.elim
   |brk=>exact hr.elim
   |cont=>exact hr.elim
   |ret obj=>
     obtain⟨led,rfl,rfl⟩:=hr;have hS:(s.heap.push (PZ led)).get? s.heap.objs.size=some (PZ led):=Heap.get?_push_size _ rfl;have hT:Shared.TypeIs {s with heap:=s.heap.push (PZ led)} (.ref s.heap.objs.size) "set":=⟨_,hS,rfl⟩;have hli:=F.called_set.init.lookup;have hbi:=F.called_set.init.bind (.ref s.heap.objs.size);obtain⟨ot,hot,rt⟩:=ht;have hax:ax < s.heap.objs.size:=Heap.lt_size hot
     repeat (any_goals (first|assumption|wp_step))
     refine codeAny_mono (codeAny_call_builtin (R:=wants (λr s₂=>r= .none/\∃h' tk,s₂={s with heap:=h',toks:=tk}/\Eo prog w h' s.heap.objs.size ks/\∀b o,s.heap.get? b=some o->h'.get? b=some o) E) F.called_set.init.plain F.entry_set_init (check_set_init_1 hT ?_)) λr₂ s₂ hr₂=>?_
     .refine wpAny_mono (T7 (E:=E) (A:=A.in1.in1) (led:=led) (Q:=λr s₂=>r= .none/\∃h' tk,s₂={s with heap:=h',toks:=tk}/\Eo prog w h' s.heap.objs.size ks/\∀b o,s.heap.get? b=some o->h'.get? b=some o) (by simp[hh]) hS (Nat.ne_of_gt hax) ⟨ot,gP hot,rt⟩ hk hl hb λh' tk k hS'=>?_) (λfin s' ⟨r,e,q⟩=>?_) λe s' z=>z
      .refine⟨rfl,h',tk,rfl,hS',λb o e=>?_⟩;have hbl:=Heap.lt_size e;exact k b o (Nat.ne_of_lt hbl) (by rw[Heap.size_push];exact Nat.lt_succ_of_lt hbl) (gP e)
      .subst e;exact q
     .cases r₂ with
      |error e=>exact hr₂
      |ok fl₂=>
        cases fl₂ with
        |ret r=>
          obtain⟨rfl,h',tk,rfl,hS',hk'⟩:=hr₂
          repeat (any_goals (first|assumption|wp_step))
          exact h _ _ hk' hS'
        |_=>exact hr₂.elim
end
def SX(P:Program)(w:World)(a:Addr)(l:List Str):HO:=.ext λh=>Eo P w h a l
variable{X:Cx}{W:Wd}{ct:Ct}{EX:XP}{cf:CF}{k:Nat}
variable{H:Hp}
theorem Cq.fR{H':Hp}{Q:VK}(q:Cq W H (.p (.int b)) Q)(s:DU H H'):Q (.int b) H':=q _ _ s (show Af W H' (.int b) _ from Ao.mpr rfl)
def aK(te:TE):TE:=λσ H Q'=>∃Q,te σ H Q/\∀x H1,Q x H1->Q' x H1
variable{te:TE}
theorem E4(h:PE X e te):PE X e (aK te):=λpins s σ H Q' I ⟨Q,z,k⟩=>thn (h pins s σ H Q I z) λv s1 ⟨x,H1,I1,r1,q1⟩=>⟨x,H1,I1,r1,k x H1 q1⟩
theorem Tn{xs:List Str}{us:List Value}(h:Paired (λz u=>∃t,u=Value.str z t) xs us)(i:Nat)(u:Value)(e:us[i]? =some u):∃x t,xs[i]? =some x/\u= .str x t:=by
 obtain⟨x,h1,t,h2⟩:=Pd.Rt h e;exact⟨x,t,h1,h2⟩
def fb(W:Wd)(X:Cx):V->Hp->VK->Prop:=λx H Q=>∃ps l,Af W H (.tup ps) x/\DT P.BZ ps=some l/\l.length < 4000/\∀p,H p=none->Q (.ref p) (upd H p (SX X.prog X.w p l))
theorem af(hK:W.K=X.K)(hc:X.calm=true):HS X (λv=>call (.type "set") [v]) (fb W X):=by
 intro pins s σ H x u Q I ru h;obtain⟨ps,l,h1,h2,h3,q⟩:=h;obtain⟨a,vs,rfl,h4,h5⟩:=AX.mp h1;cases ru;obtain⟨its,r2,pl,_⟩:=I.tuple (hK▸h4);have hp:=EC h2 h5 r2;have hl:=Paired.length hp;refine T8 (ks:=l) (items:=its.toArray) (I.ok.hd hc) pl (λi v e=>Tn hp i v (by simpa using e)) (by simpa using hl) (by unfold scanBound;simp only[size_toArray];lia) λh' tk k hS=>?_
 refine⟨.ref s.heap.objs.size,upd H s.heap.objs.size (SX X.prog X.w s.heap.objs.size l),I.laid k (lR) ⟨hS,?_,λh1 h2 ⟨o,es,ep,t,ho,r⟩ k=>⟨o,es,ep,t,k o ho,r⟩⟩,rfl,q _ (I.Aq.fresh (lR))⟩;obtain⟨o,es,ep,t,ho,_⟩:=hS;exact⟨o,ho⟩
def aZ(X:Cx):V->Hp->VK->Prop:=λx H Q=>∃p l,x= .ref p/\H p=some (SX X.prog X.w p l)/\Q (.int (AN l)) H
theorem WQ:HS X (λv=>call (.builtin "len") [v]) (aZ X):=by
 intro pins s σ H x u Q I ru h;obtain⟨p,l,rfl,h1,q⟩:=h;cases ru;obtain⟨⟨o,es,ep,t,ho,hex,hd,_,_,hb,hf,hn⟩,_⟩:=(show BD X.prog X.w H s.heap p (SX X.prog X.w p l)from I.Aq p _ h1);refine call_len_set ho hex hd hf (by unfold scanBound at hb;lia) ⟨.int (AN l),H,I.tok _,⟨s.toks+1,by rw[hn]⟩,q⟩
theorem Zj:bootBuiltins "set"=some (.type "set"):=rfl
theorem S7:bootBuiltins "range"=some (.type "range"):=rfl
variable{pos:Pos}
theorem gg{r:V->Hp->VK->Prop}(hc:HS X (λv=>call (.builtin f) [v]) r)(L:Br ct X W EX cf k)(ho:ct.own x=true)(hv:bootBuiltins x=some (.builtin f))(hp:Al e=true)(he:PE X e te):PE X (.Call (.Name x p) [e] [] pos) (λσ H Q=>te σ H λv H1=>r v H1 Q):=by
 obtain⟨g1,g2,g3,g4⟩:=L.Gf ho;exact Au (DL (GB hc) g1 g2 hv (AU he BR (A9 hp [] _)) g4 g3 (A9 hp [] _) rfl) λσ H Q z=>z
theorem Zd{r:V->Hp->VK->Prop}(hc:HS X (λv=>call (.type f) [v]) r)(L:Br ct X W EX cf k)(ho:ct.own x=true)(hv:bootBuiltins x=some (.type f))(hp:Al e=true)(he:PE X e te):PE X (.Call (.Name x p) [e] [] pos) (λσ H Q=>te σ H λv H1=>r v H1 Q):=by
 obtain⟨g1,g2,g3,g4⟩:=L.Gf ho;exact Au (Ie (GB hc) g1 g2 hv (AU he BR (A9 hp [] _)) g4 g3 (A9 hp [] _) rfl) λσ H Q z=>z
variable{pos':Pos}
theorem To(L:Br ct X W EX cf k)(ho:ct.own x=true)(hx:x="len")(ho':ct.own y=true)(hy:y="set")(hp:Al e=true)(he:PE X e te):PE X (.Call (.Name x p) [.Call (.Name y q) [e] [] pos'] [] pos) (λσ H Q=>te σ H λv H1=>BJ W Jo v H1 Q):=by
 subst hx hy;refine Au (gg WQ L ho S8 rfl (Zd (af L.K L.calm) L ho' Zj hp (E4 he))) λσ H Q z=>⟨_,z,λv H1 ⟨c1,c,h1,e,q⟩=>?_⟩
 obtain⟨ps,e1,e⟩:=Ae e;obtain⟨xs,e2,e⟩:=Ae e;obtain⟨hl,rfl⟩:=A6 e;cases C.Bx e1;exact⟨ps,xs,JT h1,e2,hl,λp hp=>⟨p,xs,rfl,Ag,q.fR (AF hp)⟩⟩
def da(a:Addr)(n:Int):HO:=.ext λh=>∃t u v,IsRange h a 0 n 1 t u v
def fc(W:Wd):V->Hp->VK->Prop:=λx H Q=>∃n,x= .int n/\∀p,H p=none->Q (.ref p) (upd H p (da p n))
theorem T3:HS X (λv=>call (.type "range") [v]) (fc W):=by
 intro pins s σ H x u Q I ru h;obtain⟨n,rfl,q⟩:=h;obtain⟨t,rfl⟩:=ru;refine call_range_1 ⟨.ref s.heap.objs.size,upd H s.heap.objs.size (da s.heap.objs.size n),I.laid (λ_ _ z=>gP z) (lR) ⟨⟨_,_,_,IsRange.new ..⟩,⟨_,Heap.get?_push_size _ rfl⟩,?_⟩,rfl,q _ (I.Aq.fresh (lR))⟩
 rintro h1 h2 ⟨t,u,v,hr⟩ k
 exact⟨t,u,v,k _ hr⟩
variable{acc:Array Value}
theorem OK{n:Nat}(h:ItemsOf (λi v=>∃t,v= .int (0 + (i:Nat) * 1) t) acc n):Vals ((List.range n).map λ(i:Nat)=>V.int i) acc.toList:=by
 have gen:∀(m:Nat) (us:List Value),us.length=m->(∀(j:Nat) (u:Value),us[j]? =some u->∃t,u= .int j t)->Vals ((List.range m).map λ(i:Nat)=>V.int i) us:=by
  intro m
  induction m with
  |zero=>intro us hl _;cases List.eq_nil_of_length_eq_zero hl;exact .nil
  |succ m ih=>
    intro us hl hu;rcases List.eq_nil_or_concat us with rfl|⟨ws,w,rfl⟩
    .cases hl
    rw[List.concat_eq_append]at hl hu ⊢;have hl:ws.length=m:=by simpa using hl
    rw[List.range_succ,map_append];refine Vals.append (ih ws hl λj u hj=>hu j u ?_) (.cons ?_ .nil)
    .rw[List.getElem?_append_left (List.getElem?_eq_some_iff.mp hj).1];exact hj
    .obtain⟨t,e⟩:=hu m w (by rw[List.getElem?_append_right (by lia)];simp[hl]);exact⟨t,e⟩
 refine gen n acc.toList (by simp[h.1]) λj u hj=>?_
 obtain⟨t,e⟩:=h.2 j u (by simpa using hj);exact⟨t,by rw[e];congr 1;lia⟩
theorem Og(n:Int):CU W H (BP 0 n) ((List.range n.toNat).map λ(i:Nat)=>V.int i):=by
 have gen:∀l:List Nat,CU W H (l.map λ(k:Nat)=>P.int (0 + (k:Nat))) (l.map λ(i:Nat)=>V.int i):=by
  intro l
  induction l with
  |nil=>exact .nil
  |cons a l ih=>exact .cons (Ao.mpr (by rw[Int.zero_add])) ih
 have:=gen (List.range n.toNat);unfold BP;rw[Int.sub_zero];exact this
def fh(W:Wd):V->Hp->VK->Prop:=λx H Q=>∃p n,x= .ref p/\H p=some (da p n)/\n.natAbs < 2 ^ 61/\n.toNat<=big/\∀l,H l=none->Q (.ref l) (upd H l (.lst ((List.range n.toNat).map λ(i:Nat)=>V.int i)))
theorem Po(hc:X.calm=true):HS X (λv=>call (.type "list") [v]) (fh W):=by
 intro pins s σ H x u Q I ru h;obtain⟨p,n,rfl,h1,hn,hb,q⟩:=h;cases ru;obtain⟨⟨t,u,v,hr⟩,_⟩:=(show BD X.prog X.w H s.heap p (da p n)from I.Aq p _ h1);have hbb:big=100000:=rfl;refine call_list_range (n:=n.toNat) (I.ok.hd hc) hr (small_one (by lia) (by lia) (by lia) (by lia)) (by rw[rangeSize_one];split<;>lia) (by lia) λh' tk acc c' kp e hi=>?_
 have rv:=OK hi;refine⟨.ref s.heap.objs.size,_,I.laid (t':=tk) (o:=.lst _) kp (lR) ⟨?_,acc.toList,c',rv,by rw[e]⟩,rfl,q _ (I.Aq.fresh (lR))⟩;have:=BH;rw[lM,length_range]
 lia
theorem O7(L:Br ct X W EX cf k)(ho:ct.own x=true)(hx:x="list")(ho':ct.own y=true)(hy:y="range")(hp:Al e=true)(he:PE X e te):PE X (.Call (.Name x p) [.Call (.Name y q) [e] [] pos'] [] pos) (λσ H Q=>te σ H λv H1=>BJ W E8 v H1 Q):=by
 subst hx hy;refine Au (Zd (Po (W:=W) L.calm) L ho JI rfl (Zd (T3 (W:=W)) L ho' S7 hp (E4 he))) λσ H Q z=>⟨_,z,λv H1 ⟨c1,c,h1,e,q⟩=>?_⟩
 obtain⟨ps,e1,e⟩:=Ae e;obtain⟨hl,rfl⟩:=A6 e;obtain⟨n,en,e1⟩:=Ae e1;obtain⟨hn,rfl⟩:=A6 e1;cases C.Bh en;cases Ba h1;have hl:n.toNat<=big:=by simpa[BP]using hl
 exact⟨n,rfl,λp hp=>⟨p,n,rfl,Ag,hn,hl,λl hl=>q _ _ ((AF hp).trans (AF hl)) ⟨l,_,rfl,⟨Ag,(Ext.of (AF (o:=da p n) hp)).none hl⟩,Og n⟩⟩⟩
theorem Tq(L:Br ct X W EX cf k)(ho:ct.own x=true)(hx:x="list")(ho':ct.own y=true)(hy:y="reversed")(hp:Al e=true)(he:PE X e te):PE X (.Call (.Name x p) [.Call (.Name y q) [e] [] pos'] [] pos) (λσ H Q=>te σ H λv H1=>BJ W Ks v H1 Q):=by
 subst hx hy;obtain⟨g1,g2,_⟩:=L.Gf ho;obtain⟨g3,g4,_⟩:=L.Gf ho';refine Au (LM L.calm g1 g2 g3 g4 (E4 he) (A9 hp [] _) rfl) λσ H Q z=>⟨_,z,λv H1 ⟨c1,c,h1,e,q⟩=>?_⟩
 obtain⟨ps,e1,rfl⟩:=Bg e;cases C.Bx e1;obtain⟨a,vs,rfl,k1,k2⟩:=Cb h1;exact⟨a,vs,rfl,L.K▸k1,q.list (Pd.reverse k2)⟩
theorem XX(L:Br ct X W EX cf k){g:C->Option C}{e:Expr}(h:special ct x (.Call (.Name y q) [e] [] pos')=some g)(hp:Al e=true)(he:PE X e te):PE X (.Call (.Name x p) [.Call (.Name y q) [e] [] pos'] [] pos) (λσ H Q=>te σ H λv H1=>BJ W g v H1 Q):=by
 have key:∀{z:Str},(ct.BW z (.Call (.Name y q) [e] [] pos')).isSome=true->y=z/\ct.own y=true:=λ{z} h=>by
  obtain⟨a,ha⟩:=Option.isSome_iff_exists.mp h;obtain⟨_,_,he,ho⟩:=Dd ha;cases he;exact⟨rfl,ho⟩
 unfold special at h;split at h
 .rename_i hc;cases h;simp only[bA,decide_eq_true_eq]at hc;obtain⟨k1,k2⟩:=key hc.2;exact Tq L hc.1.1 hc.1.2 k2 k1 hp he
 split at h
 .rename_i hc;cases h;simp only[bA,decide_eq_true_eq]at hc;obtain⟨k1,k2⟩:=key hc.2;exact O7 L hc.1.1 hc.1.2 k2 k1 hp he
 .obtain⟨hc,rfl⟩:=A6 h;simp only[bA,decide_eq_true_eq]at hc;obtain⟨k1,k2⟩:=key hc.2;exact To L hc.1.1 hc.1.2 k2 k1 hp he
theorem Ue{ks:List (Option Expr)}{vs:List Expr}(h:(ks.isEmpty && vs.isEmpty)=true):PE X (.Dict ks vs pos) (λσ H Q=>Cq W H (.BC true []) Q):=by
 rw[bA]at h;cases isEmpty_iff.mp h.1;cases isEmpty_iff.mp h.2;intro pins s σ H Q I q;have hsm:(s.heap.objs.size == sysModules)=false:=beq_eq_false_iff_ne.mpr (Ne.symm (Nat.ne_of_lt I.big));have fr:=I.Aq.fresh (Nat.le_refl s.heap.objs.size);refine wpAny_Dict_empty ⟨.ref s.heap.objs.size,_,I.laid (a:=s.heap.objs.size) (o:=DX s.heap.objs.size []) (t':=s.toks) (λ_ _ q=>gP q) (lR) ?_,rfl,q _ _ (AF fr) ⟨_,[],rfl,⟨Ag,fr⟩,.nil,.nil,(λ_ z=>(by cases z)),(Nat.zero_le _),hsm⟩⟩;have hg:(s.heap.push {cls:=.type "dict",data:=.dict #[]}).get? s.heap.objs.size=some {cls:=.type "dict",data:=.dict #[]}:=Heap.get?_push_size _ rfl;refine⟨⟨_,hg,⟨rfl,rfl,rfl⟩,rfl⟩,⟨_,hg⟩,?_⟩
 rintro h1 h2 ⟨o,q1,q2,q3⟩ k
 exact⟨o,k o q1,q2,q3⟩
section
variable{prog:Program}{w:World}{A:Around}{E:Va}{s:Shared}{d it:Addr}{es:List DictEntry}{ep i:Nat}
theorem RJ{Q:Va}(lo:(d == sysModules)=false)(hm:CO s.heap d es ep)
 (q:Q (.ref s.heap.objs.size) {s with heap:=s.heap.push {cls:=.type "dict_keyiterator",data:=.fields #[.ref d,.int 0 0,.int es.length 0,.int ep 0]}}):wpAny (model prog w) A (pyIter (.ref d)) Q E s:=by
 have ty:=hm.typ;obtain⟨o,h1,h2,h3⟩:=hm;refine wpAny_pyIter_slot ty PySem.F.slot_dict_iter (wpAny_call_entry PySem.F.slot_dict_iter ty PySem.F.entry_dict_iter ?_ (PySem.F.args_dict_iter_1 _));unfold Builtin.«dict.__iter__» Builtin.Dict.dictSlotNone;refine wB ?_;refine wB (wpAny_notOrdered_dict ty ?_);show wpAny _ _ (pure (Value.ref d)) _ _ s;refine wP ?_;show wpAny _ _ (Builtin.Dict.showsAll d >>= _) _ _ s;unfold Builtin.Dict.showsAll;rw[iN (by rw[lo];exact Bool.false_ne_true)];refine wB (wP ?_);refine wB (wpAny_dictEntries h1 h3 (wB (wpAny_dictEpoch h1 h3 (wB (wpAny_newObj_type (wP ⟨_,rfl,"dict_keyiterator",_,⟨_,Heap.get?_push_size _ rfl,rfl⟩,PySem.F.slot_dict_keyiterator_next.lookup,?_⟩))))));simpa[rawInt]using q
theorem RI{Q:Option Value->Shared->Prop}(hit:s.heap.IsKeyIter it d i es.length ep)(hm:CO s.heap d es ep){e:DictEntry}(hx:es[i]? =some e)
 (q:∀h',h'.IsKeyIter it d (i+1) es.length ep->Heap.SameBut it s.heap h'->Q (some e.key) {s with heap:=h'}):wpAny (model prog w) A (pyNext (.ref it)) Q E s:=by
 have ty:=hit.typeIs;obtain⟨oi,i1,i2,i3⟩:=hit;obtain⟨o,h1,h2,h3⟩:=hm;unfold pyNext;refine wB (wpAny_attempt (wpAny_callSpecial?_slot (name:=Str.ofString "__next__") ty PySem.F.slot_dict_keyiterator_next (wpAny_call_entry PySem.F.slot_dict_keyiterator_next ty PySem.F.entry_dict_keyiterator_next ?_ (PySem.F.args_dict_keyiterator_next_1 _))));refine wB (wP ?_);refine wB ?_;refine wB ?_;refine wB (wpAny_typeNameOfWhole_keyiter ty (wP (wB (wpAny_fieldsOf i1 i3 ?_))));simp only[show Builtin.Dict_items.ownsTuple "dict_keyiterator"=false from by decide,Bool.false_eq_true,if_false];show wpAny _ _ (ite ((Value.ref d == Value.none)=true) _ _) _ _ s;rw[iN (λz:(Value.ref d == Value.none)=true=>Bool.false_ne_true z)];refine wB (wP ?_);refine wB (wpAny_dictEntries h1 h3 ?_);rw[iN (by simp)];refine wB (wP ?_);refine wB (wpAny_dictEpoch h1 h3 ?_);rw[iN (by simp)];have he:es.toArray[i]? =some e:=by rw[List.getElem?_toArray];exact hx
 refine wP ?_;simp only[show ¬((i:Int) < 0)from by lia,if_false,Int.toNat_natCast,he];refine wB ?_;refine wB (wpAny_typeNameOfWhole_keyiter ty (wP (wB (wpAny_isOneOf_keyiter ty ?_))));show wpAny _ _ (setField (.ref it) 1 (rawInt ((i:Int)+1)) >>= _) _ _ s;refine wB (wpAny_setField i1 i3 (by simp) ?_)
 have st:(s.heap.update it (Obj.mapFields (·.setIfInBounds 1 (rawInt ((i:Int) + 1))))).IsKeyIter it d (i + 1) es.length ep:=by
  refine⟨_,Heap.get?_update_self _ i1 (Obj.isFreed_of_fields (Obj.data_mapFields i3 _)),(Obj.cls_mapFields ..).trans i2,?_⟩;rw[Obj.data_mapFields i3];simp[rawInt]
 refine wB ?_;refine wpAny_holding (wB (wpAny_isOneOf_keyiter (s:={s with heap:=_}) st.typeIs ?_));show wpAny _ _ (pure e.key) _ _ _;exact wP (wP ⟨_,rfl,wP (q _ st (Heap.SameBut.update ..))⟩)
theorem Vd{Q:Option Value->Shared->Prop}(hh:A.handled=none)(hit:s.heap.IsKeyIter it d i es.length ep)(hm:CO s.heap d es ep)(hx:es.length<=i)
 (q:∀h',Heap.ExtBut it s.heap h'->Q none {s with heap:=h'}):wpAny (model prog w) A (pyNext (.ref it)) Q E s:=by
 have ty:=hit.typeIs;obtain⟨oi,i1,i2,i3⟩:=hit;obtain⟨o,h1,h2,h3⟩:=hm;unfold pyNext;refine wB (wpAny_attempt (wpAny_callSpecial?_slot (name:=Str.ofString "__next__") ty PySem.F.slot_dict_keyiterator_next (wpAny_call_entry PySem.F.slot_dict_keyiterator_next ty PySem.F.entry_dict_keyiterator_next ?_ (PySem.F.args_dict_keyiterator_next_1 _))));refine wB (wP ?_);refine wB ?_;refine wB ?_;refine wB (wpAny_typeNameOfWhole_keyiter ty (wP (wB (wpAny_fieldsOf i1 i3 ?_))));simp only[show Builtin.Dict_items.ownsTuple "dict_keyiterator"=false from by decide,Bool.false_eq_true,if_false];show wpAny _ _ (ite ((Value.ref d == Value.none)=true) _ _) _ _ s;rw[iN (λz:(Value.ref d == Value.none)=true=>Bool.false_ne_true z)];refine wB (wP ?_);refine wB (wpAny_dictEntries h1 h3 ?_);rw[iN (by simp)];refine wB (wP ?_);refine wB (wpAny_dictEpoch h1 h3 ?_);rw[iN (by simp)];refine wP ?_;have he:es.toArray[i]? =none:=by rw[List.getElem?_toArray];exact List.getElem?_eq_none hx
 simp only[show ¬((i:Int) < 0)from by lia,if_false,Int.toNat_natCast,he];refine wB ?_;refine wB (wpAny_typeNameOfWhole_keyiter ty (wP ?_));show wpAny _ _ (setField (.ref it) 0 .none >>= _) _ _ s;refine wB (wpAny_setField i1 i3 (by simp) ?_);show wpAny _ _ (newExc (.type "StopIteration") [] >>= _) _ _ _;refine wB ?_;simp only[newExc,newTuple];refine wB (wpAny_newObj_type (wB (m:=firstArgMember _ _) (wpAny_of_eq (a:=Value.none) (by first|rfl|(simp only[firstArgMember];rfl)) (wpAny_newObj_type ?_ (by size_fits)))) (by size_fits));simp only[raiseNew];refine wB ?_;refine wpAny_handled ?_;rw[show A.in1.handled=none from hh];refine wB (wP ?_);refine wpAny_throw (wB (wpAny_isInstance (T:="StopIteration") (b:=true) ⟨_,Heap.get?_push_size _ rfl,rfl⟩ isSubtype_stop (wP (q _ ?_))));exact((Heap.SameBut.update ..).extBut.push _).push _
end
variable{prog:Program}{w:World}{A:Around}{es:List DictEntry}{ep:Nat}
def SH(es:List DictEntry)(i:Nat)(v:Value):Prop:=∃e,es[i]? =some e/\v=e.key
theorem OS(hh:A.handled=none)(I d:Addr)(hne:d≠I):Walks prog w A I [I,d] [I] es.length (SH es) (λi h=>h.IsKeyIter I d i es.length ep/\CO h d es ep) where
 sub:=λb hb=>by rw[mE hb];exact mS
 frame:=λi h h' x k=>⟨x.1.at (k I mS),x.2.at' (k d (mC mS))⟩
 item:=λi s Q E hi x q=>by
  refine RI x.1 x.2 (List.getElem?_eq_getElem hi) λh' y sb=>q _ h' s.toks ⟨_,List.getElem?_eq_getElem hi,rfl⟩ ⟨y,x.2.at' λo e=>(sb.2 d hne).trans e⟩ λb o hb e=>?_
  exact(sb.2 b λz=>hb (mem_singleton.mpr z)).trans e
 done:=λs Q E x q=>Vd hh x.1 x.2 (lR) λh' eb=>q h' s.toks λb o hb e=>eb b o (λz=>hb (mem_singleton.mpr z)) e
 self:=λi s Q E x q=>wpAny_pyIter_keyiter x.1 q
theorem Mn{h:Heap}(x:CO h d es ep):d < h.objs.size:=let⟨_,h1,_⟩:=x;Heap.lt_size h1
theorem Vc{d:Addr}(lo:(d == sysModules)=false):KdlSrc prog w "dict" d d es.length (SH es) (λh=>CO h d es ep) where
 type:=λs x=>x.typ
 there:=λh x=>⟨Mn x,Mn x⟩
 keep:=λh h' x k=>x.at' (k d (.inl rfl))
 notList:=by decide
 notTuple:=by decide
 hint:=λA E s Q x q=>PySem.W.kdl_hint_dict x.typ q
 iter:=λA s hh x=>⟨_,_,λE Q q=>RJ lo x q,OS hh _ d (Nat.ne_of_lt (Mn x)),⟨⟨_,Heap.get?_push_size _ rfl,rfl,rfl⟩,x.at' λo e=>gP e⟩⟩
variable{H:Hp}
theorem Im:∀{kvs:List (P×P)} {es:List DictEntry},Paired (Fg W H) kvs es->∃vs,Vals vs (es.map (·.key))/\CU W H (kvs.map (·.1)) vs
 |_,_,.nil=>⟨[],.nil,.nil⟩
 | _,_,.cons r t=>by
   obtain⟨vs,h1,h2⟩:=Im t;obtain⟨k,rk,hk⟩:=r.2.1;exact⟨k::vs,.cons rk h1,.cons hk h2⟩
theorem M9{es:List DictEntry}(h:ItemsOf (SH es) acc es.length):acc.toList=es.map (·.key):=by
 apply ext_getElem?;intro j;have hsz:acc.size=es.length:=h.1
 by_cases hj:j < es.length
 .obtain⟨e,h1,h2⟩:=h.2 j (acc[j]'(by lia)) (by simp[hsz,hj]);rw[List.getElem?_map,h1,Option.map_some,<-h2];simp[hsz,hj]
 .rw[List.getElem?_eq_none (by simp;lia),List.getElem?_eq_none (by simp;lia)]
section
variable{pins:Oa}{σ:L2.St}{s:Shared}
theorem IZ(hK:W.K=X.K){own bor:Addr->Prop}{c:C}{kvs:List (P×P)}(I:Inv X pins σ H s)(e:c.Z8 =some kvs)(h:AI W H own bor c v):∃a es ep,v= .ref a/\CO s.heap a es ep/\JR W H a kvs es:=by
 cases c with
 |BC o qs=>
   cases e;obtain⟨a,es,e1,e2,e3⟩:=h
   have key:(∃ep,CO s.heap a es ep):=by
    cases o with
    |true=>exact⟨_,RO I e2.1⟩
    |false=>
      rcases e2 with e2|⟨ob,g1,g2,ep,g3⟩
      .exact⟨_,RO I e2.1⟩
      .exact⟨ep,ob,I.FF a ob (hK▸g1),g2,g3⟩
   obtain⟨ep,e4⟩:=key;exact⟨a,es,ep,e1,e4,e3⟩
 |_=>cases e
theorem WO(L:Br ct X W EX cf k):HS X (λv=>call (.type "list") [v]) (BJ W CL):=by
 rintro pins s σ H x v Q I rx ⟨c1,c,h1,e,q⟩
 rcases or_some e with e|e
 .obtain⟨ps,e1,rfl⟩:=Bg e;obtain⟨a,vs,rfl,k1,k2⟩:=Fx e1 h1;exact JE pins s σ H [.ref a] [v] Q I (.cons rx .nil) ⟨a,vs,rfl,L.K▸k1,q.list k2⟩
 rcases or_some e with e|e
 .obtain⟨ps,e1,e⟩:=Ae e;obtain⟨_,rfl⟩:=A6 e;obtain⟨z,ez,e1⟩:=Ae e1;obtain⟨hl,rfl⟩:=A6 e1;cases C.BE ez;cases BO h1;exact T4 L.calm I rx hl q
 .obtain⟨kvs,e1,rfl⟩:=Bg e;obtain⟨a,es,ep,rfl,hd,ok⟩:=IZ L.K I e1 h1;cases rx;obtain⟨vs,v1,v2⟩:=Im ok.pr;have hlen:=Paired.length ok.pr;have hz:kvs.length<=sizeLine:=Nat.le_trans ok.len BH;refine PySem.W.kdl_call (Vc ok.sm) (I.ok.hd L.calm) hd (by lia) λh' tk acc c' hk hS hacc=>?_
  have eacc:=M9 hacc;have hS:h'.get? s.heap.objs.size=some (seqObj "list" (es.map (·.key)).toArray c'):=by rw[hS,<-eacc];try simp[seqObj]
  refine⟨.ref s.heap.objs.size,_,I.laid (t':=tk) (o:=.lst vs) hk (lR) ?_,rfl,q.list v2 _ (I.Aq.fresh (lR))⟩;have:=Paired.length v2;exact⟨by rw[<-this,lM];exact hz,es.map (·.key),c',v1,hS⟩
theorem Y2(L:Br ct X W EX cf k){g:C->Option C}{pos:Pos}{te:TE}(ho:ct.own x=true)(hb:dP x=some g)(hp:Al e=true)(he:PE X e te):PE X (.Call (.Name x p) [e] [] pos) (λσ H Q=>te σ H λv H1=>BJ W g v H1 Q):=by
 unfold dP at hb;split at hb
 .rename_i hx;subst hx;cases hb;exact YY L (ah L.K) ho S8 hp he
 split at hb
 .rename_i hx;subst hx;cases hb;exact YW L (WO L) ho JI hp he
 split at hb
 .rename_i hx;subst hx;cases hb;exact YW L (ae L.K) ho L7 hp he
 split at hb
 .rename_i hx;subst hx;cases hb;exact YY L (aj L.calm) ho Zk hp he
 split at hb
 .rename_i hx;subst hx;cases hb;exact YY L ak ho Zl hp he
 .obtain⟨rfl,rfl⟩:=A6 hb;exact YW L ai ho S9 hp he
end
theorem JL(h:(DE o).isSome=true)(name:Str)(env:PySem.Env)(w:Sem Value):attributeBase o name env w=w:=by
 cases o<;>first|rfl|cases h
variable{to:TE}{ap:Pos}
theorem Wg{T id:String}{name:Str}{g:C->C->Option C}{cp:Pos}(pa:PlainAttrs T)(slot:Slot T name id)(hty:typeOf (.builtin id)=pure (.type "method_descriptor"))
 (typ:∀{pins s σ H c y r x v},Inv X pins σ H s->Ef W H c x->g c y=some r->RelV x v->s.TypeIs v T/\∀b,v= .ref b->∃ob,s.heap.get? b=some ob/\ob.dict=none)
 (hm:∀{pins s σ H x y v u Q},Inv X pins σ H s->RelV x v->RelV y u->AY W g x y H Q->(X|||(call (.builtin id) [v,u])) (EP X pins σ Q) X.xe s)
 (hmo:LY 1 ap cp=true)(hn:(DE o).isSome=true)(he:Al e=true)(po:PE X o to)(pe:PE X e te):
 PE X (.Call (.Attribute o name ap) [e] [] cp) (λσ H Q=>to σ H λx H1=>(∃c y r,Ef W H1 c x/\g c y=some r)/\te σ H1 λy H2=>AY W g x y H2 Q):=by
 intro pins s σ H Q I h;refine wpAny_Call_method_late (JL hn _ _ _) (cG he) (CK hmo) rfl (thn (po pins s σ H _ I h) λv s1 ⟨x,H1,I1,r1,⟨c,y,r,hc,hg⟩,q1⟩=>?_);obtain⟨h1,h2⟩:=typ I1 hc hg r1;refine⟨T,id,pa,slot,hty,h1,h2,?_⟩;have hA:=(AU pe BR (A9 he [] _)) cp pins s1 σ H1 (Um λy H2=>AY W g x y H2 Q) I1 q1;rw[A9 he [] X.env]at hA ⊢;refine Calls.callWith_builtin (by rfl) (Calls.evalArgs_plain ?_);refine thn hA λus s2 ⟨vs,H2,I2,r2,q2⟩=>?_
 obtain⟨y',rfl,q2⟩:=Jh q2;cases r2 with
 |cons r3 r4=>
   cases r4;exact hm I2 r1 r3 q2
variable{pins:Oa}
theorem Yq(L:Br ct X W EX cf k){s:Shared}{σ:L2.St}{Q:VK}(I:Inv X pins σ H s)(rx:RelV x v)(ry:RelV y u)(h:AY W Mf x y H Q):(X|||(call (.builtin "dict.get") [v,u])) (EP X pins σ Q) X.xe s:=by
 obtain⟨c1,c2,c,h1,h2,e,q⟩:=h;obtain⟨kvs,e1,e⟩:=Ae e;obtain⟨p,e2,e⟩:=Ae e;obtain⟨hk,rfl⟩:=A6 e;cases C.Cs e2;obtain⟨a,es,ep,rfl,hd,ok⟩:=IZ L.K I e1 h1;cases rx;refine wpAny_call_entry PySem.F.slot_dict_get hd.typ PySem.F.entry_dict_get ?_ (PySem.F.args_dict_get_2 _ _);show wpAny _ _ (dictGet a u >>= _) _ _ s;rw[<-L.w];refine wB (Mt hd ok hk (JT h2) ry (λz tk=>?_) λp y z hz hy rz tk=>wP ⟨_,rfl,?_⟩)
 .show wpAny _ _ (Builtin.Dict.missed a u >>= _) _ _ _;rw[z]at q;exact wB (wpAny_missed_other ok.sm (wP ⟨_,rfl,.A8,H,I.tok tk,rfl,q.plain (DJ.mpr rfl)⟩))
 .rw[hz]at q;exact⟨y,H,I.tok tk,rz,q.plain hy⟩
theorem YN:∀{xs:List Str} {us:List Value} {x:Str} {j:Nat},Paired (λz u=>∃t,u=Value.str z t) xs us->xs.idxOf? x=some j->∃h:j < us.length,Nn x us[j]=true/\∀m (hm:m < us.length),m < j->Nn x us[m]=false:=by
 intro xs us x j hp hj;unfold List.idxOf? at hj;obtain⟨h1,h2,h3⟩:=List.findIdx?_eq_some_iff_getElem.mp hj;have hl:=Paired.length hp
 have at':∀m (hm:m < us.length),Nn x us[m]=(xs[m]'(by lia) == x):=λm hm=>by
  obtain⟨z,e1,t,e2⟩:=Pd.Rt hp (List.getElem?_eq_getElem hm);rw[e2,(List.getElem?_eq_some_iff.mp e1).2];rfl
 refine⟨by lia,?_,λm hm hlt=>?_⟩
 .rw[at'];exact h2
 .rw[at'];simpa using h3 m hlt
theorem QN(L:Br ct X W EX cf k){s:Shared}{σ:L2.St}{Q:VK}(I:Inv X pins σ H s)(rx:RelV x v)(ry:RelV y u)(h:AY W D2 x y H Q):(X|||(call (.builtin "list.index") [v,u])) (EP X pins σ Q) X.xe s:=by
 obtain⟨c1,c2,c,h1,h2,e,q⟩:=h;obtain⟨ps,e1,e⟩:=Ae e;obtain⟨xs,e2,e⟩:=Ae e;obtain⟨z,e3,e⟩:=Ae e;obtain⟨j,e4,rfl⟩:=Bg e;cases C.BE e3;cases BO h2;obtain⟨tk,rfl⟩:=ry;obtain⟨a,vs,rfl,k1,k2⟩:=BF e1 h1;cases rx;obtain⟨its,r,⟨⟨cl,BC,dat,sl⟩,n,ho,hc,hd,hdt⟩,hz⟩:=I.list (.inl k1);have hp:=EC e2 k2 r;obtain⟨g1,g2,g3⟩:=YN hp e4;have hc:cl= .type "list":=hc;have hdt:dat= .seq its.toArray n:=hdt;subst hc hdt;have hl:=r.length;have hb:=Dl
 refine call_meets PySem.F.slot_list_index ⟨_,ho,rfl⟩ PySem.F.entry_list_index (PySem.F.args_list_index_2 _ _)
  (SeqAt.list_indexAt a its.toArray n BC sl (.str z tk) (Nn z) j (by simpa using g1) (by lia) (by simpa using g2) λm hm hlt=>by simpa using g3 m (by simpa using hm) hlt) ⟨ho,λy hy=>Mk hp y (by simpa using hy),?_⟩
 exact⟨.int j,H,I.tok _,⟨_,rfl⟩,q.int⟩
variable{m:Str}
theorem Y0(L:Br ct X W EX cf k){g:C->C->Option C}(hg:(m="get"/\g=Mf)\/(m="index"/\g=D2))(hmo:LY 1 ap pos=true)(hn:(DE o).isSome=true)(he:Al e=true)(po:PE X o to)(pe:PE X e te):
 PE X (.Call (.Attribute o m ap) [e] [] pos) (λσ H Q=>to σ H λx H1=>(∃c y r,Ef W H1 c x/\g c y=some r)/\te σ H1 λy H2=>AY W g x y H2 Q):=by
 rcases hg with⟨rfl,rfl⟩|⟨rfl,rfl⟩
 .refine Wg PySem.F.plainAttrs_dict PySem.F.slot_dict_get PySem.F.type_dict_get (λI hc hg r=>?_) (Yq L) hmo hn he po pe;obtain⟨kvs,e1,_⟩:=Ae hg;obtain⟨a,es,ep,rfl,hd,ok⟩:=IZ L.K I e1 hc;cases r;refine⟨hd.typ,λb eb=>?_⟩;cases eb;obtain⟨ob,g1,g2,_⟩:=hd;exact⟨ob,g1,g2.2.1⟩
 .refine Wg PySem.F.plainAttrs_list PySem.F.slot_list_index PySem.F.type_list_index (λI hc hg r=>?_) (QN L) hmo hn he po pe;obtain⟨ps,e1,_⟩:=Ae hg;obtain⟨a,vs,rfl,k1,k2⟩:=BF e1 hc;exact Ls I r (.inl ⟨rfl,vs,.inl k1⟩)
theorem QJ:ZF X "str.upper" (λx vs H Q=>x= .str "abcdefghijklmnopqrstuvwxyz"/\vs=[]/\Q (.str "ABCDEFGHIJKLMNOPQRSTUVWXYZ") H):=by
 intro pins s σ H x vs v us Q I rx rv h;obtain⟨rfl,rfl,q⟩:=h;cases rv;obtain⟨t,rfl⟩:=rx;refine call_gives F.slot_str_upper (typeIs_str _ _ _) F.entry_str_upper (F.args_str_upper_1 _) (gives_str_upper _ t (by kernel_rfl)) ?_;refine⟨by decide,⟨.str "ABCDEFGHIJKLMNOPQRSTUVWXYZ",H,I.tok _,⟨s.toks,?_⟩,q⟩⟩;exact congrArg (λz=>Value.str ⟨z⟩ s.toks) (by kernel_rfl)
theorem XW(L:Br ct X W EX cf k)(hm:m="upper")(hmo:LY 0 ap pos=true)(hn:(DE o).isSome=true)(po:PE X o to):PE X (.Call (.Attribute o m ap) [] [] pos) (λσ H Q=>to σ H λv H1=>BJ W GJ v H1 Q):=by
 subst hm;refine Au (Jd PySem.F.plainAttrs_str PySem.F.slot_str_upper PySem.F.type_str_upper QJ (E4 po) (JL hn _ _ _) (CK hmo)) λσ H Q z=>⟨_,z,λv H1 ⟨c1,c,h1,e,q⟩=>?_⟩
 obtain⟨x,ex,e⟩:=Ae e;obtain⟨rfl,rfl⟩:=A6 e;cases C.BE ex;cases BO h1;exact⟨rfl,rfl,rfl,q.str⟩
end Nv
namespace Nv
section
open PySem L2
open AutoSeq1 (wpAny_loadPart')
theorem FA:fillsNumberSlot (.type "tuple") "mul"=pure false:=
 fillsNumberSlot_seq (id:="tuple.__mul__") (r:=some (.builtin "tuple.__rmul__")) F.slot_tuple_mul.lookup (by decide +kernel) F.slot_tuple_rmul.lookup (by decide +kernel)
theorem IY:seqRepeat? (.type "tuple")=pure (some (.builtin "tuple.__mul__")):=by
 unfold seqRepeat?;rw[seqSlot_of (T:="tuple") (name:="__mul__") (id:="tuple.__mul__") F.slot_tuple_mul.lookup (by decide +kernel),seqSlot_of (T:="tuple") (name:="__rmul__") (id:="tuple.__rmul__") F.slot_tuple_rmul.lookup (by decide +kernel)];rfl
theorem LF(a:Int)(t:Tok)(l:Addr)(items:Array Value)(n:Nat)(BC:Option Addr)(sl:Array (Option Value)):
 Meets (Builtin.«int.__rmul__» ⟨[.int a t,.ref l],[]⟩) (λ_ R s=>s.heap.get? l=some {cls:=.type "tuple",dict:=BC,data:=.seq items n,slots:=sl}/\R (.ok (.ret Value.notImplemented)) s):=
 .of_wp λprog w A R s h=>by
  obtain⟨hp,g,d,tk,os⟩:=s;obtain⟨hl,h⟩:=h
  wp_walk using wpAny_loadPart' hl
  exact⟨_,rfl,h⟩
theorem Ov(l : Addr)(items : Array Value)(n : Nat)(BC : Option Addr)(sl:Array (Option Value))(x:Int)(u:Tok)(h1:2<=x)(h2:x<=1000)(hs:items.size=1):
 Meets (Builtin.«tuple.__mul__» ⟨[.ref l,.int x u],[]⟩) (λ_ R s=>s.heap.get? l=some {cls:=.type "tuple",dict:=BC,data:=.seq items n,slots:=sl}/\R (.ok (.ret (.ref s.heap.objs.size))) {s with heap:=s.heap.push {cls:=.type "tuple",data:=.seq ((List.replicate x.toNat items).foldl (·++·) #[])}}):=
 .of_wp λprog w A R s h=>by
  obtain⟨hp,g,d,tk,os⟩:=s;obtain⟨hl,h⟩:=h
  have ne:items.isEmpty=false:=by
   cases e:items.isEmpty with
   |false=>rfl
   |true=>rw[Array.isEmpty_iff.mp e]at hs;cases hs
  have c1:¬(decide (x < -(2 ^ 63)) || decide (x≥2 ^ 63))=true:=by simp;lia
  have c2:¬(items.isEmpty || x == 1)=true:=by rw[ne];simp;lia
  have c3:¬(decide (x<=0) || items.isEmpty)=true:=by rw[ne];simp;lia
  have c4:¬(items.size:Int)*x > (2 ^ 63-1)/8:=by rw[hs];lia
  have c5 : ¬ Builtin.Tuple.tupleTooMany ((items.size : Int) * x) = true := by rw[hs];unfold Builtin.Tuple.tupleTooMany;have:(1000:Nat)<=sizeLine:=by decide
                                                                               simp;lia
  wp_walk using wpAny_loadPart' hl
  rw[iN c1]
  wp_walk using wpAny_loadPart' hl
  rw[iN c2]
  wp_walk using wpAny_loadPart' hl
  try rw[iN c3]
  try rw[iN c4]
  try rw[iN c5]
  wp_walk using wpAny_loadPart' hl
  have hz:((List.replicate x.toNat items).foldl (·++·) #[]).size<=sizeLine:=by
   have:=foldl_rep items.toList x.toNat [];rw[nil_append,Array.toArray_toList]at this;rw[this,size_toArray,len_rep,Array.length_toList,hs];have:(1000:Nat)<=sizeLine:=by decide
   lia
  rw[iN (Nat.not_lt.mpr hz)]
  wp_walk
  exact⟨_,rfl,h⟩
end
open PySem L2 PyProof.Rows
variable{X:Cx}{W:Wd}{ct:Ct}{EX:XP}{cf:CF}{k:Nat}
theorem Yf(hK:W.K=X.K):BA X (binaryOp .Mult) (AY W bQ):=by
 rintro pins s σ H x y v u Q I rx ry ⟨c1,c2,c,h1,h2,e,q⟩
 obtain⟨ps,ei,e⟩:=Ae e;obtain⟨j,ej,e⟩:=Ae e;obtain⟨hl,rfl⟩:=A6 e;cases C.Bx ei;cases C.Bh ej;cases Ba h2;obtain⟨a,vs,rfl,s1,r1⟩:=Cb h1;cases rx;obtain⟨t,rfl⟩:=ry;obtain⟨its,rv,⟨⟨oc,od,oa,os⟩,he,hc,n,hd⟩,hz⟩:=I.tuple (hK▸s1);have hc:oc= .type "tuple":=hc;have hd:oa= .seq its.toArray n:=hd;subst hc hd;have l1:=Paired.length r1;have l2:=Vals.length rv;have hs:its.toArray.size=1:=by rw[size_toArray];lia
 refine wpAny_binaryOp_repeat_ref (T:="tuple") (U:="int") (by decide) ⟨_,he,rfl⟩ (λs'=>typeIs_int s' j t) FA F.fills_int_mul F.slot_int_rmul IY F.slot_int_index.lookup
  (call_meets F.slot_int_rmul (typeIs_int s j t) F.entry_int_rmul (F.args_int_rmul_2 _ _) (LF j t a its.toArray n od os)
   ⟨he,rfl,⟨_,he,rfl⟩,call_meets F.slot_tuple_mul ⟨_,he,rfl⟩ F.entry_tuple_mul (F.args_tuple_mul_2 _ _) (Ov a its.toArray n od os j t hl.2.1 hl.2.2 hs) ⟨he,?_⟩⟩)
 have hnew:=foldl_rep its j.toNat [];rw[nil_append]at hnew;rw[hnew];have hb:(1000:Nat)<=sizeLine:=by decide
 have hvs:vs.length=1:=by lia
 have I2:Inv X pins σ (upd H s.heap.objs.size (.tup (List.replicate j.toNat vs).flatten)) {s with heap:=s.heap.push {cls:=.type "tuple",data:=.seq (List.replicate j.toNat its).flatten.toArray}}:=
  I.laid (t':=s.toks) (λb o e=>gP e) (lR) ⟨by rw[len_rep,hvs];lia,_,rv.rep j.toNat,IsTup.new _ _⟩
 exact⟨.ref s.heap.objs.size,_,I2,rfl,q.tup (Pd.rep r1 _) _ (I.Aq.fresh (lR))⟩
theorem bJ(hK:W.K=X.K):BA X (binaryOp .Mult) (AY W mulC):=by
 refine BA.or (Fz Y8 λi j k H Q e q=>?_) (BA.or (Yf hK) Yg);obtain⟨h,rfl⟩:=A6 e;exact⟨i,j,rfl,rfl,h,q⟩
theorem Y4(L:Br ct X W EX cf k)(op:Operator)(g:C->C->Option C)(h:fM op=some g):BA X (binaryOp op) (AY W g):=by
 cases op with
 |Add=>cases h;exact bM L.K
 |Sub=>cases h;exact bG
 |Mult=>cases h;exact bJ L.K
 |Mod=>cases h;exact bK
 |FloorDiv=>cases h;exact Yh
 |Pow=>cases h;exact bH
 |_=>cases h
def jr(n:Nat):String:=if n=0 then "NoneType" else if n=1 then "bool" else if n=2 then "int" else if n=3 then "str" else if n=4 then "tuple" else if n=7 then "list" else "dict"
def WR:Ty->String
 |.int=>"int"| .bool=>"bool"| .str=>"str"| .tuple=>"tuple"| .list=>"list"
theorem Dm(K:Frag)(n:Nat)(t:Ty)(h:n=0\/n=1\/n=2\/n=3\/n=4\/n=7\/n=8):kitOne K (.type (jr n)) (.type (WR t))=some (t.has n):=by
 rcases h with rfl|rfl|rfl|rfl|rfl|rfl|rfl<;>cases t<;>kernel_rfl
variable{H:Hp}
theorem ao(hK:W.K=X.K){pins:Oa}{s:Shared}{σ:L2.St}{b:Bool}{Q:Va}(I:Inv X pins σ H s)(rx:RelV x v)(h1:Ef W H c x)(e:Dq t c=some (bC b))(q:∀tk,Q (.bool b) {s with toks:=tk}):
 (X|||(call (.builtin "isinstance") [v,.type (WR t)])) Q X.xe s:=by
 have nt:∀z,(Value.type (WR t))=z->True:=λ_ _=>trivial
 unfold Dq at e;split at e
 .cases e
 rename_i hty;have hb:t.has c.ty=b:=by injection e with e;injection e with e;injection e
 rw[<-hb]at q;cases c with
 |exc _ _=>exact absurd (.inr rfl) hty
 |lst o ps=>
   obtain⟨a,vs,rfl,k1,k2⟩:=BF rfl h1;cases rx;obtain⟨its,_,⟨o,n,e,c,_⟩,_⟩:=I.list (.inl k1);exact kia_one kitx_list I.FF ⟨o,e,c⟩ (Dm X.K 7 t (by simp)) (λz=>by cases t<;>cases z) q
 |BC o kvs=>
   obtain⟨a,es,ep,rfl,hd,_⟩:=IZ hK I rfl h1;cases rx;exact kia_one kitx_dict I.FF hd.typ (Dm X.K 8 t (by simp)) (λz=>by cases t<;>cases z) q
 |p p =>
   cases p with
   |fn _ _=>exact absurd (.inl rfl) hty
   |A8=>cases GV h1;cases rx;exact kia_one PySem.W.kitx_none I.FF True.intro (Dm X.K 0 t (by simp)) (λz=>by cases t<;>cases z) q
   |bl _=>cases Ek h1;cases rx;exact kia_one PySem.W.kitx_bool I.FF True.intro (Dm X.K 1 t (by simp)) (λz=>by cases t<;>cases z) q
   |int _=>cases Ba h1;obtain⟨tk,rfl⟩:=rx;exact kia_one PySem.W.kitx_int I.FF True.intro (Dm X.K 2 t (by simp)) (λz=>by cases t<;>cases z) q
   |str _=>cases BO h1;obtain⟨tk,rfl⟩:=rx;exact kia_one PySem.W.kitx_str I.FF True.intro (Dm X.K 3 t (by simp)) (λz=>by cases t<;>cases z) q
   |tup ps=>
     obtain⟨a,vs,rfl,k1,k2⟩:=Cb h1;cases rx;obtain⟨its,_,⟨o,e,c,_⟩,_⟩:=I.tuple (hK▸k1);exact kia_one PySem.W.kitx_tuple I.FF ⟨o,e,c⟩ (Dm X.K 4 t (by simp)) (λz=>by cases t<;>cases z) q
   |box n ps=>
     obtain⟨a,vs,rfl,k1,k2⟩:=DK.mp (JT h1);cases rx;rcases k1 with⟨rfl,o,k1⟩|⟨rfl,o,u,k1,k3⟩
     .obtain⟨its,_,⟨o,n,e,c,_⟩,_⟩:=I.list (.inl (.inr ⟨o,k1⟩));exact kia_one kitx_list I.FF ⟨o,e,c⟩ (Dm X.K 7 t (by simp)) (λz=>by cases t<;>cases z) q
     .have ok:=(show BD X.prog X.w H s.heap a (.Dz o u)from I.Aq a _ k1);exact kia_one kitx_dict I.FF ⟨o,ok.1,k3⟩ (Dm X.K 8 t (by simp)) (λz=>by cases t<;>cases z) q
def fw(T:V)(r:V->Hp->VK->Prop):List V->Hp->VK->Prop
 |[v,w],H,Q=>w=T/\r v H Q
 |_,_,_=>False
theorem cL(hK:W.K=X.K)(t:Ty):DB X (.builtin "isinstance") (fw (.ty (WR t)) (BJ W (Dq t))):=by
 intro pins s σ H xs us Q I r h;cases r with
 |nil=>exact h.elim
 |cons r1 r2=>
   cases r2 with
   |nil=>exact h.elim
   |cons r3 r4=>
     cases r4 with
     |cons _ _=>exact h.elim
     |nil=>
       obtain⟨rfl,c1,c,h1,e,q⟩:=h;cases r3
       obtain⟨b,rfl⟩:∃b,c=bC b:=by
        unfold Dq at e;split at e
        .cases e
        .exact⟨_,(Option.some.inj e).symm⟩
       exact ao hK I r1 h1 e λtk=>⟨.bl b,H,I.tok tk,rfl,q.bl⟩
theorem T5{t:Ty}(h:tyName y=some t):bootBuiltins y=some (.type (WR t)):=by
 unfold tyName at h;split at h
 .rename_i e;subst e;cases h;exact S9
 split at h
 .rename_i e;subst e;cases h;exact Vt
 split at h
 .rename_i e;subst e;cases h;exact Zi
 split at h
 .rename_i e;subst e;cases h;exact L7
 .obtain⟨rfl,rfl⟩:=A6 h;exact JI
theorem Qn :PE X e (λ_ _ _=>False):=λ_ _ _ _ _ _ z=>z.elim
theorem YI(hx:W.xh=false){cs:List Nat}{Q:VK}(h:BJ W (dJ cs) v H Q):False:=by
 obtain⟨c1,c,h1,e,_⟩:=h;cases c1 with
 |exc x p=>exact absurd h1.2.1.1 (by rw[hx];exact Bool.false_ne_true)
 |_=>cases e
theorem XD(hx:W.xh=false){Q:VK}(h:BJ W EK v H Q):False:=by
 obtain⟨c1,c,h1,e,_⟩:=h;cases c1 with
 |exc x p=>exact absurd h1.2.1.1 (by rw[hx];exact Bool.false_ne_true)
 |_=>cases e
variable{pos:Pos}
theorem Y1(L:Br ct X W EX cf k){g:C->Option C}{te:TE}(ho:ct.own x=true)(hx:x="isinstance")(hg:UX ct (.Name y q)=some g)(hp:Al e=true)(he:PE X e te):PE X (.Call (.Name x p) [e,.Name y q] [] pos) (λσ H Q=>te σ H λv H1=>BJ W g v H1 Q):=by
 subst hx;obtain⟨g1,g2,g3,g4⟩:=L.Gf ho
 have never:∀cs,g=dJ cs->PE X (.Call (.Name "isinstance" p) [e,.Name y q] [] pos) (λσ H Q=>te σ H λv H1=>BJ W g v H1 Q):=λcs eg=>by
  subst eg;exact Au (DL (r:=λ_ _ _=>False) (λ_ _ _ _ _ _ _ _ _ z=>z.elim) g1 g2 MA (AU (E4 he) (AU (Qn (e:=.Name y q)) BR (A9 rfl [] _)) (A9 hp [_] _)) g4 g3 (A9 hp [_] _) rfl) λσ H Q z=>⟨_,z,λv H1 r=>YI L.xh r⟩
 obtain⟨y',ey,hg⟩:=Ae hg;cases ey;split at hg
 .rename_i hy;split at hg
  .cases hg;exact never _ rfl
  .obtain⟨t,et,rfl⟩:=Bg hg;obtain⟨y1,y2,y3,y4⟩:=L.Gf hy;refine Au (DL (cL L.K t) g1 g2 MA (AU (E4 he) (AU (N5 (pos:=q) y1 y2 (T5 et) (show RelV (.ty (WR t)) (Value.type (WR t))from rfl) y4 y3) BR (A9 rfl [] _)) (A9 hp [_] _)) g4 g3 (A9 hp [_] _) rfl) λσ H Q z=>⟨_,z,λv H1 r=>?_⟩
   exact⟨rfl,r⟩
 .obtain⟨_,hg⟩:=AH hg;obtain⟨cs,_,rfl⟩:=Bg hg;exact never _ rfl
theorem XZ(L:Br ct X W EX cf k){to:TE}(hp:(DE o).isSome=true)(po:PE X o to):PE X (.Attribute o "place" pos) (λσ H Q=>to σ H λv H1=>BJ W EK v H1 Q):=by
 intro pins s σ H Q I z;exact NS (JL hp _ _ _) (thn (po pins s σ H _ I z) λu s1 ⟨x,H1,I1,rx,r⟩=>(XD L.xh r).elim)
theorem Jg(L:Br ct X W EX cf k):SY ct X W:=
 ⟨Y4 L,Ug L.K L.w L.un,ag,cj L.K,aQ L.K,Y2 L,XX L,Y1 L,Ue,Y0 L,XW L,XZ L,Ud L,XY L,Y3 L⟩
end Nv
namespace Xc
open PySem PySem.Spec L2 PyProof.Rows
section
variable{prog:Program}{w:World}{A:Around}{E:Va}{s:Shared}{C e:Addr}{oe:Obj}{bm:List Value}
theorem RC{bd:List Value}{Q:Bool->Shared->Prop}(cd:Fh s.heap D bd)(hq:Q true s):wpAny (model prog w) A (isExcClass (.ref D)) Q E s:=by
 obtain⟨nm',q',N',bs',hdct',sn',sub',ab',col',dd',j0,j1,j2,j3,j5,hD⟩:=cd.at_;have hb:(Value.ref D::bd).contains (.type "BaseException")=true:=by rw[contains_cons,cd.base,Bool.or_true]
 obtain⟨hp,g,dr,tk,os⟩:=s;unfold isExcClass
 repeat (first
  |with_reducible refine wpAny_loadPart_at hD ?_
  |(with_reducible refine wpAny_isSubtype_exc hD ?_;rw[hb])
  |wp_step)
 exact hq
theorem QO{bd:List Value}{Q:Bool->Shared->Prop}(c:Fh s.heap C bm)(cd:Fh s.heap D bd)(hcD:(Value.ref C::bm).contains (.ref D)=true)(he:s.heap.get? e=some oe)(ho:oe.cls= .ref C)(hq:Q true s):wpAny (model prog w) A (excMatches (.ref e) (.ref D)) Q E s:=by
 obtain⟨nm,q,N,bs,hdct,sn,sub,ab,col,dd,k0,k1,k2,k3,k5,hC⟩:=c.at_;obtain⟨nm',q',N',bs',hdct',sn',sub',ab',col',dd',j0,j1,j2,j3,j5,hD⟩:=cd.at_;have hb:(Value.ref D::bd).contains (.type "BaseException")=true:=by rw[contains_cons,cd.base,Bool.or_true]
 have f:=tc_notTuple;obtain⟨oc,od,oa,os'⟩:=oe;cases (show oc=_ from ho);obtain⟨hp,g,dr,tk,os⟩:=s;unfold excMatches isInstance
 repeat (first
  |with_reducible refine wpAny_loadPart_at hD ?_
  |with_reducible refine wpAny_loadPart_at he ?_
  |(with_reducible refine wpAny_isSubtype_exc hD ?_;rw[hb])
  |(with_reducible refine wpAny_isSubtype_exc hC ?_;rw[hcD])
  |wp_step)
 exact hq
theorem LS{ds:List Addr}{Q:Bool->Shared->Prop}(c:Fh s.heap C bm)(hds:∀D∈ds,∃bd,Fh s.heap D bd)(hno:∀D∈ds,(Value.ref C::bm).contains (.ref D)=false)(he:s.heap.get? e=some oe)(ho:oe.cls= .ref C)
 (ht:s.heap.get? t=some {cls:=.type "tuple",dict:=none,data:=.seq (ds.map Value.ref).toArray 0,slots:=#[]})(hq:Q false s):wpAny (model prog w) A (excMatches (.ref e) (.ref t)) Q E s:=by
 obtain⟨nm,q,N,bs,hdct,sn,sub,ab,col,dd,k0,k1,k2,k3,k5,hC⟩:=c.at_;unfold excMatches;refine wB (wpAny_isInstance (T:="tuple") (b:=true) ⟨_,ht,rfl⟩ (by rw[isSubtype_type];kernel_rfl) ?_);rw[iP rfl];refine wB (wpAny_seqItems ht rfl ?_);show wpAny (model prog w) A (forIn (ds.map Value.ref) PUnit.unit _ >>= _) _ _ s;refine wB (wpAny_forIn_list _ (λrest _ s'=>(∀v∈rest,∃D∈ds,v= .ref D)/\s'=s) _ ?_ ?_ _ _ ⟨λv hv=>?_,rfl⟩)
 .rintro v rest b s' ⟨hm,rfl⟩
  obtain⟨D,hD,rfl⟩:=hm v mS;obtain⟨bd,cd⟩:=hds D hD;refine wB (RC cd ?_);rw[iN (by simp)];exact wP ⟨λv hv=>hm v (mC hv),rfl⟩
 .rintro _ s' ⟨_,rfl⟩
  refine wB (wpAny_typeOf_ref he ?_);rw[ho];refine wB (wpAny_forIn_list _ (λrest b s2=>(∀v∈rest,∃D∈ds,v= .ref D)/\b=(none,())/\s2=s') _ ?_ ?_ _ _ ⟨λv hv=>?_,rfl,rfl⟩)
  .rintro v rest b s2 ⟨hm,rfl,rfl⟩
   obtain⟨D,hD,rfl⟩:=hm v mS;obtain⟨hp,g,dr,tk,os⟩:=s2;refine wB (wpAny_isSubtype_exc hC ?_);rw[hno D hD,iN Bool.false_ne_true];exact wP ⟨λv hv=>hm v (mC hv),rfl,rfl⟩
  .rintro b s2 ⟨_,rfl,rfl⟩
   exact wP hq
  .obtain⟨D,h1,rfl⟩:=mem_map.mp hv;exact⟨D,h1,rfl⟩
 .obtain⟨D,h1,rfl⟩:=mem_map.mp hv;exact⟨D,h1,rfl⟩
end
structure cY(X:Cx)(C:Addr)(bm:List Value)(h:ExceptHandler):Prop where
 ex:∃es n p b hp ds,h= .ExceptHandler (some (.Tuple es n p)) none b hp/\ds.length<=1000/\Paired (λe D=>∃x q,e=Expr.Name x q/\Gl X x/\X.mg x=some (.ref D)/\ng x) es ds/\(∀D∈ds,∃bd,∀hh:Heap,X.K.In hh->Fh hh D bd)/\∀D∈ds,(Value.ref C::bm).contains (.ref D)=false
section
variable{X:Cx}{pins:Oa}{σ:L2.St}{H:Hp}{s s':Shared}{E:XK}{C D:Addr}{x en:Str}{p hp:Pos}{ie:Nat}{bm bd:List Value}
theorem Kn{A:Around}{E:Va}{Q:List Value->Shared->Prop}{pos:Pos}(I:Inv X pins σ H s):∀{es:List Expr} {ds:List Addr},Paired (λe D=>∃x q,e=Expr.Name x q/\Gl X x/\X.mg x=some (.ref D)/\ng x) es ds->Q (ds.map Value.ref) s->
 wpAny (model X.prog X.w) A (spliced (backTo pos (starEach es X.env))) Q E s
 |_,_,.nil,q=>Calls.spliced_nil q
 | _,_,.cons ⟨x,p,e,g1,g2,g3⟩ t,q=>by
   subst e;show wpAny _ _ (spliced ((false,eval (.Name x p) X.env)::backTo pos (starEach _ X.env))) _ _ s;refine Calls.spliced_cons (Calls.Name_function_global I.ok.kind g1 (Calls.loadGlobal_global (by rw[I.ok.glob];exact I.mod.glob.keeps I.bk) g2 ?_) g3);exact Kn I (Q:=λus s2=>Q (_::us) s2) t q
theorem P9.push{base h:Heap}{l:List PySem.Env}{cls:Value}{d:Option Addr}{fl:Value}(t:P9 base l e cls d fl h)(o:Obj):P9 base l e cls d fl (h.push o):=by
 obtain⟨t1,t2,oe,vs,T,oT,ts,h1,h2,h3,h4,h5,h6,h7,h8⟩:=t;exact⟨λb ob q=>gP (t1 b ob q),t2.of_keeps λb ob q _=>⟨ob,gP q,rfl⟩,oe,vs,T,oT,ts,gP h1,h2,h3,h4,h5,h6,gP h7,h8⟩
theorem land{R:V->Hp->Prop}{Q:Flow->Shared->Prop}{pre:List ExceptHandler}{b0:Stmt}{body:List Stmt}(hc:∀h:Heap,X.K.In h->Fh h C bm)(hcd:∀h:Heap,X.K.In h->Fh h D bd)(hsub:(Value.ref C::bm).contains (.ref D)=true)
 (hpre:∀h∈pre,cY X C bm h)(hg:Gl X x)(hm:X.mg x=some (.ref D))(hdb:ng x)(hN:X.N.Nodup)(hi:X.N[ie]? =some en)(hl:X.env.scope.names.lookup en=some .local)(I:Inv X pins σ H s)(hst:X.stack=X.env::X.outer)(hf:X.env.frame=some X.env.locals)
 (c:Gj X.prog X.w X.stack H s E e s')(hE:∀cls v H',E cls v H'->cls= .ref C/\R v H')
 (k:∀ea d oe od u v H' s'',oe.cls= .ref C->oe.dict=some d->notCls oe=true->(∀h:Heap,h.get? d=some od->h.Ns1 d (XE u))->RelV v u->Inv (hX X ea d oe od) pins (σ.set ie (some (.ref ea))) H' s''->R v H'->
   wpAny (model X.prog X.w) (X.A.mark (some (.ref ea))) (execs (b0::body) X.env) (λf s3=>f= .next/\∃σ3 H3,Inv (hX X ea d oe od) pins σ3 H3 s3/\∀s4,Inv X pins (σ3.set ie none) H3 s4->Q .next s4) (λ_ _=>False) s''):
 (X|||(noteFrame e X.env)) (λ_ s2=>(X|||(setFlight e none)) (λ_ s3=>(X|||(handleBy e X.env (pre++[.ExceptHandler (some (.Name x p)) (some en) (b0::body) hp]))) Q X.xe s3) X.xe s2) X.xe s':=by
 obtain⟨ea,C',d,B,H',u,v,rfl,os,gb,un,Aq,f2,⟨nd,hd,ruv⟩,f3,hB,q⟩:=c;obtain⟨ec,r⟩:=hE _ _ _ q;cases ec;have inv:∀h':Heap,B.StaysIn h'->s'.heap.UpToSlots h'->Inv X pins σ H' {s' with heap:=h'}:=λh' k1 k4=>I.Wz (ch:=[]) os (MH I un f3.1 hB k1 k4) (KC I un Aq f3.1 hB k1) gb (λb z=>absurd z (by simp))
 have fr:X.A.frames=some (X.env::X.outer):=by rw[I.ok.frames,hst]
 rw[hst]at f3;refine Kj fr hf f2 f3 λh4 t4 u4=>Gx t4.1 t4.2.1 f2 t4.2.2 λh5 t5 u5=>?_
 replace u5:s'.heap.UpToSlots h5:=u4.trans u5;clear u4 t4
 induction pre generalizing h5 with
 |cons hd pre ih=>
   obtain⟨es,n,tp,b,hp',ds,rfl,hlen,hds,Cw,hno⟩:=(hpre hd mS).ex;rw[cons_append];refine wpAny_handleBy_cons (codeAny_handlers_test ?_) (by intro z;cases z);have I5:=inv h5 t5.1 u5;refine wpAny_Tuple_spliced (Kn I5 hds ⟨?_,?_⟩)
   .rw[lM];have:(1000:Nat)<=sizeLine:=by decide
    lia
   have t6:=t5.push {cls:=.type "tuple",data:=.seq (ds.map Value.ref).toArray};have u6:s'.heap.UpToSlots (h5.push {cls:=.type "tuple",data:=.seq (ds.map Value.ref).toArray}):=u5.trans λb o q _=>⟨o.slots,gP q⟩
   have I6:=inv _ t6.1 u6;obtain⟨oe6,_,_,_,_,he6,⟨hcl6,_⟩,_⟩:=id t6.2.2;refine LS (s:={s' with heap:=h5.push {cls:=.type "tuple",data:=.seq (ds.map Value.ref).toArray}}) (hc _ I6.FF) (λD hD=>let⟨bd,z⟩:=Cw D hD;⟨bd,z _ I6.FF⟩) hno he6 hcl6 (Heap.get?_push_size _ rfl) ?_;exact ih (λh hh=>hpre h (mC hh)) _ t6 u6
 |nil =>
   rw[nil_append];refine wpAny_handleBy_cons (codeAny_handlers_test ?_) (by intro z;cases z);have I5:=inv h5 t5.1 u5;refine Calls.Name_function_global I5.ok.kind hg (Calls.loadGlobal_global (by rw[I5.ok.glob];exact I5.mod.glob.keeps I5.bk) hm ?_) hdb;obtain⟨oe5,_,_,_,_,he5,⟨hcl5,_⟩,_⟩:=id t5.2.2;refine QO (s:={s' with heap:=h5}) (hc h5 I5.FF) (hcd h5 I5.FF) hsub he5 hcl5 ?_;show codeAny _ _ _ _ _;refine codeAny_handlers_suite_as (Gx (s:={s' with heap:=h5}) t5.1 t5.2.1 f2 t5.2.2 λh6 t6 u6=>?_);have I6:=inv h6 t6.1 (u5.trans u6);obtain⟨oe,vs,_,_,_,he,⟨Cw,hdc⟩,hdt,_⟩:=id t6.2.2;obtain⟨od,es,ep,hod,hodd,hk1,hk2,hk3⟩:=id nd
   have nfe:ea∉CA (X.env::X.outer):=λz=>by
    obtain⟨_,o',q',hn⟩:=t6.2.1.mem z;rw[he]at q';cases q';exact hn _ hdt
   have nfd:d∉CA (X.env::X.outer):=λz=>by
    rw[(t6.2.1.mem z).1]at hod;cases hod
   have sub:∀b,b∉CA (X.env::X.outer)->b≠X.env.locals/\b∉X.fs:=λb hb=>by
    have h1:CA (X.env::X.outer)=X.env.locals::CA X.outer:=by unfold CA;rw[filterMap_cons,hf]
    rw[h1]at hb;exact⟨λz=>hb (by rw[z];exact mS),λz=>hb (mC z)⟩
   have hne:H' ea=none:=Classical.byContradiction λz=>by
    obtain⟨o,ho⟩:=hB ea (by rw[hst];exact nfe) (.inr z);rw[f2]at ho;cases ho
   have J:=YK (ea:=ea) (d:=d) (oe:=oe) (od:=od) I6 λq hq=>by
    rcases mK hq with z|z
    .cases z;exact⟨he,hne,(sub _ nfe).1,(sub _ nfe).2,λv z=>by rw[hdt]at z;cases z⟩
    .cases mE z;exact⟨t6.1 _ _ hod,hd,(sub _ nfd).1,(sub _ nfd).2,λv z=>by rw[hodd]at z;cases z⟩
   refine ED (X:=hX X ea d oe od) (v:=.ref ea) J hN hi (.inl hl) rfl (λs7 I7=>?_) (.inr hl);refine wpAny_mono (k ea d oe od u v H' s7 Cw hdc (by unfold notCls;rw[hdt]) (λh q=>⟨od,es,ep,q,hodd,hk1,hk2,hk3⟩) ruv I7 r) (λf s8 z=>?_) λ_ _ z=>z.elim
   obtain⟨rfl,σ3,H3,I8,k8⟩:=z;exact Ys (Rh I.ok I8) hN hi hl k8
end
end Xc
namespace Nv
open PySem L2 PyProof.Rows
section
variable{X:Cx}{C ea d:Addr}{oe od:Obj}{bm:List Value}{ie i:Nat}{en y:Str}{u:Value}{v:V}
theorem V1{pins:Oa}{σ:L2.St}{H:Hp}{s:Shared}(Cw:oe.cls= .ref C)(hdc:oe.dict=some d)(hnc:notCls oe=true)(I:Inv (Xc.hX X ea d oe od) pins σ H s):InstAt s.heap ea oe C (some od):=
 ⟨(I.pin (ea,oe) mS).1,Cw,hnc,by rw[hdc];exact(I.pin (d,od) (mC mS)).1⟩
theorem handed(r:RelV v u):handedIn u=true:=by
 cases v with
 |int _=>obtain⟨_,rfl⟩:=r;rfl
 |str _=>obtain⟨_,rfl⟩:=r;rfl
 |ZS _=>obtain⟨_,rfl⟩:=r;rfl
 |dN _=>obtain⟨_,rfl⟩:=r;rfl
 |_=>cases r;rfl
theorem Ql{q:Pos}(k:Hk X.K C)(Cw:oe.cls= .ref C)(hdc:oe.dict=some d)(hnc:notCls oe=true)(hns:∀h:Heap,h.get? d=some od->h.Ns1 d (Xc.XE u))(ru:RelV v u)(hi:X.N[ie]? =some en)(hl:X.env.scope.names.lookup en=some .local)(hdb:ng en)(hcd:(en == ("__classdict__":Str))=false):
 PE (Xc.hX X ea d oe od) (.Attribute (.Name en p) "place" q) (λσ H Q=>σ[ie]? =some (some (.ref ea))/\Q v H):=by
 rintro pins s σ H Q I ⟨h1,h2⟩
 refine NS rfl (thn ((Jb (X:=Xc.hX X ea d oe od) (pos:=p) hi (.inl hl) hdb hcd) pins s σ H (λv H1=>v= .ref ea/\H1=H) I ⟨_,h1,rfl,rfl⟩) λu s1 ⟨x,H1,I1,rx,e1,e2⟩=>?_);subst e1 e2;cases rx;exact Xc.RD I1.FF (I1.pin (ea,oe) mS).1 Cw hnc hdc (hns _ (I1.pin (d,od) (mC mS)).1) k.ga k.hd k.pl rfl (handed ru) ⟨v,H1,I1.tok _,ru,h2⟩
theorem Q8{a:Expr}{G:L2.St->Prop}(ha:PE X a (λσ H Q=>G σ/\Q (.bl true) H))(he:∀whole,isTrue a X.env whole=(do let v <-whole;standAt a.pos;holding [v] (truthy v))):PT X a (λσ H Q=>G σ/\Q true H):=by
 intro pins s σ H Q I h;refine isTrue_plain (thn (ha pins s σ H (λx H1=>x= .bl true/\Q true H1) I ⟨h.1,rfl,h.2⟩) λv s1 ⟨x,H1,I1,r1,e,q1⟩=>?_) (he _);subst e;cases r1;exact wpAny_truthy_bool ⟨H1,I1,q1⟩
theorem Ic{ss:List Stmt}:Lp X ss (λ_ _ _=>False):=λ_ _ _ _ _ _ z=>z.elim
theorem Qo{p pos:Pos}{wv:Value}(hc:∀h:Heap,X.K.In h->Xc.Fh h C bm)(k:Hk X.K C)(Cw:oe.cls= .ref C)(hdc:oe.dict=some d)(hnc:notCls oe=true)(hi:X.N[ie]? =some en)(hl:X.env.scope.names.lookup en=some .local)(hdb:ng en)(hcd:(en == ("__classdict__":Str))=false)
 (g1:Gl X "isinstance")(g2:X.mg "isinstance"=none)(pz:PE (Xc.hX X ea d oe od) (.Name z r) (tC w))(hw:∀t,RelV w t->t=wv)(hk:kitOne X.K (.ref C) wv=some true):
 PE (Xc.hX X ea d oe od) (.Call (.Name "isinstance" p) [.Name en q,.Name z r] [] pos) (λσ H Q=>σ[ie]? =some (some (.ref ea))/\Q (.bl true) H):=by
 have cr:DB (Xc.hX X ea d oe od) (.builtin "isinstance") (λxs H Q=>xs=[.ref ea,w]/\Q (.bl true) H):=by
  rintro pins s σ H xs us Q I rs ⟨rfl,q⟩
  obtain⟨u1,u2,rfl,r1,r2⟩:=vals2 rs;cases r1;cases hw _ r2;have KX:KitX X.K (.ref ea) (.ref C) λh=>InstAt h ea oe C (some od):=Xc.V6 hc k.ga k.hd k.ca k.cg k.ct k.mo
  exact kia_one KX I.FF (V1 Cw hdc hnc I) hk (λz=>by cases z) λtk=>⟨.bl true,H,I.tok tk,rfl,q⟩
 exact Au (DL (X:=Xc.hX X ea d oe od) cr g1 g2 MA (AU (Jb (X:=Xc.hX X ea d oe od) (pos:=q) hi (.inl hl) hdb hcd) (AU pz BR (A9 rfl [] _)) (A9 rfl [_] _)) (by decide) (by decide) (A9 rfl [_] _) rfl) λσ H Q z=>⟨_,z.1,rfl,z.2⟩
theorem OM{p2 q0 q5 q7:Pos}{aA:Addr}{thn:List Stmt}(hc:∀h:Heap,X.K.In h->Xc.Fh h C bm)(k:Hk X.K C)(Cw:oe.cls= .ref C)(hdc:oe.dict=some d)(hnc:notCls oe=true)(hns:∀h:Heap,h.get? d=some od->h.Ns1 d (Xc.XE u))(ru:RelV v u)(hN:X.N.Nodup)(hi:X.N[ie]? =some en)(hl:X.env.scope.names.lookup en=some .local)(hdb:ng en)(hcd:(en == ("__classdict__":Str))=false)
 (yi:X.N[i]? =some y)(yl:Loc X.env.scope y)(yf:X.fn y=true\/X.env.scope.names.lookup y=some .local)(hne:i≠ie)(g1:Gl X "isinstance")(g2:X.mg "isinstance"=none)(v1:Gl X "ValueError")(v2:X.mg "ValueError"=none)(w1:Gl X A)(w2:X.mg A=some (.ref aA))(w3:ng A)(hk:kitOne X.K (.ref C) (.ref aA)=some true):
 Lp (Xc.hX X ea d oe od) [.Assign [.Name y p0] (.Attribute (.Name en p1) "place" p2) p3,.If (.BoolOp .Or [.UnaryOp .Not (.Call (.Name "isinstance" q0) [.Name en q1,.Name A q2] [] q3) q4,.UnaryOp .Not (.Call (.Name "isinstance" q5) [.Name en q6,.Name "ValueError" q7] [] q8) q9] q10) thn [] q11]
  (λD σ H=>σ[ie]? =some (some (.ref ea))/\D.nx (σ.set i (some v)) H):=by
 have hX:=Xc.hX X ea d oe od;have pA:PE (Xc.hX X ea d oe od) (.Name A q2) (tC (.ref aA)):=Jc (X:=Xc.hX X ea d oe od) w1 w2 rfl w3;have pV:PE (Xc.hX X ea d oe od) (.Name "ValueError" q7) (tC (.ty "ValueError")):=N5 (X:=Xc.hX X ea d oe od) (pos:=q7) v1 v2 (by decide +kernel) (show RelV (.ty "ValueError") (Value.type "ValueError")from rfl) (by decide) (by decide);have i1:=Qo (p:=q0) (q:=q1) (r:=q2) (pos:=q3) hc k Cw hdc hnc hi hl hdb hcd g1 g2 pA (wv:=.ref aA) (λt r=>r) hk;have i2:=Qo (p:=q5) (q:=q6) (r:=q7) (pos:=q8) hc k Cw hdc hnc hi hl hdb hcd g1 g2 pV (wv:=.type "ValueError") (λt r=>r) k.ve;have t1:=LJ (pos:=q4) (Q8 (X:=Xc.hX X ea d oe od) i1 λ_=>rfl);have t2:=LJ (pos:=q9) (Q8 (X:=Xc.hX X ea d oe od) i2 λ_=>rfl);have pw:=Wb (pos:=q10) t1 (Q7 (pos:=q10) t2);refine J2 (GX (J5 (X:=Xc.hX X ea d oe od) hN yi yl (Ql (p:=p1) (q:=p2) k Cw hdc hnc hns ru hi hl hdb hcd) rfl yf) (GX (We (PW.pt pw) (Ic (ss:=thn)) J1) J1)) λD σ H z=>?_
 obtain⟨z1,z2⟩:=z;refine⟨z1,?_⟩;have e1:(σ.set i (some v))[ie]? =some (some (.ref ea)):=by rw[List.getElem?_set_ne hne];exact z1
 exact⟨e1,⟨e1,z2⟩⟩
end
variable{ct:Ct}
theorem JX{i:Nat}(h:ct.Bk x=some i):ng x/\(x == ("__classdict__":Str))=false:=by
 unfold Ct.Bk at h;split at h
 .rename_i hc;rw[bA]at hc;exact⟨(Cz hc.1).1,(Cz hc.1).2.1⟩
 .cases h
theorem T9{b:List Stmt}{t:T}(h:ar ct b=some t):∃x p y q cp ep f i,b=[.Expr (.Call (.Name x p) [.Name y q] [] cp) ep]/\ct.glob x=true/\ct.fns.lookup x=some f/\ct.slot y=some i/\t= .call f [.var i]:=by
 obtain⟨s,h1,h⟩:=Ae h;obtain⟨e,h2,h⟩:=Ae h;obtain⟨q,h3,h⟩:=Ae h;obtain⟨x,h4,h⟩:=Ae h;obtain⟨a,h5,h⟩:=Ae h;obtain⟨y,h6,h⟩:=Ae h;obtain⟨hc,h⟩:=AH h;obtain⟨f,h7,h⟩:=Ae h;obtain⟨i,h8,rfl⟩:=Bg h;rw[bA]at hc;cases CY h1;cases s with
 |Expr e' ep=>
   cases h2;cases e with
   |Call g as kw cp=>
     cases h3;obtain⟨p,hg⟩:=Cu h4;obtain⟨yq,ha⟩:=Cu h6;cases (show g=_ from hg);cases (show a=_ from ha);cases (show as=_ from CY h5);cases isEmpty_iff.mp (show kw.isEmpty=true from hc.2);exact⟨x,p,y,yq,cp,ep,f,i,rfl,hc.1,h7,h8,rfl⟩
   |_=>cases h3
 |_=>cases h2
variable{en:Str}
theorem Rb{z:Str}(h:YJ ct en e=some z):∃p q r pos,e= .Call (.Name "isinstance" p) [.Name en q,.Name z r] [] pos/\ct.own "isinstance"=true:=by
 obtain⟨q,h3,h⟩:=Ae h;obtain⟨x,h4,h⟩:=Ae h;obtain⟨ab,h5,h⟩:=Ae h;obtain⟨y,h6,h⟩:=Ae h;obtain⟨z',h7,h⟩:=Ae h;obtain⟨hc,rfl⟩:=A6 h;simp only[bA,decide_eq_true_eq]at hc;obtain⟨⟨⟨rfl,c2⟩,c3⟩,rfl⟩:=hc;cases e with
 |Call g as kw cp=>
   cases h3;obtain⟨p,hg⟩:=Cu h4;obtain⟨q1,ha⟩:=Cu h6;obtain⟨q2,hb⟩:=Cu h7;obtain⟨a,b⟩:=ab;cases (show g=_ from hg);cases (show a=_ from ha);cases (show b=_ from hb);cases (show as=_ from Fp h5);cases isEmpty_iff.mp (show kw.isEmpty=true from c3);exact⟨p,q1,q2,cp,rfl,c2⟩
 |_=>cases h3
theorem XC{y:Str}{s:Stmt}(h:U7 en s=some y):∃p0 p1 p2 p3,s= .Assign [.Name y p0] (.Attribute (.Name en p1) "place" p2) p3:=by
 obtain⟨a,h1,h⟩:=Ae h;obtain⟨t,h2,h⟩:=Ae h;obtain⟨y',h3,h⟩:=Ae h;obtain⟨q,h4,h⟩:=Ae h;obtain⟨e,h5,h⟩:=Ae h;obtain⟨⟨rfl,hm⟩,rfl⟩:=A6 h;cases s with
 |Assign ts v p3=>
   cases h1;obtain⟨p0,ht⟩:=Cu h3;cases v with
   |Attribute o m p2=>
     cases h4;obtain⟨p1,ho⟩:=Cu h5;cases (show t=_ from ht);cases (show o=_ from ho);cases (show ts=_ from CY h2);cases (show m=_ from hm);exact⟨p0,p1,p2,p3,rfl⟩
   |_=>cases h4
 |_=>cases h1
theorem not_of{a:Expr}(h:Yj e=some a):∃p,e= .UnaryOp .Not a p:=by
 cases e with
 |UnaryOp op b p=>
   cases op with
   |Not=>cases h;exact⟨p,rfl⟩
   |_=>cases h
 |_=>cases h
theorem bu{es:List Expr}(h:iR e=some es):∃p,e= .BoolOp .Or es p:=by
 cases e with
 |BoolOp op b p=>
   cases op with
   |Or=>cases h;exact⟨p,rfl⟩
   |_=>cases h
 |_=>cases h
theorem Zg{A:Str}{s:Stmt}(h:Vn ct en s=some A):∃thn q0 q1 q2 q3 q4 q5 q6 q7 q8 q9 q10 q11,s= .If (.BoolOp .Or [.UnaryOp .Not (.Call (.Name "isinstance" q0) [.Name en q1,.Name A q2] [] q3) q4,.UnaryOp .Not (.Call (.Name "isinstance" q5) [.Name en q6,.Name "ValueError" q7] [] q8) q9] q10) thn [] q11/\ct.own "isinstance"=true/\ct.own "ValueError"=true/\ct.Kz A=true:=by
 obtain⟨c,h1,h⟩:=Ae h;obtain⟨os,h2,h⟩:=Ae h;obtain⟨ab,h3,h⟩:=Ae h;obtain⟨a,h4,h⟩:=Ae h;obtain⟨b,h5,h⟩:=Ae h;obtain⟨A',h6,h⟩:=Ae h;obtain⟨B,h7,h⟩:=Ae h;obtain⟨hc,rfl⟩:=A6 h;simp only[bA,decide_eq_true_eq]at hc;obtain⟨⟨⟨c1,c2⟩,c3⟩,rfl⟩:=hc;cases s with
 |If cc aa bb q11=>
   cases h1;obtain⟨q10,e1⟩:=bu h2;obtain⟨x,y⟩:=ab;obtain⟨q4,e2⟩:=not_of h4;obtain⟨q9,e3⟩:=not_of h5;obtain⟨q0,q1,q2,q3,e4,o1⟩:=Rb h6;obtain⟨q5,q6,q7,q8,e5,_⟩:=Rb h7;cases (show x=_ from e2);cases (show y=_ from e3);cases Fp h3;cases (show cc=_ from e1);cases isEmpty_iff.mp (show bb.isEmpty=true from c1);subst e4 e5;exact⟨aa,q0,q1,q2,q3,q4,q5,q6,q7,q8,q9,q10,q11,rfl,o1,c3,c2⟩
 |_=>cases h1
theorem Jq{h:ExceptHandler}{r:List Nat×Nat×Nat}(hr:Jx ct h=some r):∃d dp en s1 s2 hp y A,h= .ExceptHandler (some (.Name d dp)) (some en) [s1,s2] hp/\U7 en s1=some y/\Vn ct en s2=some A/\ct.Bk y=some r.2.2/\ct.Bk en=some r.2.1/\ct.Kz d=true/\ct.sc.names.lookup en=some .local/\r.2.2≠r.2.1/\
 ∀c∈r.1,(ct.Cr d).contains c=true/\c∈ct.Cw/\(ct.Cr A).contains c=true:=by
 obtain⟨t,n,b,hp⟩:=h
 obtain⟨t',h1,hr⟩:=Ae (show(t.bind λt=>(DE t).bind λd=>n.bind λen=>(two b).bind λss=>(U7 en ss.1).bind λy=>(Vn ct en ss.2).bind λA=>(ct.Bk y).bind λi=>(ct.Bk en).bind λie=>
  if(ct.Kz d && decide (ct.sc.names.lookup en=some .local) && decide (i≠ie))=true then some ((ct.Cr d).filter (λc=>ct.Cw.contains c && (ct.Cr A).contains c),ie,i)else none)=some r from hr)
 obtain⟨d,h2,hr⟩:=Ae hr;obtain⟨en,h3,hr⟩:=Ae hr;obtain⟨ss,h4,hr⟩:=Ae hr;obtain⟨y,h5,hr⟩:=Ae hr;obtain⟨A,h6,hr⟩:=Ae hr;obtain⟨i,h7,hr⟩:=Ae hr;obtain⟨ie,h8,hr⟩:=Ae hr;obtain⟨hc,rfl⟩:=A6 hr;simp only[bA,decide_eq_true_eq]at hc;subst h1 h3;obtain⟨dp,e1⟩:=Cu h2;cases (show t'=_ from e1);cases (show b=_ from Fp h4);refine⟨d,dp,en,ss.1,ss.2,hp,y,A,rfl,h5,h6,h7,h8,hc.1.1,hc.1.2,hc.2,λc hcm=>?_⟩;obtain⟨m1,m2⟩:=mem_filter.mp hcm;rw[bA]at m2;exact⟨by simpa using m1,by simpa using m2.1,m2.2⟩
theorem Nq:∀{hs:List ExceptHandler} {r:List Nat×Nat×Nat},c9 ct hs=some r->∃pre last r0,hs=pre++[last]/\Jx ct last=some r0/\r0.2=r.2/\(∀c∈r.1,c∈r0.1)/\∀h∈pre,∃cs,Jw ct h=some cs/\∀c∈r.1,c∉cs
 |[],r,h=>by cases h
 | x ::hs,r,h=>by
   replace h:(if hs.isEmpty then Jx ct x else(Jw ct x).bind λcs=>(c9 ct hs).map λq=>(q.1.filter λc=>!cs.contains c,q.2))=some r:=h;split at h
   .rename_i he;cases isEmpty_iff.mp he;exact⟨[],x,r,rfl,h,rfl,λc hc=>hc,λ_ z=>by cases z⟩
   .obtain⟨cs,h1,h2⟩:=Ae h;obtain⟨q,h3,rfl⟩:=Bg h2;obtain⟨pre,last,r0,e1,e2,e3,e4,e5⟩:=Nq h3;refine⟨x::pre,last,r0,by rw[e1];rfl,e2,e3,λc hc=>e4 c (mem_filter.mp hc).1,λh hh=>?_⟩;rcases mK hh with rfl|hh
    .exact⟨cs,h1,λc hc=>by simpa using(mem_filter.mp hc).2⟩
    .obtain⟨cs',g1,g2⟩:=e5 h hh;exact⟨cs',g1,λc hc=>g2 c (mem_filter.mp hc).1⟩
variable{W:Wd}{cf:CF}{k:Nat}{X:Cx}{EX:XP}
theorem Jt(L:Br ct X W EX cf k)(h:ct.Kz x=true):∃c,ct.cls.lookup x=some c/\Gl X x/\X.mg x=some (.ref (W.CD c))/\ng x/\∃bd,∀hh:Heap,X.K.In hh->Xc.Fh hh (W.CD c) bd:=by
 unfold Ct.Kz at h;rw[bA]at h;obtain⟨c,hc⟩:=Option.isSome_iff_exists.mp h.2;obtain⟨g1,g2,_⟩:=L.glob h.1;exact⟨c,hc,g1,L.cls x c hc,g2,L.cK x c hc⟩
theorem TH(L:Br ct X W EX cf k){c:Nat}{bm:List Value}(hb:∀x c',ct.cls.lookup x=some c'->(Value.ref (W.CD c)::bm).contains (.ref (W.CD c'))=(ct.Cr x).contains c){h:ExceptHandler}{cs:List Nat}(hs:Jw ct h=some cs)(hn:c∉cs):Xc.cY X (W.CD c) bm h:=by
 obtain⟨t,n,b,hp⟩:=h;obtain⟨h1,hs1⟩:=AH (show(if n.isNone then t.bind λt=>(aq t).bind λes=>if es.length<=1000 then Vl ct es else none else none)=some cs from hs);obtain⟨t',h2,hs2⟩:=Ae hs1;obtain⟨es,h3,hs3⟩:=Ae hs2;obtain⟨hl,hs4⟩:=AH hs3;cases Option.isNone_iff_eq_none.mp h1;subst h2;cases t' with
 |Tuple es' m p=>
   cases h3
   have gen:∀(es:List Expr) {cs:List Nat},Vl ct es=some cs->c∉cs->∃ds:List Addr,ds.length=es.length/\Paired (λe D=>∃x q,e=Expr.Name x q/\Gl X x/\X.mg x=some (.ref D)/\ng x) es ds/\∀D∈ds,(∃bd,∀hh:Heap,X.K.In hh->Xc.Fh hh D bd)/\(Value.ref (W.CD c)::bm).contains (.ref D)=false:=by
    intro es
    induction es with
    |nil=>intro cs _ _;exact⟨[],rfl,.nil,λ_ z=>by cases z⟩
    |cons e es ih=>
      intro cs hcs hn;obtain⟨x,g1,hcs⟩:=Ae hcs;obtain⟨g2,hcs⟩:=AH hcs;obtain⟨cs',g3,rfl⟩:=Bg hcs;obtain⟨ds,d1,d2,d3⟩:=ih g3 λz=>hn (mR z)
      obtain⟨c',k1,k2,k3,k4,k5⟩:=Jt L g2;obtain⟨q,rfl⟩:=Cu g1;refine⟨W.CD c'::ds,by simp[d1],.cons ⟨x,q,rfl,k2,k3,k4⟩ d2,λD hD=>?_⟩;rcases mK hD with rfl|hD
      .refine⟨k5,?_⟩;rw[hb x c' k1];cases e:(ct.Cr x).contains c with
       |false=>rfl
       |true=>exact absurd (mL (by simpa using e)) hn
      .exact d3 D hD
   obtain⟨ds,d1,d2,d3⟩:=gen es hs4 hn;exact⟨es,m,p,b,hp,ds,rfl,by lia,d2,λD hD=>(d3 D hD).1,λD hD=>(d3 D hD).2⟩
 |_=>cases h3
variable{H:Hp}{ρ:Env}
theorem Aw.unset{Hin:Hp}{A0:Addr->Prop}{Bo:Nat->Addr->Prop}{σ:L2.St}(S:Aw W Hin A0 Bo H ρ σ)(i:Nat)(x:Option V):Aw W Hin A0 Bo H (ρ.set i none) (σ.set i x):=
 ⟨by rw[length_set,length_set];exact S.len,S.tb,let⟨O,h⟩:=S.env;⟨O,λj c q=>by
  rw[Ck]at q;split at q
  .split at q<;>cases q
  .rename_i hij;obtain⟨v,q1,q2⟩:=h j c q
   exact⟨v,by rw[List.getElem?_set_ne hij];exact q1,q2⟩⟩,S.bo,S.FI,S.HI,S.kp⟩
variable{α:Type}
theorem MU{l:List α}{i j:Nat}{a b c:α}(h:j≠i):((l.set i a).set j b).set i c=(l.set j b).set i c:=by
 rw[List.set_comm _ _ h.symm,set_set]
abbrev Pw(X:Cx)(pins:Oa)(D:Ends)(hs:List ExceptHandler):Value->Shared->Prop:=λe s1=>(X|||(noteFrame e X.env)) (λ_ s2=>(X|||(setFlight e none)) (λ_ s3=>(X|||(handleBy e X.env hs)) (SP X pins D) X.xe s3) X.xe s2) X.xe s1
theorem Pu(L:Br ct X W EX cf k)(T:j9 ct X W){hs:List ExceptHandler}{r:List Nat×Nat×Nat}(hr:c9 ct hs=some r){pins:Oa}{σ:L2.St}{s s':Shared}{D:Ends}{E:XK}{c:Nat}{R:V->Hp->Prop}(hc:c∈r.1)(I:Inv X pins σ H s)
 (cx:Xc.Gj X.prog X.w X.stack H s E e s')(hE:∀cls v H',E cls v H'->cls= .ref (W.CD c)/\R v H')(hR:∀ea v H',R v H'->D.nx (((σ.set r.2.1 (some (.ref ea))).set r.2.2 (some v)).set r.2.1 none) H'):Pw X pins D hs e s':=by
 obtain⟨pre,last,r0,rfl,h1,h2,h3,h4⟩:=Nq hr;obtain⟨d,dp,en,s1,s2,hp,y,A,rfl,g1,g2,g3,g4,g5,g6,g7,g8⟩:=Jq h1;rw[h2]at g3 g4 g7;obtain⟨m1,m2,m3⟩:=g8 c (h3 c hc);obtain⟨bm,b1,b2⟩:=T.bm c m2;obtain⟨cd,k1,k2,k3,k4,bd,k5⟩:=Jt L g5;obtain⟨p0,p1,p2,p3,rfl⟩:=XC g1;obtain⟨thn,q0,q1,q2,q3,q4,q5,q6,q7,q8,q9,q10,q11,rfl,o1,o2,o3⟩:=Zg g2;obtain⟨cA,a1,a2,a3,a4,_⟩:=Jt L o3;obtain⟨y1,y2,y3⟩:=L.Bk g3;obtain⟨e1,e2,e3⟩:=L.Bk g4;have el:=L.sc.loc en g6;obtain⟨i1,i2,_⟩:=L.Gf o1;obtain⟨v1,v2,_⟩:=L.Gf o2;have hle:r.2.1 < σ.length:=by rw[I.len];exact(List.getElem?_eq_some_iff.mp e1).1
 refine Xc.land (C:=W.CD c) (D:=W.CD cd) (R:=R) b1 k5 (by rw[(b2 d cd k1).1];exact m1) (λh hh=>?_) k2 k3 k4 L.nd e1 el I T.st T.fr cx hE λea dd oe od u v H' s'' z1 z2 z3 z4 z5 J r'=>?_
 .obtain⟨cs,w1,w2⟩:=h4 h hh;exact TH L (λx c' hx=>(b2 x c' hx).1) w1 (w2 c hc)
 .have hb:=OM (p0:=p0) (p1:=p1) (p2:=p2) (p3:=p3) (q0:=q0) (q1:=q1) (q2:=q2) (q3:=q3) (q4:=q4) (q5:=q5) (q6:=q6) (q7:=q7) (q8:=q8) (q9:=q9) (q10:=q10) (q11:=q11) (thn:=thn) b1 (T.hk c m2) z1 z2 z3 z4 z5 L.nd e1 el (JX g4).1 (JX g4).2 y1 y2 y3 g7 i1 i2 v1 v2 a2 a3 a4 ((b2 A cA a1).2 m3)
   pins s'' _ H' {nx:=λσ3 H3=>∀s4,Inv X pins (σ3.set r.2.1 none) H3 s4->SP X pins D .next s4,rt:=λ_ _=>False} J ⟨List.getElem?_set_self hle,λs4 J4=>⟨_,_,J4,hR ea v H' r'⟩⟩
  refine wpAny_mono hb (λf s3 w=>?_) λ_ _ w=>w
  cases f with
  |next=>obtain⟨σ3,H3,J3,w⟩:=w;exact⟨rfl,σ3,H3,J3,w⟩
  |brk=>obtain⟨_,_,_,w⟩:=w;exact w.elim
  |cont=>obtain⟨_,_,_,w⟩:=w;exact w.elim
  |ret u=>obtain⟨_,_,_,_,_,w⟩:=w;exact w.elim
theorem Ro{cs:List Nat}{ie i x:Nat}(hle:ie < ρ.length):hand cf AW x p [(cs,some ie,[.asg (.nm i) (.Ai EK (.var ie))])] ρ=if cs.contains x then .nx (((ρ.set ie (some (.exc x p))).set i (some (.p p))).set ie none)else .stuck:=by
 show(if cs.contains x then _ else _)=_;have e:Ap (ρ.set ie (some (.exc x p))) ie=some (.exc x p):=by rw[Ck,iP rfl,iP hle]
 have e1:Nv.execs cf AW [.asg (.nm i) (.Ai EK (.var ie))] (ρ.set ie (some (.exc x p)))= .nx ((ρ.set ie (some (.exc x p))).set i (some (.p p))):=by
  show((((Res.of ((Ap (ρ.set ie (some (.exc x p))) ie).map C.bor)).bind λx=>Res.of (EK x)).fl _ _).then _)=_;rw[e];rfl
 dsimp only;rw[e1];rfl
theorem Te(L:Br ct X W EX cf k){b:List Stmt}{hs:List ExceptHandler}{pos:Pos}{t:S}(h:YC ct b hs=some t):PS X (.Try b hs [] [] pos) (rS W EX cf t):=by
 obtain⟨hdf,h⟩:=AH h;obtain⟨t0,h1,h⟩:=Ae h;obtain⟨r,hr,rfl⟩:=Bg h;obtain⟨x,xp,y,yp,cp,ep,f,i,rfl,g1,g2,g3,rfl⟩:=T9 h1;have T:=L.tr hdf;obtain⟨f1,f2,_⟩:=L.glob g1;obtain⟨a,q1,q2,F⟩:=L.fns x f g2;obtain⟨v1,v2,v3,v4⟩:=L.slot g3
 have hle:r.2.1 < X.N.length:=by
  obtain⟨pre,last,r0,e0,l1,l2,_⟩:=Nq hr;obtain⟨d,dp,en,s1,s2,hp,y,A,_,_,_,_,l4,_⟩:=Jq l1;rw[l2]at l4;exact(List.getElem?_eq_some_iff.mp (L.Bk l4).1).1
 have hli:r.2.2 < X.N.length/\r.2.2≠r.2.1:=by
  obtain⟨pre,last,r0,e0,l1,l2,_⟩:=Nq hr;obtain⟨d,dp,en,s1,s2,hp,y,A,_,_,_,l3,_,_,_,l5,_⟩:=Jq l1;rw[l2]at l3 l5;exact⟨(List.getElem?_eq_some_iff.mp (L.Bk l3).1).1,l5⟩
 intro pins s σ H D I z;obtain⟨Hin,A0,Bo,ρ,S,hA⟩:=z;have lρ:ρ.length=X.N.length:=by rw[<-S.len,I.len]
 replace hA:Bp W EX Hin A0 Bo ([]++(([r.2.1]++([r.2.2]++[]))++[])) D σ (match Nv.execs cf AW [.expr (.call f [.var i])] ρ with
  |.err x p ρ'=>hand cf AW x p [(r.1,some r.2.1,[.asg (.nm r.2.2) (.Ai EK (.var r.2.1))])] ρ'
  |r=>r):=hA
 have ex1:Nv.execs cf AW [.expr (.call f [.var i])] ρ=((ev cf (.call f [.var i]) ρ).fl ρ λ_=>.nx ρ):=by
  show(((ev cf (.call f [.var i]) ρ).fl ρ λ_=>.nx ρ).then _)=_;cases ev cf (.call f [.var i]) ρ<;>rfl
 rw[ex1]at hA
 let EX':XP:=λx p σ' H'=>σ'=σ/\ev cf (.call f [.var i]) ρ= .err x p/\Aw W Hin A0 Bo H' ρ σ
 have z':tG W EX' (rV W) (ev cf (.call f [.var i])) σ H λ_ H2=>D.nx σ H2:=by
  refine⟨ρ,_,S.rev,?_⟩;cases ee:ev cf (.call f [.var i]) ρ with
  |stuck=>rw[ee]at hA;exact hA
  |ok c=>rw[ee]at hA;exact λb H' e t _=>hA σ H' (S.ext e t) (AD.refl _ _)
  |err x p=>exact λH' e t=>⟨rfl,ee,S.ext e t⟩
 have err:∀{x p},ev cf (.call f [.var i]) ρ= .err x p->x∈r.1/\∀ea v H',Af W H' p v->Aw W Hin A0 Bo H' ρ σ->D.nx (((σ.set r.2.1 (some (.ref ea))).set r.2.2 (some v)).set r.2.1 none) H':=λ{x p} ee=>by
  rw[ee]at hA;replace hA:Bp W EX Hin A0 Bo ([]++(([r.2.1]++([r.2.2]++[]))++[])) D σ (hand cf AW x p [(r.1,some r.2.1,[.asg (.nm r.2.2) (.Ai EK (.var r.2.1))])] ρ):=hA;rw[Ro (by rw[lρ];exact hle)]at hA;split at hA
  .rename_i hx;refine⟨by simpa using hx,λea v H' rp S'=>?_⟩;refine hA _ H' ?_ ?_
   .rw[MU hli.2,MU hli.2];exact(S'.Od (by rw[I.len];exact hli.1) rp).unset _ _
   .exact((AD.set (by simp)).trans (AD.set (by simp))).trans (AD.set (by simp))
  .exact hA.elim
 rw[arm_exec_Try]
 obtain⟨h0,hs',ehs⟩:∃h0 hs',hs=h0::hs':=by
  cases hs with
  |nil=>cases hr
  |cons h0 hs'=>exact⟨h0,hs',rfl⟩
 have key:(X|||(PySem.exec (.Expr (.Call (.Name x xp) [.Name y yp] [] cp) ep) X.env)) (SP X pins D) (Pw X pins D hs) s:=by
  have sv:Bt (X.GF (Pw X pins D hs)) W EX' cf (.Name y yp) (.var i):=MR (X:=X.GF (Pw X pins D hs)) L.K v1 v2 v3 v4;have pa:=Qt (.cons sv .nil);refine wpAny_Expr_any (thn (Q:=EP X pins σ λ_ H2=>D.nx σ H2) ?_ λv s1 ⟨x,H1,I1,r1,q1⟩=>⟨σ,H1,I1,q1⟩) I.quiet rfl;obtain⟨o,fd,o1,o2⟩:=F.1;refine wpAny_Call_Name_kw (ES I f1 q1 ?_ f2);refine Calls.callWith_function (o:=o) (fd:=fd) ?_;have h0:=pa cp pins s σ H _ (I.GF _) (Ly z');rw[A9 rfl [] (X.GF (Pw X pins D hs)).env]at h0;refine Calls.evalArgs_plain (thn h0 λus s1 ⟨vs,H1,I1,rv,q⟩=>⟨⟨I1.bk _ _ o1,o2⟩,?_⟩);have I1:=I1.Lr;have q:O8 W (λcs=>cf f (cs++([]:List P).map .p)) vs H1 (λ_ H2=>D.nx σ H2) (EE W EX' σ):=by simp only[map_nil,append_nil];exact q
  refine wpAny_call (codeAny_mono (F.2 X.A X.stack s1 H1 us vs _ _ (L.room.mono (Nat.le_succ _)) I1.cI rv q) λrr s' hq=>?_);cases rr with
  |error e=>
    cases ee:ev cf (.call f [.var i]) ρ with
    |err x p=>
      obtain⟨hx,hn⟩:=err ee;refine Pu L T hr hx I1 hq (R:=λv H'=>Af W H' p v/\Aw W Hin A0 Bo H' ρ σ) (λcls v H' ⟨x',p',w1,w2,_,w3,w4⟩=>?_) λea v H' ⟨w1,w2⟩=>hn ea v H' w1 w2
      rw[ee]at w3;cases w3;exact⟨w1,w2,w4⟩
    |_=>
      obtain⟨_,_,_,_,_,_,_,_,_,_,_,_,_,_,_,_,_,_,_,_,_,w3,_⟩:=hq;rw[ee]at w3;cases w3
  |ok fl=>
    cases fl with
    |ret u=>exact I1.after hq
    |next=>exact False.elim hq
    |brk=>exact False.elim hq
    |cont=>exact False.elim hq
 rw[ehs]at key ⊢;refine wB (wpAny_standAt (wpAny_tryStmt_except (wpAny_execs_cons (wpAny_mono key (λf s1 q=>?_) λe s1 q=>q))));cases f with
 |next=>exact wpAny_execs_nil (wpAny_execs_nil q)
 |_=>exact q
theorem X9(L:Br ct X W EX cf k):jb ct X W EX cf k:=
 ⟨Td L,PQ L,λ_ h=>Xa Jg L h,Th (i:=0) L,Tf Jg L,Te L⟩
theorem L9{ss:List Stmt}{ts:List S}(L:Br ct X W EX cf k)(h:UT ct ss=some ts):Lp X ss (iO W EX cf ts):=
 N2 (λs _=>YD Jg X9 (sizeOf s) s (lR)) L h
section
variable{P:Program}{w:World}{K:Frag}{mg:Str->Option Value}
structure Top(c c':Ct):Prop where
 fns:c.fns=c'.fns
 cls:c.cls=c'.cls
 sub:c.sub=c'.sub
 gl:c.gl=c'.gl
 Cw:c.Cw=c'.Cw
 lt:c.lt=c'.lt
variable{c':Ct}
theorem Top.lam{c:Ct}(h:Top c c')(as:Arguments)(sc:Scope):c.lam as sc=c'.lam as sc:=by
 obtain⟨N,s,f,cl,su,g,d,hc,lm,lt⟩:=c;obtain⟨N',s',f',cl',su',g',d',hc',lm',lt'⟩:=c';obtain⟨rfl,rfl,rfl,rfl,rfl,rfl⟩:=h;rfl
structure eK(K:Frag)(mg:Str->Option Value)(W:Wd)(nd:Nat)(fad:Nat->Addr)(ct:Ct):Prop where
 kk:W.K=K
 xh:W.xh=false
 fa:∀n c a,W.fa n c a↔(n < nd/\c=[]/\a=fad n)
 gl:∀x c,ct.gl.lookup x=some c->∃u v,mg x=some u/\RelV v u/\∀W':Wd,VD W W'->∀H own bor,AI W' H own bor c.bor v
 own:∀x∈JK,ct.gl.lookup x=none->ct.fns.lookup x=none->ct.cls.lookup x=none->mg x=none
 fns:∀x f,ct.fns.lookup x=some f->mg x=some (.ref (fad f))/\f < nd
 cls:∀x c,ct.cls.lookup x=some c->mg x=some (.ref (W.CD c))
 xk:∀c∈ct.Cw,∃f sf st fd,Xc.Xk K (W.CD c) f sf st fd
 cK:∀x c,ct.cls.lookup x=some c->∃bd,∀h:Heap,K.In h->Xc.Fh h (W.CD c) bd
 hk:∀c∈ct.Cw,Hk K (W.CD c)
 bm:∀c∈ct.Cw,∃bm,(∀h:Heap,K.In h->Xc.Fh h (W.CD c) bm)/\∀x c',ct.cls.lookup x=some c'->(Value.ref (W.CD c)::bm).contains (.ref (W.CD c'))=(ct.Cr x).contains c/\((ct.Cr x).contains c=true->kitOne K (.ref (W.CD c)) (.ref (W.CD c'))=some true)
structure Lm(K:Frag)(W:Wd)(c0:Ct)(a:Addr)(fi:P7)(fd:FuncData)(ps:List Str):Prop where
 ex:∃(x qual:Str) (st:Stmt) (ct:Ct),SJ K x qual st a fd/\Dv ct.N ps (Aj st)/\UT ct (CB st)=some fi.body/\fi.np=ps.length/\fi.nl=ct.N.length/\ct.sc=Aj st/\ct.df=true/\Top ct c0/\Binds K fd ps []/\
   ∀lp l,ct.QV.lookup lp=some l->∃c P,fd.code= .ref c/\codeHdIn K c P=true/\(P,lp,(qual++".<locals>.")++"<lambda>")∈W.tabs
structure Good(K:Frag)(mg:Str->Option Value)(c0:Ct)(W0 W:Wd)(base:Heap):Prop where
 st:VD W0 W
 Dn:K.In base
 fa:∀n c a,W.fa n c a->W0.fa n c a\/Fi c0 (λl n t=>c0.lt l n t=true) W base n c a
 blt:∀q∈W0.tabs,base.BuiltinsAt mg q.1/\mainGlobals≠q.1
theorem Sd{h h':Heap}{P:Addr}(k:∀b o,h.get? b=some o->h'.get? b=some o)(x:h.BuiltinsAt mg P):h'.BuiltinsAt mg P:=
 let⟨bm,o,q1,q2,q3,q4,q5,q6⟩:=x;⟨bm,o,q1,q2,q3,q4,k _ _ q5,q6⟩
variable{base:Heap}
theorem SJ.jP{qual:Str}{st:Stmt}{fd:FuncData}{N ps:List Str}{k:Nat}{sp:Sp}(F:SJ K x qual st f fd)(S:Dv N ps (Aj st))(len:∀vs H Q E,sp vs H Q E->vs.length=ps.length)
 (hbody:∀(A:Around) (outer:List PySem.Env) (s:Shared) (H:Hp) (vs:List V) (Q:VK) (E:XK),Cm k (A.deeper (envOfC qual (Aj st) s.heap.objs.size f fd.code))->sp vs H Q E->
  ∃t,Lp (Mv (Xc.Gj P w) P w K mg base N qual (Aj st) f fd.code A outer s H E) (CB st) t/\t {nx:=λ_ H'=>Q .A8 H',rt:=Q} (start N vs) H):HF P w K mg base (Xc.Gj P w) (k+1) f fd ps sp:=by
 obtain⟨oc,od,kV,doc,pm,an,cdv,ct,osl,rfl,lk,hcd⟩:=F.ex;exact Ry lk hcd S len hbody
variable{LT:Nat->Nat->T->Prop}{W:Wd}{caps:List Nv.P}
theorem Fi.top{c:Ct}(h:Top c c'){l:Nat}(x:Fi c LT W base l caps a):Fi c' LT W base l caps a:=by
 obtain⟨qual,y,fr,as,b,sc,clos,pm,ctv,cc,t,is,r⟩:=x;rw[h.lam as sc]at r;exact⟨qual,y,fr,as,b,sc,clos,pm,ctv,cc,t,is,r⟩
variable{H:Hp}{n:Nat}
theorem Xz{cf:CF}{EX:XP}{vs:List V}{Q:VK}{E:XK}(hup:∀x p σ' H',(∀v,Af W H' p v->E (.ref (W.CD x)) v H')->EX x p σ' H')(hv:vs.length=n)(h:O8 W (DH cf AW ⟨n,n,[.ret t]⟩) vs H Q E):tG W EX (rV W) (ev cf t) (vs.map some) H Q:=by
 have z:=NL (N:=List.replicate n ⟨#[]⟩) (EX:=EX) (fi:=⟨n,n,[.ret t]⟩) (by simp) hv hup h;have e:L2.start (List.replicate n ⟨#[]⟩) vs=vs.map some:=by unfold L2.start;rw[length_replicate,hv,Nat.sub_self,List.replicate_zero,append_nil]
 rw[e]at z
 have z2:tS W EX [] (λρ=>(ev cf t ρ).fl ρ λc=>if c.own then .ret c else .stuck) {nx:=λ_ H'=>Q .A8 H',rt:=Q} (vs.map some) H:=by
  obtain⟨Hin,A0,Bo,ρ,S,hA⟩:=z;refine⟨Hin,A0,Bo,ρ,S,?_⟩;replace hA:Bp W EX Hin A0 Bo [] {nx:=λ_ H'=>Q .A8 H',rt:=Q} (vs.map some) (((ev cf t ρ).fl ρ λc=>if c.own then .ret c else .stuck).then λρ=>.nx ρ):=hA;show Bp W EX Hin A0 Bo [] {nx:=λ_ H'=>Q .A8 H',rt:=Q} (vs.map some) ((ev cf t ρ).fl ρ λc=>if c.own then .ret c else .stuck);generalize ev cf t ρ=r at hA ⊢;cases r with
  |stuck=>exact hA
  |err x p=>exact hA
  |ok c=>
    cases ho:c.own with
    |true=>simp only[Res.fl,ho]at hA ⊢;exact hA
    |false=>simp only[Res.fl,ho]at hA ⊢;exact hA
 exact W5 z2
theorem Ib{own:Nat->Addr->Prop}{bor:Addr->Prop}(is:List Int):∀{j:Nat} {cs:List C} {vs:List V},CC W H own bor j cs vs->CC W H own bor j (cs++(is.map Nv.P.int).map C.p) (vs++is.map V.int)
 | j,[],vs,h=>by
   have h:vs=[]:=h;subst h
   induction is generalizing j with
   |nil=>rfl
   |cons i is ih=>exact⟨.int i,is.map V.int,rfl,(show Af W H (.int i) (.int i)from Ao.mpr rfl),ih (j+1) rfl⟩
 |j,_::_,_,⟨v,r,q,h1,h2⟩=>by subst q;exact⟨v,_,rfl,h1,Ib is h2⟩
theorem ID{base':Heap}(k:∀b o,base.get? b=some o->base'.get? b=some o)(h:base.IsCell c (some u)):base'.IsCell c (some u):=let⟨o,ho,hd⟩:=h;⟨o,k _ _ ho,hd⟩
variable{W':Wd}
theorem Fi.mono{c:Ct}{base':Heap}{l:Nat}(hw:∀q∈W.OX,q∈W'.OX)(k:∀b o,base.get? b=some o->base'.get? b=some o)(x:Fi c LT W base l caps a):Fi c LT W' base' l caps a:=by
 obtain⟨qual,y,fr,as,b,sc,clos,pm,ctv,cc,t,is,h1,h2,h3,h4,h5,h6,h7,h8,h9,h10,h11⟩:=x;exact⟨qual,y,fr,as,b,sc,clos,pm,ctv,cc,t,is,k _ _ h1,hw _ h2,h3,h4,h5,λx c e=>let⟨u,z⟩:=h6 x c e;⟨u,ID k z⟩,h7,h8,λi x n e1 e2=>let⟨c,u,z1,z2,z3⟩:=h9 i x n e1 e2;⟨c,u,z1,ID k z2,z3⟩,h10,h11⟩
theorem VD.trans{W'':Wd}(a:VD W W')(b:VD W' W''):VD W W'':=⟨a.K.trans b.K,a.w.trans b.w,a.CD.trans b.CD,a.tabs.trans b.tabs,a.xh.trans b.xh,λq h=>b.OX q (a.OX q h),λn c d h=>b.fa n c d (a.fa n c d h)⟩
variable{W0:Wd}{nd:Nat}{fad:Nat->Addr}{FD:Nat->FuncData}{PS':Nat->List Str}
theorem Nw{c0:Ct}{fns:List P7}(hw0:W0.w=w)(G:eK K mg W0 nd fad c0)(hnl:nd<=fns.length)(htn:(W0.tabs.map (·.1)).Nodup)(hlt:∀l n t,c0.lt l n t=true->fns[l]? =some ⟨n,n,[.ret t]⟩)
 (D0:∀f fi,f < nd->fns[f]? =some fi->Lm K W0 c0 (fad f) fi (FD f) (PS' f)){k:Nat}(ihg:∀(W:Wd) (base:Heap),Good K mg c0 W0 W base->∀n c a,W.fa n c a->ZG P w K mg base W (AR fns AW k) (2*k+4) n c a)(g:Good K mg c0 W0 W base)(hf:n < nd):
 HF P w K mg base (Xc.Gj P w) (2*(k+1)+4) (fad n) (FD n) (PS' n) (O8 W (AR fns AW (k+1) n))/\(∃o fd,base.get? (fad n)=some o/\o.data= .func fd)/\Binds K (FD n) (PS' n) []:=by
 have ih:=ihg W base g;have hw:W.w=w:=g.st.w▸hw0;have hK:W.K=K:=g.st.K▸G.kk;have hj:2*(k+1)+4=(2*k+4+1)+1:=by lia
 have fs:∀i,i < nd->ZG P w K mg base W (AR fns AW k) (2*k+4) i [] (fad i):=λi hi=>ih i [] (fad i) (g.st.fa _ _ _ ((G.fa _ _ _).mpr ⟨hi,rfl,rfl⟩))
 have hfl:=Nat.lt_of_lt_of_le hf hnl;obtain⟨x,qual,st,ct,F,S,hk,h1,h2,h3,h4,hT,hb,hlam⟩:=(D0 n fns[n] hf (List.getElem?_eq_getElem hfl)).ex
 have ecf:AR fns AW (k + 1) n=DH (AR fns AW k) AW fns[n]:=by
  funext cs
  show(match fns[n]? with|some fi=>DH (AR fns AW k) AW fi cs|none=>.stuck)=_;rw[List.getElem?_eq_getElem hfl]
 have len:∀vs H Q E,O8 W (AR fns AW (k + 1) n) vs H Q E->vs.length=(PS' n).length:=λvs H Q E z=>by
  obtain⟨cs,O,A0,hR,_,q⟩:=z;have hl:=hR.length
  by_cases hl2:cs.length=fns[n].np
  .lia
  .rw[ecf]at q;unfold DH at q;rw[iN hl2]at q;exact q.elim
 have hb0:∃o fd,base.get? (fad n)=some o/\o.data= .func fd:=by
  obtain⟨oc,od,kV,doc,pm,an,cdv,ct,osl,e,lk,_⟩:=F.ex;exact⟨_,_,g.Dn _ _ lk,rfl⟩
 rw[hj];refine⟨SJ.jP F S len λA outer s H vs Q E hr hsp=>?_,hb0,hb⟩;have hvl:=len vs H Q E hsp;rw[ecf]at hsp
 let X:=Mv (Xc.Gj P w) P w K mg base ct.N qual (Aj st) (fad n) (FD n).code A outer s H E
 have L:Br ct X W (T1 X W) (AR fns AW k) (2 * k + 4):=by
  refine⟨hK,hw,rfl,S.nd,by rw[h3];exact cZ.refl _,λ_ _=>rfl,rfl,hr,PassesOwn.leaving,?_,?_,?_,?_,λ_ _ _ _ z=>z,ih,?_,?_,?_,by lia,g.st.xh▸G.xh,λ_=>⟨rfl,rfl,?_,?_⟩⟩
  .rw[hT.gl];intro x c e;obtain⟨u,v,e1,e2,e3⟩:=G.gl x c e;exact⟨u,v,e1,e2,e3 W g.st⟩
  .rw[hT.gl,hT.fns,hT.cls];exact G.own
  .rw[hT.fns];intro x f e;obtain⟨e1,e2⟩:=G.fns x f e;exact⟨fad f,e1,g.st.fa _ _ _ ((G.fa _ _ _).mpr ⟨e2,rfl,rfl⟩),fs f e2⟩
  .rw[hT.cls,<-g.st.CD];exact G.cls
  .intro lp l e;obtain⟨c,Pt,e2,e3,e4⟩:=hlam lp l e;refine⟨⟨c,Pt,e2,e3,(g.blt _ e4).1,(g.blt _ e4).2,g.st.tabs▸e4⟩,g.st.tabs▸htn,λW' base' w1 w2 w3 f a hfa=>?_⟩;refine ihg W' base' ⟨g.st.trans w1,λb o q=>w2 b o (g.Dn b o q),λn c a z=>?_,λq hq=>⟨Sd w2 (g.blt q hq).1,(g.blt q hq).2⟩⟩ f [] a (w1.fa _ _ _ hfa);rcases w3 n c a z with z|z
   .rcases g.fa n c a z with y|y
    .exact .inl y
    .exact .inr (y.mono w1.OX w2)
   .right;have:=z.top hT;rw[hT.lt]at this;exact this
  .rw[hT.Cw,<-g.st.CD];exact G.xk
  .rw[hT.cls,<-g.st.CD];exact G.cK
  .rw[hT.Cw,<-g.st.CD];exact G.hk
  .rw[hT.Cw,hT.cls,<-g.st.CD,show ct.Cr=c0.Cr from funext λx=>by unfold Ct.Cr;rw[hT.sub]];exact G.bm
 exact⟨_,L9 L hk,NL h2 (by lia) (RA rfl rfl rfl λ_ _ z=>z) hsp⟩
theorem Rx{c0:Ct}{fns:List P7}(hw0:W0.w=w)(G:eK K mg W0 nd fad c0)(hnl:nd<=fns.length)(htn:(W0.tabs.map (·.1)).Nodup)(hlt:∀l n t,c0.lt l n t=true->fns[l]? =some ⟨n,n,[.ret t]⟩)
 (D0:∀f fi,f < nd->fns[f]? =some fi->Lm K W0 c0 (fad f) fi (FD f) (PS' f)):
 ∀(k:Nat) (W:Wd) (base:Heap),Good K mg c0 W0 W base->∀n c a,W.fa n c a->ZG P w K mg base W (AR fns AW k) (2*k+4) n c a
 | 0, W,base,g,n,c,a,ha=>by
   refine⟨?_,λA outer s H us vs Q E _ _ _ z=>?_⟩
   .rcases g.fa n c a ha with h|h
    .obtain⟨h1,rfl,rfl⟩:=(G.fa n c a).mp h;have hfl:=Nat.lt_of_lt_of_le h1 hnl;obtain⟨x,qual,st,ct,F,_⟩:=(D0 n fns[n] h1 (List.getElem?_eq_getElem hfl)).ex;obtain⟨oc,od,kV,doc,pm,an,cdv,ct,osl,_,lk,_⟩:=F.ex;exact⟨_,_,g.Dn _ _ lk,rfl⟩
    .obtain⟨qual,y,fr,as,b,sc,clos,pm,ctv,cc,t,is,h1,_⟩:=h;exact⟨_,_,h1,rfl⟩
   .obtain⟨cs,O,A0,_,_,q⟩:=z;exact q.elim
 | k + 1,W,base,g,n,c,a,ha=>by
   have ihg:=Rx hw0 G hnl htn hlt D0 k;have ih:=ihg W base g;have hw:W.w=w:=g.st.w▸hw0;have hK:W.K=K:=g.st.K▸G.kk;have hj:2*(k+1)+4=(2*k+4+1)+1:=by lia
   have fs:∀i,i < nd->ZG P w K mg base W (AR fns AW k) (2*k+4) i [] (fad i):=λi hi=>ih i [] (fad i) (g.st.fa _ _ _ ((G.fa _ _ _).mpr ⟨hi,rfl,rfl⟩))
   rcases g.fa n c a ha with h|h
   .obtain⟨hf,rfl,rfl⟩:=(G.fa n c a).mp h;obtain⟨F,hb0,hb⟩:=Nw hw0 G hnl htn hlt D0 ihg g hf;exact cC hb0 F hb
   .obtain⟨qual,y,fr,as,b,sc,clos,pm,ctv,cc,t,is,hb,hcd,hS,hln,hbind,hcell,rfl,hlen,hv,ht,hLT⟩:=h;refine⟨⟨_,_,hb,rfl⟩,λA outer s H us vs Q E hr e0 rv hsp=>?_⟩;have hLT:=hlt _ _ _ hLT
    have ecf:AR fns AW (k + 1) n=DH (AR fns AW k) AW ⟨(y::fr).length,(y::fr).length,[.ret t]⟩:=by
     funext cs
     show(match fns[n]? with|some fi=>DH (AR fns AW k) AW fi cs|none=>.stuck)=_;rw[hLT]
    rw[ecf]at hsp;obtain⟨cs,O,A0,hR,htb,hq0⟩:=hsp;have hl:=hR.length
    have Cw:cs.length=1:=by
     by_cases hc:(cs++(is.map Nv.P.int).map C.p).length=(y::fr).length
     .simp[hlen]at hc;lia
     .exfalso;have e:DH (AR fns AW k) AW ⟨(y::fr).length,(y::fr).length,[.ret t]⟩ (cs++(is.map Nv.P.int).map C.p)= .stuck:=by unfold DH;exact iN hc
      replace hq0:jc W H A0 (DH (AR fns AW k) AW ⟨(y::fr).length,(y::fr).length,[.ret t]⟩ (cs++(is.map Nv.P.int).map C.p)) Q E:=hq0;rw[e]at hq0;exact hq0
    obtain⟨v0,rfl⟩:∃v0,vs=[v0]:=by
     rcases vs with _|⟨v0,_|⟨_,_⟩⟩
     .simp at hl;lia
     .exact⟨v0,rfl⟩
     .simp at hl;lia
    obtain⟨u0,rfl,r0⟩:=vals1 rv;have hsp:O8 W (DH (AR fns AW k) AW ⟨(y::fr).length,(y::fr).length,[.ret t]⟩) (v0::is.map V.int) H Q E:=⟨_,O,A0,Ib is hR,htb,hq0⟩;have hq:=Xz (EX:=T1 (HA P w K mg base (y::fr) qual sc a (.ref cc) clos A outer s H E) W) (RA (X:=HA P w K mg base (y::fr) qual sc a (.ref cc) clos A outer s H E) rfl rfl rfl λ_ _ z=>z) (by simp[hlen]) hsp
    have hrec:s.heap.CodeRec (.ref cc) qual:=by
     obtain⟨oc,u,us,tk,d1,d2,d3⟩:=htb.2 _ hcd;exact⟨cc,oc,us,tk,rfl,(e0.Aq _ _ d1).1,d2,d3⟩
    rw[hj]at hr
    let X:=HA P w K mg base (y::fr) qual sc a (.ref cc) clos A outer s H E
    have L:Br (c0.lam as sc) X W (T1 X W) (AR fns AW k) (2 * k + 4):=by
     refine⟨hK,hw,hln.symm,hS.nd,cZ.refl _,λz=>(by cases z),rfl,hr.deeper _,PassesOwn.leaving,?_,G.own,?_,?_,λ_ _ _ _ z=>z,ih,λlp l e=>(by cases e),?_,?_,by lia,g.st.xh▸G.xh,λz=>(by cases z)⟩
     .intro x c e;obtain⟨u,v,e1,e2,e3⟩:=G.gl x c e;exact⟨u,v,e1,e2,e3 W g.st⟩
     .intro x f e;obtain⟨e1,e2⟩:=G.fns x f e;exact⟨fad f,e1,g.st.fa _ _ _ ((G.fa _ _ _).mpr ⟨e2,rfl,rfl⟩),fs f e2⟩
     .rw[<-g.st.CD];exact G.cls
     .rw[<-g.st.CD];exact G.xk
     .rw[<-g.st.CD];exact G.cK
    exact UQ e0 hr hS hb hrec (hbind u0) hcell (by simp[hlen]) (λi x v e1 e2=>by
     rw[List.getElem?_map]at e2;obtain⟨m,e3,rfl⟩:=oM e2
     exact hv i x m e1 e3) r0 (FH Jg (sizeOf b) b (lR) L ht).v hq
theorem YX{c0:Ct}{fns:List P7}(hw0:W0.w=w)(G:eK K mg W0 nd fad c0)(hnl:nd<=fns.length)(htn:(W0.tabs.map (·.1)).Nodup)(hlt:∀l n t,c0.lt l n t=true->fns[l]? =some ⟨n,n,[.ret t]⟩)
 (D0:∀f fi,f < nd->fns[f]? =some fi->Lm K W0 c0 (fad f) fi (FD f) (PS' f)){k:Nat}(g:Good K mg c0 W0 W base){f:Nat}(hf:f < nd):HF P w K mg base (Xc.Gj P w) (2*(k+1)+4) (fad f) (FD f) (PS' f) (O8 W (AR fns AW (k+1) f)):=
 (Nw hw0 G hnl htn hlt D0 (Rx hw0 G hnl htn hlt D0 k) g hf).1
end
inductive Each{α:Type}(R:α->Prop):List α->Prop where
 |nil:Each R []
 |cons {a:α} {l:List α} (h:R a) (t:Each R l):Each R (a::l)
theorem Each.mem{R:α->Prop}{l:List α}(h:Each R l):∀a∈l,R a:=by
 induction h with
 |nil=>intro a ha;cases ha
 |cons h t ih=>
   intro a ha;rcases mK ha with z|z
   .rw[z];exact h
   .exact ih a z
theorem Each.look{β:Type}[BEq α][LawfulBEq α]{R:α×β->Prop}{l:List (α×β)}(h:Each R l){a:α}{b:β}(e:l.lookup a=some b):R (a,b):=by
 induction h with
 |nil=>simp at e
 |@cons q l h t ih=>
   rw[show q=(q.1,q.2)from rfl,lookup_cons]at e;cases hq:a == q.1 with
   |true=>
     rw[hq]at e;cases e;rw[eq_of_beq hq];exact h
   |false=>rw[hq]at e;exact ih e
def MQ(n:Nat)(ts:List (Addr×Addr))(K:Frag):Sp:=λvs H Q _=>∃(a:Addr) (ns:List Int),vs=[.ref a]/\(∃o,H a=some (.Dz o (.lst (ns.map V.int))))/\ns.length<=n/\(∀p∈ts,H p.2=some (.JS #[]))/\∀H',Q (.bl true) H'
variable{W:Wd}
theorem Ip:∀(ns:List Int),CU W H (ns.map P.int) (ns.map V.int)
 |[]=>.nil
 |n::ns=>.cons (Ao.mpr rfl) (Ip ns)
variable{n:Nat}
theorem UP{ts:List (Addr×Addr)}(ht:∀q∈W.tabs,∃p∈ts,p.2=q.1)(hc:W.OX=[]){r:List C->Res C}(hr:∀ns:List Int,ns.length<=n->r [.lst false (ns.map .int)]= .ok (.p (.bl true)))(vs:List V)(H:Hp)(Q:VK)(E:XK)(h:MQ n ts W.K vs H Q E):O8 W r vs H Q E:=by
 obtain⟨a,ns,rfl,h1,h2,h3,q⟩:=h;refine⟨[.lst false (ns.map .int)],λ_=>0,λ_=>False,⟨.ref a,[],rfl,⟨a,_,rfl,.inr h1,Ip ns⟩,rfl⟩,⟨λq hq=>?_,λq hq=>by rw[hc]at hq;cases hq⟩,?_⟩
 .obtain⟨p,hp,e⟩:=ht q hq;exact⟨#[],by rw[<-e];exact h3 p hp,trivial,λcv z=>by cases z⟩
 .rw[hr ns h2];intro v H' r1;rw[Ek r1.1];exact q H'
theorem G4{o:α}:∀{l:List (Addr×α)},l.lookup a=some o->(a,o)∈l
 |[],h=>by cases h
 | (b,p)::l,h=>by
   rw[lookup_cons]at h;cases hb:a == b with
   |true=>rw[hb]at h;cases h;rw[eq_of_beq hb];exact mS
   |false=>rw[hb]at h;exact mC (G4 h)
def Ky:Value->Bool
 |.type s=>s == "list"
 |_=>false
theorem OF{P:Program}{w:World}{K:Frag}{mg mb:Str->Option Value}{k:Nat}{fa:Addr}{fd:FuncData}{x:Str}{s₁:Shared}{vs:List Value}{ns:List Int}{ts:List (Addr×Addr)}
 (KX:K.In s₁.heap)(hns:s₁.heap.Ns mainGlobals mg)(hb:s₁.heap.Ns builtinsNs mb)(hbb:∀x:Str,x≠"__name__"->mb x=bootBuiltins x)(hlim:s₁.heap.NoLimit)(hg:s₁.gens= #[])
 (hbm:∃bm ob,mg "__builtins__"=some (.ref bm)/\bm≠builtinsNs/\s₁.heap.get? bm=some ob/\ob.cls= .type "module"/\ob.dict=some builtinsNs/\ob.data= .plain)
 (hT:∀p∈ts,s₁.heap.get? p.2=some (tabObj #[])/\codeHdIn K p.1 p.2=true/\K.lookup p.2=none)
 (ha:s₁.heap.get? a=some {cls:=.type "list",data:=.seq vs.toArray})(hi:IntsAre vs ns)(hl:ns.length<=sizeLine)(hln:ns.length<=n)(hr:Cm k callerA)(hkl:∀a o,K.lookup a=some o->Ky o.cls=false)
 (F:∀base:Heap,K.In base->base.Ns mainGlobals mg->(∀p∈ts,base.BuiltinsAt mg p.2/\mainGlobals≠p.2)->HF P w K mg base (Xc.Gj P w) k fa fd [x] (MQ n ts K))(hbind:∀(s:Shared) (u:Value),BindsTo s fd ⟨[u],[]⟩ [(x,u)]):
 codeAny (model P w) callerA (.call (.ref fa) ⟨[.ref a],[]⟩) (λr s'=>r= .ok (.ret (.bool true))/\OldK s₁.heap s'.heap/\s'.os=s₁.os/\AllBare s'.gens) s₁:=by
 have rv:=HW hi;have lenV:=hi.length
 have haT:∀p∈ts,p.2≠a:=λp hp z=>by
  have:=(hT p hp).1;rw[z,ha]at this;cases this
 have core : ∀H:Hp,(∃o,H a=some (.Dz o (.lst (ns.map V.int))))->DV P w H s₁.heap->(∀p∈ts,H p.2=some (.JS #[]))->(∀b,H b≠none->(b=a/\∃o xs,H b=some (.Dz o (.lst xs)))\/∃p∈ts,p.2=b)->(H a≠none->K.lookup a=none)->
  codeAny (model P w) callerA (.call (.ref fa) ⟨[.ref a],[]⟩) (λr s'=>r= .ok (.ret (.bool true))/\OldK s₁.heap s'.heap/\s'.os=s₁.os/\AllBare s'.gens) s₁:=by
  intro H hS Aq hTb hA hK;have base_of:∀{b:Addr} {o:Obj},s₁.heap.get? b=some o->H b=none->(HP s₁.heap H).get? b=some o:=λe n=>Rm e n
  have noT:∀{b:Addr} {o:Obj},s₁.heap.get? b=some o->(∀vs,o.data≠.seq vs)->(∀vs,o.data≠.fields vs)->H b=none:=λ{b o} e d1 d2=>by
   cases q:H b with
   |none=>rfl
   |some u=>
     rcases hA b (by rw[q];simp)with⟨z,_⟩|⟨p,hp,z⟩
     .subst z;rw[ha]at e;cases e;exact absurd rfl (d1 _)
     .subst z;rw[(hT p hp).1]at e;cases e;exact absurd rfl (d2 _)
  have nsK:∀{b:Addr} {m:Str->Option Value},s₁.heap.Ns b m->(HP s₁.heap H).Ns b m:=λ{b m} ⟨o,es,ep,e,d,r⟩=>⟨o,es,ep,base_of e (noT e (λ_ z=>by rw[d]at z;cases z) λ_ z=>by rw[d]at z;cases z),d,r⟩
  have hKb:K.In (HP s₁.heap H):=λb o e=>base_of (KX b o e) (by
   cases q:H b with
   |none=>rfl
   |some u=>
     rcases hA b (by rw[q];simp)with⟨z,_⟩|⟨p,hp,z⟩
     .subst z;rw[hK (by rw[q];simp)]at e;cases e
     .subst z
      rw[(hT p hp).2.2]at e;cases e)
  have hM:Mod K mg (HP s₁.heap H):=⟨hKb,nsK hns,⟨mb,nsK hb,hbb⟩,let⟨mc,h1,h2⟩:=hlim;⟨mc,nsK h1,h2⟩⟩;have e0:JQ P w K mg (HP s₁.heap H) callerA [] s₁ H:=⟨rfl,hM,λb o e=>Up e,Nat.le_of_eq (OL _ _),trivial,λb hb=>absurd (show b∈([]:List Addr)from hb) (by simp),Aq,.of_eq hg⟩
  have hBl:∀p∈ts,(HP s₁.heap H).BuiltinsAt mg p.2/\mainGlobals≠p.2:=λp hp=>by
   obtain⟨bm,ob,b1,b2,b3,b4,b5,b6⟩:=hbm;obtain⟨og,es,ep,g1,g2,_⟩:=hns;refine⟨⟨bm,ob,b1,b2,λz=>?_,λz=>?_,base_of b3 (noT b3 (λ_ z=>by rw[b6]at z;cases z) λ_ z=>by rw[b6]at z;cases z),b4,b5,b6⟩,λz=>?_⟩
   .rw[z,g1]at b3;cases b3;rw[b6]at g2;cases g2
   .rw[z,(hT p hp).1]at b3;cases b3;cases b6
   .rw[z,(hT p hp).1]at g1;cases g1;cases g2
  refine codeAny_mono ((F _ hKb (nsK hns) hBl).run callerA [] s₁ H ⟨[.ref a],[]⟩ [.ref a] [.ref a] (λv _=>v= .bl true) E0 hr e0 (hbind s₁ (.ref a)) (.cons rfl .nil) ⟨a,ns,rfl,hS,hln,hTb,λ_=>rfl⟩) λr s' h=>?_
  cases r with
  |error e=>obtain⟨_,_,_,_,_,_,_,_,_,_,_,_,_,_,_,_,q⟩:=h;exact False.elim q
  |ok fl =>
    cases fl with
    |next=>exact False.elim h
    |brk=>exact False.elim h
    |cont=>exact False.elim h
    |ret u =>
      obtain⟨v,H',os,bare,un,hok',r',q⟩:=h;have q':v= .bl true:=q;subst q';obtain rfl:u=Value.bool true:=r'
      have old:∀b o,s₁.heap.get? b=some o->asItWas s₁.heap s'.heap b o:=λb o e=>by
       cases q:H b with
       |none=>exact .inl (un.keep b o e q (by intro z;exact absurd (show b∈([]:List Addr)from z) (by simp)) (by simp))
       |some u=>
         rcases hA b (by rw[q];simp)with⟨_,ob,xs,z⟩|⟨p,hp,z⟩
         .have z2:=un.EW b ob _ z;obtain⟨e1,_⟩:=Aq b _ z;obtain⟨e2,_⟩:=hok' b _ z2;rw[e]at e1;cases e1;exact .inl e2
         .subst z;obtain⟨h1,h2,h3⟩:=hT p hp;rw[h1]at e;cases e;obtain⟨more,e2⟩:=un.EA p.2 #[] (hTb p hp);have e3:s'.heap.get? p.2=some {cls:=.none,data:=.fields (#[]++more)}:=hok' p.2 _ e2;obtain⟨oc,vs',_,_,_,_,_,_,_,c1,c2,c3,c4,_⟩:=codeHd_of_K KX h2;exact .inr (.inl ⟨⟨p.1,oc,vs',c1,c2,c3,c4⟩,rfl,#[],more,rfl,e3⟩)
      refine⟨rfl,⟨old,λb o e=>?_⟩,os,bare⟩;rcases old b o e with z|⟨_,_,vs,more,_,z⟩|⟨_,_,⟨o',_,_,z,_⟩,_⟩
      .exact⟨_,z⟩
      .exact⟨_,z⟩
      .exact⟨_,z⟩
 have tabOk:∀(H:Hp) p,p∈ts->BD P w H s₁.heap p.2 (.JS #[]):=λH p hp=>(hT p hp).1
 by_cases hk:K.lookup a=none
 .refine core (λb=>if b∈ts.map (·.2)then some (.JS #[])else if b=a then some (.Dz {cls:=.type "list",data:=.seq vs.toArray} (.lst (ns.map V.int)))else none) ?_ (λb u z=>?_) (λp hp=>iP (mem_map_of_mem hp)) (λb hb=>?_) λ_=>hk
  .refine⟨{cls:=.type "list",data:=.seq vs.toArray},?_⟩;refine(iN λz=>?_).trans (iP rfl);obtain⟨p,hp,e⟩:=mem_map.mp z;exact haT p hp e
  .by_cases hb:b∈ts.map (·.2)
   .have z':=(iP hb).symm.trans z;cases z';obtain⟨p,hp,e⟩:=mem_map.mp hb;rw[<-e];exact tabOk _ p hp
   .by_cases hba:b=a
    .have z':=((iN hb).trans (iP hba)).symm.trans z;cases z';subst hba;exact⟨ha,by rw[lM];exact hl,vs,_,rv,ha⟩
    .have z':=((iN hb).trans (iN hba)).symm.trans z;cases z'
  .by_cases hbt:b∈ts.map (·.2)
   .obtain⟨p,hp,e⟩:=mem_map.mp hbt;exact .inr ⟨p,hp,e⟩
   .by_cases hba:b=a
    .refine .inl ⟨hba,_,_,(iN hbt).trans (iP hba)⟩
    .exact absurd ((iN hbt).trans (iN hba)) hb
 .obtain⟨o,hko⟩:∃o,K.lookup a=some o:=by
   cases q:K.lookup a with
   |none=>exact absurd q hk
   |some o=>exact⟨o,rfl⟩
  have e:=KX a o hko;rw[ha]at e;cases e;exact absurd (hkl a _ hko) (by simp[Ky])
theorem walk{l:PySem.W.OpenLaw}{q:Program}{loose:List Str}{XP:(Str->Option Value)->Heap->Prop}{YP:World->Heap->Prop}{d:DefRec}{K:Params->Frag}(n:Nat)(k:Nat)(ts:List (Addr×Addr))(hn:l.most=some n)(hz:n<=sizeLine)(hdf:d.params.defaults=[])(hr:Cm k callerA)
 (hY:∀(w:World) (h:Heap),YP w h->(K w.params).In h)(hT:∀(w:World) (h:Heap),YP w h->∀p∈ts.map (·.2),h.get? p=some (tabObj #[]))
 (F:∀(w:World) (mg:Str->Option Value) (fa:Addr) (h:Heap),(K w.params).In h->h.Ns mainGlobals mg->mg d.name=some (.ref fa)->
   (∀a o,(K w.params).lookup a=some o->Ky o.cls=false)/\(∀p∈ts,codeHdIn (K w.params) p.1 p.2=true/\(K w.params).lookup p.2=none)/\
   ∃fd:FuncData,(∀(s:Shared) (u:Value),BindsTo s fd ⟨[u],[]⟩ [("_law_script",u)])/\∀base:Heap,(K w.params).In base->base.Ns mainGlobals mg->(∀p∈ts,base.BuiltinsAt mg p.2/\mainGlobals≠p.2)->HF l.prog w (K w.params) mg base (Xc.Gj l.prog w) k fa fd ["_law_script"] (MQ n ts (K w.params))):
 PySem.W.WalkO q loose XP YP l.row.toRowW d [] (λf vs=>PySem.call f vs):=by
 refine Att.Lh hn hdf λw s₀ s₁ mg mb fa o pm cd doc a vs ns G Y ho hd hcd hmg hobj hints hlen hg=>?_
 have KX:=hY w _ Y;obtain⟨hkl,hC,fd,hb,hF⟩:=F w mg fa _ KX G.T.g hmg;exact OF KX G.T.g G.T.b G.T.builtins G.T.nolimit hg G.T.bmain (λp hp=>⟨hT w _ Y p.2 (mem_map_of_mem hp),hC p hp⟩) hobj hints (Nat.le_trans hlen hz) hlen hr hkl hF hb
end Nv
namespace Nv
open PySem
mutual
def RS:Expr->Option P
 | .Constant c _ _=>match c with
   |.none=>some .A8
   |.bool b=>some (.bl b)
   |.int i=>some (.int i)
   |.str x=>some (.str x)
   |_=>none
 |.Tuple es _ _=>(EY es).map .tup
 |_=>none
def EY:List Expr->Option (List P)
 |[]=>some []
 |e::es=>(RS e).bind λp=>(EY es).map λps=>p::ps
end
def Zb:Expr->Option C
 |.Dict ks vs _=>(ks.mapM id).bind λks=>(EY ks).bind λa=>(EY vs).map λb=>.BC false (a.zip b)
 |.List es _=>(EY es).map λps=>.lst false ps
 |e=>(RS e).map .p
def iW:Stmt->Str
 |.FunctionDef n ..=>n
 |_=>⟨#[]⟩
def Mu:Stmt->Scope
 |.FunctionDef _ _ _ _ _ _ sc ..=>sc
 |_=>⟨.module,[],false,false,[]⟩
def RP:Stmt->List Stmt
 |.FunctionDef _ _ b ..=>b
 |_=>[]
def Hz:Stmt->List Str
 |.FunctionDef _ a ..=>a.args.map (·.arg)
 |_=>[]
def YQ:List Stmt->List (Str×C)
 |[]=>[]
 | .Assign [.Name x _] e _::r=>match Zb e with
   |some p=>(x,p)::YQ r
   |none=>YQ r
 |_::r=>YQ r
def namesOf(st:Stmt):List Str:=
 let ps:=Hz st
 ps++((Mu st).names.filter λq=>(q.2 == .local || q.2 == .cell) && !ps.contains q.1).map (·.1)
def bW:Expr->List (Pos×Arguments×Expr×Scope)
 |.Call _ [_,.Lambda a b sc p] _ _=>[(p,a,b,sc)]
 |_=>[]
def bV:Stmt->List (Pos×Arguments×Expr×Scope)
 |.Return (some e) _=>bW e
 |_=>[]
def Za(st:Stmt)(fn:List (Str×Nat))(cl:List (Str×Nat))(sub:List (Str×List Nat))(gl:List (Str×C))(lm:List (Pos×Nat))(lt:Nat->Nat->T->Bool):Ct:=⟨namesOf st,Mu st,fn,cl,sub,gl,true,(cl.lookup ("NoProgram":Str)).toList,lm,lt⟩
def fX(st:Stmt)(ct:Ct):Option P7:=(UT ct (RP st)).map λb=>⟨(Hz st).length,ct.N.length,b⟩
end Nv
namespace Lk10
open PySem L2 Nv PyProof.Rows
def bd(i:Nat):Stmt:=PySem.Challenge.pw_kinddeeds_k10_rows_checked.main.body.getD i (.Pass ⟨0,0,0,0⟩)
noncomputable def dC:List Stmt:=[bd 18,bd 19,bd 20,bd 21,bd 22,bd 23,bd 24,bd 31,bd 32,bd 33,bd 34,bd 35,bd 36,bd 37,bd 38,bd 39,bd 40,bd 41,bd 42,bd 43,bd 44,bd 45,bd 46,bd 47,bd 48,bd 49,bd 50,bd 52,bd 53,bd 54,bd 55,bd 56,bd 57,bd 58,bd 59,bd 60,bd 61,bd 62,bd 63,bd 64,bd 65,bd 66,bd 67,bd 68,bd 69,bd 70,bd 71,bd 72,bd 73,bd 74,bd 75]
def st(i:Nat):Stmt:=dC.getD i (.Pass ⟨0,0,0,0⟩)
noncomputable def tf:List (Str×Nat):=[(("is_name":Str),0),(("is_whole":Str),1),(("is_open_kind":Str),2),(("has_made_form":Str),3),(("is_kind":Str),4),(("kinds_within":Str),5),(("opens_of":Str),6),(("is_form_name":Str),7),(("is_number":Str),8),(("is_few":Str),9),(("is_few_of":Str),10),(("is_unlike_names":Str),11),(("is_one_to_four":Str),12),(("has_sort":Str),13),(("has_arm_form":Str),14),(("has_node_form":Str),15),(("node_parts":Str),16),(("is_expression":Str),17),(("is_kind_below":Str),18),(("is_few_kinds":Str),19),(("is_form":Str),20),(("is_kind_row":Str),21),(("is_deed_row":Str),22),(("is_need":Str),23),(("is_body_row":Str),24),(("is_row":Str),25),(("checked":Str),26),(("_law_mixed":Str),27),(("_law_names":Str),28),(("_law_form_names":Str),29)]++[(("_law_kind":Str),30),(("_law_expression":Str),31),(("_law_kind_rows":Str),32),(("_law_class_rows":Str),33),(("_law_deed_rows":Str),34),(("_law_needs":Str),35),(("_law_house_rows":Str),36),(("_law_body_rows":Str),37),(("_law_turned":Str),38),(("_law_world":Str),39),(("_law_deep":Str),40),(("_law_wide_by_one":Str),41),(("_law_bad_names":Str),42),(("_law_bad_name":Str),43),(("_law_bad_kind":Str),44),(("_law_bad_forms":Str),45),(("_law_bad_expression":Str),46),(("_law_bad_field":Str),47),(("_law_spoilt":Str),48),(("_law_refused":Str),49),(("law":Str),50)]
noncomputable def tc:List (Str×Nat):=[(("DeedsError":Str),0),(("NoProgram":Str),1),(("Twice":Str),2),(("NoSuch":Str),3),(("Miscount":Str),4),(("Ring":Str),5),(("Open":Str),6),(("Lacks":Str),7),(("NoHouse":Str),8),(("Unfit":Str),9),(("TooGreat":Str),10),(("TooLong":Str),11),(("NoWords":Str),12)]
noncomputable def ts:List (Str×List Nat):=[(("DeedsError":Str),[0,1,2,3,4,5,6,7,8,9,10,11,12]),(("NoProgram":Str),[1]),(("Twice":Str),[2]),(("NoSuch":Str),[3]),(("Miscount":Str),[4]),(("Ring":Str),[5]),(("Open":Str),[6]),(("Lacks":Str),[7]),(("NoHouse":Str),[8]),(("Unfit":Str),[9]),(("TooGreat":Str),[10]),(("TooLong":Str),[11]),(("NoWords":Str),[12])]
def Hi:List (Nv.P×Nv.P):=[(.str "kind",.int 4),(.str "class",.int 3),(.str "deed",.int 5),(.str "once",.int 4),(.str "house",.int 4),(.str "does",.int 6),(.str "def",.int 4),(.str "ask",.int 2)]
noncomputable def tg:List (Str×Nv.C):=[(("MOST_LETTERS":Str),.p (.int 8)),(("MOST_PARTS":Str),.p (.int 3)),(("MOST_SIZE":Str),.p (.int 24)),(("MOST_ROWS":Str),.p (.int 40)),(("MOST_NODES":Str),.p (.int 40)),(("MOST_ABOVE":Str),.p (.int 11)),(("MOST_FORMS":Str),.p (.int 4)),(("LENGTHS":Str),.BC false Hi)]
def ZP:Nv.T->Nat->Bool
 |.var i,j=>i == j
 |_,_=>false
def lt(l m:Nat):Nv.T->Bool
 |.call f xs=>l == 51 && m == 2 && f == 18 && xs.length == 2 && (xs[0]?).any (ZP · 0) && (xs[1]?).any (ZP · 1)
 |_=>false
def c0:Ct:=⟨[],⟨.module,[],false,false,[]⟩,tf,tc,ts,tg,false,(tc.lookup ("NoProgram":Str)).toList,[],lt⟩
def lm(i:Nat):List (Pos×Nat):=((RP (st i)).flatMap bV).map λq=>(q.1,51)
def bX:P7:=⟨2,2,[.ret (.call 18 [.var 0,.var 1])]⟩
def fnAt(i:Nat):P7:=(fX (st i) (Za (st i) tf tc ts tg (lm i) lt)).getD ⟨0,0,[]⟩
def fns:List P7:=(List.range 51).map fnAt++[bX]
theorem Rc{t:Nv.T}{j:Nat}(h:ZP t j=true):t= .var j:=by
 cases t with
 |var i=>rw[show i=j from by simpa[ZP]using h]
 |_=>cases h
theorem bR(l m:Nat)(t:Nv.T)(h:lt l m t=true):fns[l]? =some ⟨m,m,[.ret t]⟩:=by
 cases t with
 |call f xs=>
   simp only[lt,bA,beq_iff_eq]at h;obtain⟨⟨⟨⟨⟨rfl,rfl⟩,rfl⟩,hl⟩,h1⟩,h2⟩:=h;rcases xs with _|⟨a,_|⟨b,_|⟨_,_⟩⟩⟩
   .cases hl
   .cases hl
   .have e1:ZP a 0=true:=h1;have e2:ZP b 1=true:=h2;cases Rc e1;cases Rc e2;rfl
   .simp at hl
 |_=>cases h
def cM(C:Addr)(bm:List Value):Bool:=bm.contains (.type "ValueError") && bm.contains (.type "BaseException") && !bm.contains (.type "AttributeError") && !bm.contains (.type "NameError") && Xc.Qw (.ref C::bm)
abbrev jZ(nm q:Str)(c N:Addr)(bs bm:List Value)(hdct:Bool)(sn:List Str)(sub:List Value)(ab:Bool)(col:Option Bool)(dd:Option Addr)(k0 k1 k2 k3 k5:Option Value):Obj:=excClassObj nm q c N bs bm hdct sn sub ab col dd k0 k1 k2 k3 k5 "ValueError.__new__"
structure Xo(K:Frag)(c:Addr)(bm:List Value):Prop where
 l:∃nm q N bs hdct sn sub ab col dd k0 k1 k2 k3 k5,List.lookup c K=some (jZ nm q c N bs bm hdct sn sub ab col dd k0 k1 k2 k3 k5)
 b:cM c bm=true
theorem BG{K:Frag}{bm:List Value}(x:Xo K c bm):(∀h:Heap,K.In h->Xc.Fh h c bm)/\Xc.Kf K c=true:=by
 obtain⟨⟨nm,q,N,bs,hdct,sn,sub,ab,col,dd,k0,k1,k2,k3,k5,x1⟩,x2⟩:=x;unfold cM at x2;rw[bA,bA,bA,bA]at x2;obtain⟨⟨⟨⟨y1,y2⟩,y3⟩,y4⟩,y5⟩:=x2;refine⟨λh X=>⟨⟨_,_,_,_,_,_,_,_,_,_,_,_,_,_,_,X _ _ x1⟩,y1,y2,by simpa using y3,by simpa using y4⟩,?_⟩;unfold Xc.Kf clsIn;rw[x1];exact y5
theorem US{K:Frag}{C:Addr}(h:hasDictIn K n=true/\typeIn K (.ref n)=some (.type "type")/\subIn K (.ref C) (.ref n)=some true/\(C == n)=false):kitOne K (.ref C) (.ref n)=some true:=by
 obtain⟨h1,h2,h3,h4⟩:=h;unfold kitOne;rw[iN (by simpa using h4)];unfold kitCls;obtain⟨cd,hc,_⟩:=PySem.W.any_some h1;simp[hc,h2,h3]
theorem R0{K:Frag}{C:Addr}:kitOne K (.ref C) (.ref C)=some true:=by
 unfold kitOne;rw[iP (by simp)]
theorem Yw{K:Frag}{C:Addr}(h3:subIn K (.ref C) (.type "ValueError")=some true):kitOne K (.ref C) (.type "ValueError")=some true:=by
 unfold kitOne;rw[iN (by simp)];unfold kitCls;have:PySem.W.kitMeta "ValueError"=true:=by decide +kernel
 simp[this,h3]
structure Tp(K:Frag)(x:Str)(i:Nat)(f:Addr)(d:FuncData):Prop where
 a:nsIn K mainGlobals x=some (some (.ref f))
 l:SJ K x x (st i) f d
variable{h:Heap}{mg:Str->Option Value}
theorem av{K:Frag}{i:Nat}{d:FuncData}(X:K.In h)(G:h.Ns mainGlobals mg)(s:Tp K x i f d)(hl:i < 51):mg x=some (.ref f)/\i < 51:=⟨mg_of X G s.a,hl⟩
abbrev QT(w:World)(k0 v0 k1 v1 k2 v2 k3 v3 k4 v4 k5 v5 k6 v6 k7 v7:Tok):List DictEntry:=[⟨hashStr w "kind",.str "kind" k0,.int 4 v0⟩,⟨hashStr w "class",.str "class" k1,.int 3 v1⟩,⟨hashStr w "deed",.str "deed" k2,.int 5 v2⟩,⟨hashStr w "once",.str "once" k3,.int 4 v3⟩,⟨hashStr w "house",.str "house" k4,.int 4 v4⟩,⟨hashStr w "does",.str "does" k5,.int 6 v5⟩,⟨hashStr w "def",.str "def" k6,.int 4 v6⟩,⟨hashStr w "ask",.str "ask" k7,.int 2 v7⟩]
variable{W:Wd}
theorem UM{H:Hp}{a:Addr}{k0 v0 k1 v1 k2 v2 k3 v3 k4 v4 k5 v5 k6 v6 k7 v7:Tok}(sm:(a == sysModules)=false):JR W H a Hi (QT W.w k0 v0 k1 v1 k2 v2 k3 v3 k4 v4 k5 v5 k6 v6 k7 v7):=by
 refine⟨?_,by decide +kernel,by decide +kernel,by decide,sm⟩;have one:∀(k:Str) (v:Int) (t u:Tok),Fg W H (.str k,.int v) ⟨hashStr W.w k,.str k t,.int v u⟩:=λk v t u=>⟨rfl,⟨.str k,⟨t,rfl⟩,By.mpr rfl⟩,.int v,⟨u,rfl⟩,Ao.mpr rfl⟩
 exact(.cons (one _ _ _ _) (.cons (one _ _ _ _) (.cons (one _ _ _ _) (.cons (one _ _ _ _) (.cons (one _ _ _ _) (.cons (one _ _ _ _) (.cons (one _ _ _ _) (.cons (one _ _ _ _) .nil))))))))
theorem Z6{K:Frag}{i:Nat}{fd:FuncData}(F:SJ K x x (st i) f fd)(S:Dv (Nv.namesOf (st i)) (Hz (st i)) (Aj (st i)))(hs:(fX (st i) (Za (st i) tf tc ts tg (lm i) lt)).isSome=true)
 (h:∀(kV doc pm:Value) (an:Option Addr) (cdv ct:Value) (us:List Value),us.length=(Hz (st i)).length->bindArgs (fnOf x x (JD (st i)) (CB (st i)) (Aj (st i)) .none kV doc pm an cdv ct) ⟨us,[]⟩=pure ((Hz (st i)).zip us))(e1:RP (st i)=CB (st i))(e2:Mu (st i)=Aj (st i))
 (hl:∀lp l,(lm i).lookup lp=some l->∃c P,fd.code= .ref c/\codeHdIn K c P=true/\(P,lp,(x++".<locals>.")++"<lambda>")∈W.tabs):Lm K W c0 f (fnAt i) fd (Hz (st i)):=by
 obtain⟨fi,hfi⟩:=Option.isSome_iff_exists.mp hs;have e:fnAt i=fi:=by unfold fnAt;rw[hfi];rfl
 rw[e];unfold fX at hfi;obtain⟨b,hb',rfl⟩:=oM hfi;exact⟨x,x,st i,Za (st i) tf tc ts tg (lm i) lt,F,S,by rw[<-e1];exact hb',rfl,rfl,e2,rfl,⟨rfl,rfl,rfl,rfl,rfl,rfl⟩,F.binds h,hl⟩
theorem all_mk{l:PySem.W.OpenLaw}{w:World}{K:Frag}{fa c_0 c_1 c_2 c_3 c_4 c_5 c_6 c_7 c_8 c_9 c_10 c_11 c_12 aL ccL cpL fx:Addr}{d0 d1 d2 d3 d4 d5 d6 d7 d8 d9 d10 d11 d12 d13 d14 d15 d16 d17 d18 d19 d20 d21 d22 d23 d24 d25 d26 d27 d28 d29 d30 d31 d32 d33 d34 d35 d36 d37 d38 d39 d40 d41 d42 d43 d44 d45 d46 d47 d48 d49 d50 dx:FuncData}{bm0 bm1 bm2 bm3 bm4 bm5 bm6 bm7 bm8 bm9 bm10 bm11 bm12:List Value}{t0 t1 t2 t3 t4 t5 t6:Tok}{kt0 vt0 kt1 vt1 kt2 vt2 kt3 vt3 kt4 vt4 kt5 vt5 kt6 vt6 kt7 vt7:Tok}{ep:Nat}
 (hlaw:∀ns:List Int,ns.length<=63->AR fns AW 98 50 [.lst false (ns.map .int)]= .ok (.p (.bl true)))(X:K.In h)(G:h.Ns mainGlobals mg)(hfa:mg "law"=some (.ref fa))
 (kl:K.all (λq=>!Ky q.2.cls)=true)
 (ac0:nsIn K mainGlobals "DeedsError"=some (some (.ref c_0)))(x0:Xo K c_0 bm0)
 (ac1:nsIn K mainGlobals "NoProgram"=some (some (.ref c_1)))(x1:Xo K c_1 bm1)
 (ac2:nsIn K mainGlobals "Twice"=some (some (.ref c_2)))(x2:Xo K c_2 bm2)
 (ac3:nsIn K mainGlobals "NoSuch"=some (some (.ref c_3)))(x3:Xo K c_3 bm3)
 (ac4:nsIn K mainGlobals "Miscount"=some (some (.ref c_4)))(x4:Xo K c_4 bm4)
 (ac5:nsIn K mainGlobals "Ring"=some (some (.ref c_5)))(x5:Xo K c_5 bm5)
 (ac6:nsIn K mainGlobals "Open"=some (some (.ref c_6)))(x6:Xo K c_6 bm6)
 (ac7:nsIn K mainGlobals "Lacks"=some (some (.ref c_7)))(x7:Xo K c_7 bm7)
 (ac8:nsIn K mainGlobals "NoHouse"=some (some (.ref c_8)))(x8:Xo K c_8 bm8)
 (ac9:nsIn K mainGlobals "Unfit"=some (some (.ref c_9)))(x9:Xo K c_9 bm9)
 (ac10:nsIn K mainGlobals "TooGreat"=some (some (.ref c_10)))(x10:Xo K c_10 bm10)
 (ac11:nsIn K mainGlobals "TooLong"=some (some (.ref c_11)))(x11:Xo K c_11 bm11)
 (ac12:nsIn K mainGlobals "NoWords"=some (some (.ref c_12)))(x12:Xo K c_12 bm12)
 (s0:Tp K "is_name" 0 f0 d0)
 (s1:Tp K "is_whole" 1 f1 d1)
 (s2:Tp K "is_open_kind" 2 f2 d2)
 (s3:Tp K "has_made_form" 3 f3 d3)
 (s4:Tp K "is_kind" 4 f4 d4)
 (s5:Tp K "kinds_within" 5 f5 d5)
 (s6:Tp K "opens_of" 6 f6 d6)
 (s7:Tp K "is_form_name" 7 f7 d7)
 (s8:Tp K "is_number" 8 f8 d8)
 (s9:Tp K "is_few" 9 f9 d9)
 (s10:Tp K "is_few_of" 10 f10 d10)
 (s11:Tp K "is_unlike_names" 11 f11 d11)
 (s12:Tp K "is_one_to_four" 12 f12 d12)
 (s13:Tp K "has_sort" 13 f13 d13)
 (s14:Tp K "has_arm_form" 14 f14 d14)
 (s15:Tp K "has_node_form" 15 f15 d15)
 (s16:Tp K "node_parts" 16 f16 d16)
 (s17:Tp K "is_expression" 17 f17 d17)
 (s18:Tp K "is_kind_below" 18 f18 d18)
 (s19:Tp K "is_few_kinds" 19 f19 d19)
 (s20:Tp K "is_form" 20 f20 d20)
 (s21:Tp K "is_kind_row" 21 f21 d21)
 (s22:Tp K "is_deed_row" 22 f22 d22)
 (s23:Tp K "is_need" 23 f23 d23)
 (s24:Tp K "is_body_row" 24 f24 d24)
 (s25:Tp K "is_row" 25 f25 d25)
 (s26:Tp K "checked" 26 f26 d26)
 (s27:Tp K "_law_mixed" 27 f27 d27)
 (s28:Tp K "_law_names" 28 f28 d28)
 (s29:Tp K "_law_form_names" 29 f29 d29)
 (s30:Tp K "_law_kind" 30 f30 d30)
 (s31:Tp K "_law_expression" 31 f31 d31)
 (s32:Tp K "_law_kind_rows" 32 f32 d32)
 (s33:Tp K "_law_class_rows" 33 f33 d33)
 (s34:Tp K "_law_deed_rows" 34 f34 d34)
 (s35:Tp K "_law_needs" 35 f35 d35)
 (s36:Tp K "_law_house_rows" 36 f36 d36)
 (s37:Tp K "_law_body_rows" 37 f37 d37)
 (s38:Tp K "_law_turned" 38 f38 d38)
 (s39:Tp K "_law_world" 39 f39 d39)
 (s40:Tp K "_law_deep" 40 f40 d40)
 (s41:Tp K "_law_wide_by_one" 41 f41 d41)
 (s42:Tp K "_law_bad_names" 42 f42 d42)
 (s43:Tp K "_law_bad_name" 43 f43 d43)
 (s44:Tp K "_law_bad_kind" 44 f44 d44)
 (s45:Tp K "_law_bad_forms" 45 f45 d45)
 (s46:Tp K "_law_bad_expression" 46 f46 d46)
 (s47:Tp K "_law_bad_field" 47 f47 d47)
 (s48:Tp K "_law_spoilt" 48 f48 d48)
 (s49:Tp K "_law_refused" 49 f49 d49)
 (s50:Tp K "law" 50 f50 d50)
 (kL:d19.code= .ref ccL)(hL:codeHdIn K ccL cpL=true)(uL:K.lookup cpL=none)
 (y3:keepIn K (.ref c_1)=true)(y4:findIn K (.ref c_1) "__init__"=some (some (.ref fx)))(y5:isFn K (.ref fx)=true)(y6:findIn K (.ref c_1) "__setattr__"=some (some (.builtin "object.__setattr__")))(y7:takerIn K c_1 "place"=some none)(y8:hasDictIn K c_1=true)(y9:SJ K "__init__" "DeedsError.__init__" (L2.inClass (bd 1) 0) fx dx)
 (w4:findIn K (.ref c_1) "__getattribute__"=some (some (.builtin "BaseException.__getattribute__")))(w5:findIn K (.ref c_1) "__getattr__"=some none)(w6:mroIn K c_1 (.type "BaseException")=some true)(w7:findIn K (.ref c_1) "place"=some none)
 (w8:findIn K (.ref c_1) "__class__"=some (some (.builtin "object.__class__")))(w9:specialIn K (.builtin "object.__class__") "__get__"=some (some (.builtin "getset_descriptor.__get__")))(wa:takesIn K (.builtin "object.__class__")=some true)(wb:mroIn K c_1 (.type "object")=some true)(wc:subIn K (.ref c_1) (.type "ValueError")=some true)
 (wd:hasDictIn K c_0=true/\typeIn K (.ref c_0)=some (.type "type")/\subIn K (.ref c_1) (.ref c_0)=some true/\(c_1 == c_0)=false)
 (v0:(Value.ref c_1::bm1).contains (.ref c_0)=true)
 (v1:(Value.ref c_1::bm1).contains (.ref c_1)=true)
 (v2:(Value.ref c_1::bm1).contains (.ref c_2)=false)
 (v3:(Value.ref c_1::bm1).contains (.ref c_3)=false)
 (v4:(Value.ref c_1::bm1).contains (.ref c_4)=false)
 (v5:(Value.ref c_1::bm1).contains (.ref c_5)=false)
 (v6:(Value.ref c_1::bm1).contains (.ref c_6)=false)
 (v7:(Value.ref c_1::bm1).contains (.ref c_7)=false)
 (v8:(Value.ref c_1::bm1).contains (.ref c_8)=false)
 (v9:(Value.ref c_1::bm1).contains (.ref c_9)=false)
 (v10:(Value.ref c_1::bm1).contains (.ref c_10)=false)
 (v11:(Value.ref c_1::bm1).contains (.ref c_11)=false)
 (v12:(Value.ref c_1::bm1).contains (.ref c_12)=false)
 (z:Each (λx=>nsIn K mainGlobals x=some none) JK)
 (g0:nsIn K mainGlobals "MOST_LETTERS"=some (some (.int 8 t0)))
 (g1:nsIn K mainGlobals "MOST_PARTS"=some (some (.int 3 t1)))
 (g2:nsIn K mainGlobals "MOST_SIZE"=some (some (.int 24 t2)))
 (g3:nsIn K mainGlobals "MOST_ROWS"=some (some (.int 40 t3)))
 (g4:nsIn K mainGlobals "MOST_NODES"=some (some (.int 40 t4)))
 (g5:nsIn K mainGlobals "MOST_ABOVE"=some (some (.int 11 t5)))
 (g6:nsIn K mainGlobals "MOST_FORMS"=some (some (.int 4 t6)))
 (gL:nsIn K mainGlobals "LENGTHS"=some (some (.ref aL)))(zL:List.lookup aL K=some ⟨.type "dict",none,.dict (QT w kt0 vt0 kt1 vt1 kt2 vt2 kt3 vt3 kt4 vt4 kt5 vt5 kt6 vt6 kt7 vt7).toArray ep,#[]⟩)(sL:(aL == sysModules)=false)
 :(∀a o,K.lookup a=some o->Ky o.cls=false)/\(∀p∈([(ccL,cpL)]:List (Addr×Addr)),codeHdIn K p.1 p.2=true/\K.lookup p.2=none)/\∃fd:FuncData,(∀(s:Shared) (v:Value),BindsTo s fd ⟨[v],[]⟩ [("_law_script",v)])/\∀base:Heap,K.In base->base.Ns mainGlobals mg->(∀p∈([(ccL,cpL)]:List (Addr×Addr)),base.BuiltinsAt mg p.2/\mainGlobals≠p.2)->HF l.prog w K mg base (Xc.Gj l.prog w) 200 fa fd ["_law_script"] (MQ 63 [(ccL,cpL)] K):=by
 refine⟨λa o e=>by simpa using all_eq_true.mp kl (a,o) (Nv.G4 e),λp hp=>by cases mE hp;exact⟨hL,uL⟩,?_⟩
 have e:f50=fa:=by
  have e:=(mg_of X G s50.a).symm.trans hfa;injection e with e
  injection e
 subst e
 let fl:List Addr:=[f0,f1,f2,f3,f4,f5,f6,f7,f8,f9,f10,f11,f12,f13,f14,f15,f16,f17,f18,f19,f20,f21,f22,f23,f24,f25,f26,f27,f28,f29,f30,f31,f32,f33,f34,f35,f36,f37,f38,f39,f40,f41,f42,f43,f44,f45,f46,f47,f48,f49,f50]
 let cl:List Addr:=[c_0,c_1,c_2,c_3,c_4,c_5,c_6,c_7,c_8,c_9,c_10,c_11,c_12]
 let W₀:Wd:=⟨K,w,λc=>cl.getD c 0,false,0,0,.A8,λm c a=>m < 51/\c=[]/\a=fl.getD m 0,[(cpL,((lm 19).map (·.1)).headD ⟨0,0,0,0⟩,(Str.ofString "is_few_kinds"++(".<locals>.":Str))++("<lambda>":Str))],[]⟩
 have lmL:lm 19=[(((lm 19).map (·.1)).headD ⟨0,0,0,0⟩,51)]:=by kernel_rfl
 have hlL:∀lp l,(lm 19).lookup lp=some l->∃c P,d19.code= .ref c/\codeHdIn K c P=true/\(P,lp,(Str.ofString "is_few_kinds"++(".<locals>.":Str))++("<lambda>":Str))∈W₀.tabs:=by
  intro lp l hq;rw[lmL,lookup_cons]at hq;cases hb:lp == ((lm 19).map (·.1)).headD ⟨0,0,0,0⟩with
  |true=>rw[eq_of_beq hb];exact⟨ccL,cpL,kL,hL,by simp[W₀]⟩
  |false=>rw[hb]at hq;cases hq
 have D0:∀f,∃fd:FuncData,∀fi,f < 51->fns[f]? =some fi->Lm K W₀ c0 (fl.getD f 0) fi fd ((dC.map Hz).getD f []):=by
  intro f;rcases f with _|_|_|_|_|_|_|_|_|_|_|_|_|_|_|_|_|_|_|_|_|_|_|_|_|_|_|_|_|_|_|_|_|_|_|_|_|_|_|_|_|_|_|_|_|_|_|_|_|_|_|f
  all_goals first
   |(exact⟨d0,λfi h=>absurd h (by lia)⟩)
   | (apply Exists.intro
      intro fi hlt h;cases h;refine Z6 (W:=W₀) (by first|exact Tp.l (by assumption)) ⟨by kernel_rfl,by kernel_rfl,by kernel_rfl,by decide +kernel,by kernel_rfl,by decide +kernel,by decide +kernel⟩ (by kernel_rfl) ?_ rfl rfl ?_
      .intro _ _ _ _ _ _ us hl;rcases us with _|⟨_,_|⟨_,_|⟨_,_|⟨_,_|⟨_,_|_⟩⟩⟩⟩⟩<;>first|rfl|cases hl
      .first
       |exact hlL
       |(intro lp q hq;exact absurd (show(none:Option Nat)=some q from hq) nofun))
 obtain⟨FD,D⟩:=Classical.skolem.mp D0
 have eL:FD 50=d50:=by
  obtain⟨x,qual,st,ct,F,_⟩:=(D 50 _ (by lia) rfl).ex;obtain⟨_,_,_,_,_,_,_,_,_,_,lk,_⟩:=F.ex;obtain⟨_,_,_,_,_,_,_,_,_,_,lk2,_⟩:=s50.l.ex;have lk:=lk.symm.trans lk2;injection lk with lk
  injection lk with _ _ lk _
  injection lk with lk
 have Gb:eK K mg W₀ 51 (λf=>fl.getD f 0) c0:=by
  refine⟨rfl,rfl,λ_ _ _=>Iff.rfl,λx c h=>?g1,λx hx _ _ _=>PySem.W.mg_none_of X G (z.mem x hx),λx f h=>?g3,λx c h=>?g4,λc h=>?xk,λx c h=>?cy,λc h=>?hk,λc h=>?bm⟩
  case g1=>refine Each.look (l:=tg) (R:=λq:Str×Nv.C=>∃u v,mg q.1=some u/\RelV v u/\∀W':Wd,VD W₀ W'->∀H own bor,AI W' H own bor q.2.bor v) ?_ h;unfold tg;exact(.cons ⟨_,.int 8,mg_of X G g0,⟨_,rfl⟩,λW' _ H _ _=>(show Af W' H (.int 8) _ from Ao.mpr rfl)⟩ (.cons ⟨_,.int 3,mg_of X G g1,⟨_,rfl⟩,λW' _ H _ _=>(show Af W' H (.int 3) _ from Ao.mpr rfl)⟩ (.cons ⟨_,.int 24,mg_of X G g2,⟨_,rfl⟩,λW' _ H _ _=>(show Af W' H (.int 24) _ from Ao.mpr rfl)⟩ (.cons ⟨_,.int 40,mg_of X G g3,⟨_,rfl⟩,λW' _ H _ _=>(show Af W' H (.int 40) _ from Ao.mpr rfl)⟩ (.cons ⟨_,.int 40,mg_of X G g4,⟨_,rfl⟩,λW' _ H _ _=>(show Af W' H (.int 40) _ from Ao.mpr rfl)⟩ (.cons ⟨_,.int 11,mg_of X G g5,⟨_,rfl⟩,λW' _ H _ _=>(show Af W' H (.int 11) _ from Ao.mpr rfl)⟩ (.cons ⟨_,.int 4,mg_of X G g6,⟨_,rfl⟩,λW' _ H _ _=>(show Af W' H (.int 4) _ from Ao.mpr rfl)⟩ (.cons ⟨_,.ref aL,mg_of X G gL,rfl,λW' hW H _ _=>⟨aL,QT W'.w kt0 vt0 kt1 vt1 kt2 vt2 kt3 vt3 kt4 vt4 kt5 vt5 kt6 vt6 kt7 vt7,rfl,.inr ⟨_,by rw[<-hW.K];exact zL,⟨rfl,rfl,rfl⟩,ep,by rw[<-hW.w]⟩,UM sL⟩⟩ .nil))))))))
  case g3=>refine Each.look (l:=tf) (R:=λq:Str×Nat=>mg q.1=some (.ref (fl.getD q.2 0))/\q.2 < 51) ?_ h;unfold tf;show Each _ (_::_);repeat first|exact .nil|refine .cons (av X G (by assumption) (by decide)) ?_
  case g4=>refine Each.look (l:=tc) (R:=λq:Str×Nat=>mg q.1=some (.ref (cl.getD q.2 0))) ?_ h;unfold tc;exact(.cons (mg_of X G ac0) (.cons (mg_of X G ac1) (.cons (mg_of X G ac2) (.cons (mg_of X G ac3) (.cons (mg_of X G ac4) (.cons (mg_of X G ac5) (.cons (mg_of X G ac6) (.cons (mg_of X G ac7) (.cons (mg_of X G ac8) (.cons (mg_of X G ac9) (.cons (mg_of X G ac10) (.cons (mg_of X G ac11) (.cons (mg_of X G ac12) .nil)))))))))))))
  case cy=>refine Each.look (l:=tc) (R:=λq:Str×Nat=>∃bd,∀h:Heap,K.In h->Xc.Fh h (cl.getD q.2 0) bd) ?_ h;unfold tc;exact(.cons ⟨_,(BG x0).1⟩ (.cons ⟨_,(BG x1).1⟩ (.cons ⟨_,(BG x2).1⟩ (.cons ⟨_,(BG x3).1⟩ (.cons ⟨_,(BG x4).1⟩ (.cons ⟨_,(BG x5).1⟩ (.cons ⟨_,(BG x6).1⟩ (.cons ⟨_,(BG x7).1⟩ (.cons ⟨_,(BG x8).1⟩ (.cons ⟨_,(BG x9).1⟩ (.cons ⟨_,(BG x10).1⟩ (.cons ⟨_,(BG x11).1⟩ (.cons ⟨_,(BG x12).1⟩ .nil)))))))))))))
  case xk=>
   cases mE (show c∈[1]from h);refine⟨fx,"self",L2.inClass (bd 1) 0,dx,⟨bm1,(BG x1).1⟩,y3,y4,y5,y6,(BG x1).2,y7,y8,⟨_,_,y9⟩,⟨by kernel_rfl,by kernel_rfl,by kernel_rfl,by decide +kernel,by kernel_rfl,by decide +kernel,by decide +kernel⟩,y9.binds ?_,by kernel_rfl,by kernel_rfl,⟨_,_,_,_,rfl⟩,by decide,by decide,by decide⟩;intro _ _ _ _ _ _ us hl;rcases us with _|⟨_,_|⟨_,_|_⟩⟩<;>first|rfl|cases hl
  case hk=>cases mE (show c∈[1]from h);exact⟨⟨w4,w5,w6⟩,y8,w7,w8,w9,wa,wb,Yw wc⟩
  case bm=>
   cases mE (show c∈[1]from h);refine⟨bm1,(BG x1).1,λx c' hx=>?_⟩
   have hR:∀x c',tc.lookup x=some c'->(Value.ref c_1::bm1).contains (.ref (cl.getD c' 0))=((ts.lookup x).getD []).contains 1/\(((ts.lookup x).getD []).contains 1=true->kitOne K (.ref c_1) (.ref (cl.getD c' 0))=some true):=λx c' hx=>by
    refine Each.look (l:=tc) (R:=λq:Str×Nat=>(Value.ref c_1::bm1).contains (.ref (cl.getD q.2 0))=((ts.lookup q.1).getD []).contains 1/\(((ts.lookup q.1).getD []).contains 1=true->kitOne K (.ref c_1) (.ref (cl.getD q.2 0))=some true)) ?_ hx;unfold tc;exact(.cons ⟨v0,λ_=>US wd⟩ (.cons ⟨v1,λ_=>R0⟩ (.cons ⟨v2,λz=>absurd (show false=true from z) Bool.false_ne_true⟩ (.cons ⟨v3,λz=>absurd (show false=true from z) Bool.false_ne_true⟩ (.cons ⟨v4,λz=>absurd (show false=true from z) Bool.false_ne_true⟩ (.cons ⟨v5,λz=>absurd (show false=true from z) Bool.false_ne_true⟩ (.cons ⟨v6,λz=>absurd (show false=true from z) Bool.false_ne_true⟩ (.cons ⟨v7,λz=>absurd (show false=true from z) Bool.false_ne_true⟩ (.cons ⟨v8,λz=>absurd (show false=true from z) Bool.false_ne_true⟩ (.cons ⟨v9,λz=>absurd (show false=true from z) Bool.false_ne_true⟩ (.cons ⟨v10,λz=>absurd (show false=true from z) Bool.false_ne_true⟩ (.cons ⟨v11,λz=>absurd (show false=true from z) Bool.false_ne_true⟩ (.cons ⟨v12,λz=>absurd (show false=true from z) Bool.false_ne_true⟩ .nil)))))))))))))
   exact hR x c' hx
 have hlt:∀l m t,c0.lt l m t=true->fns[l]? =some ⟨m,m,[.ret t]⟩:=bR;refine⟨FD 50,λs v=>?b,λbase hb hn hB=>?F⟩
 case b=>
  obtain⟨_,_,_,_,_,_,_,_,_,ed,_⟩:=s50.l.ex;rw[eL,ed];exact .of_eq rfl
 case F=>
  have good:Good K mg c0 W₀ W₀ base:=⟨⟨rfl,rfl,rfl,rfl,rfl,λ_ z=>z,λ_ _ _ z=>z⟩,hb,λ_ _ _ z=>.inl z,λq hq=>by cases mE hq;exact hB (ccL,cpL) mS⟩;exact(YX (P:=l.prog) rfl Gb (by decide) (by simp[W₀]) hlt D (k:=97) good (f:=50) (by decide)).imp λvs H Q E z=>UP (W:=W₀) (λq hq=>by cases mE hq;exact⟨_,mS,rfl⟩) rfl hlaw vs H Q E z
end Lk10
local macro_rules
|`($k<<<$b>>>$r)=>`(Nv.execs (Nv.AR Lk10.fns Nv.AW $k) Nv.AW $b $r)
|`($k^^^$s&&&$r)=>`(Nv.exec (Nv.AR Lk10.fns Nv.AW $k) Nv.AW $s $r)
|`($k|||$t&&&$r)=>`((Nv.den (Nv.AR Lk10.fns Nv.AW $k) $t).v $r)
|`(~~~$k $x $y)=>`(Nv.AR Lk10.fns Nv.AW $k $x $y)
|`(~~~$k)=>`(Nv.AR Lk10.fns Nv.AW $k)
|`({$x:num})=>`(Nv.T.var $x)
|`({$x:num,0})=>`(Nv.T.cst (.p (.int $x)))
|`({$x:str})=>`(Nv.T.cst (.p (.str $x)))
namespace Lk10
open PySem Nv
noncomputable def B0:List S:=[(.ifs (.not (.Ai (Dq .str) {0})) [(.ret (.cst (.p (.bl false))))] []),(.ifs (.or (.A1 Jm (.Ai Av {0}) {1,0}) (.A1 Hq (.Ai Av {0}) {8,0})) [(.ret (.cst (.p (.bl false))))] []),(.ret (.Ai FW (.comp (.nm 1) Ar {0} [] (.NI HN HN {"a"} {1} {"z"}) [none,none])))]
theorem F0:fns[0]? =some ⟨1,1,B0⟩:=by kernel_rfl
def B1:List S:=[(.ret (.and (.Ai (Dq .int) {0}) (.not (.Ai (Dq .bool) {0}))))]
theorem F1:fns[1]? =some ⟨1,1,B1⟩:=by kernel_rfl
def B2:List S:=[(.ret (.and (.call 1 [{0}]) (.A1 dM {0} {0,0})))]
theorem F2:fns[2]? =some ⟨1,1,B2⟩:=by kernel_rfl
def B3:List S:=[(.ifs (.not (.Ai (Dq .tuple) {0})) [(.ret (.cst (.p (.bl false))))] []),(.ifs (.or (.A1 Jm (.Ai Av {0}) {1,0}) (.A1 Hq (.Ai Av {0}) (.A1 A5 {1,0} {3,0}))) [(.ret (.cst (.p (.bl false))))] []),(.ret (.call 0 [(.A1 A2 {0} {0,0})]))]
theorem F3:fns[3]? =some ⟨1,1,B3⟩:=by kernel_rfl
noncomputable def B4:List S:=[(.asg (.nm 1) (.lst [{0}])),(.asg (.nm 2) {0,0}),(.WI {1} [(.asg (.nm 2) (.A1 A5 {2} {1,0})),(.ifs (.A1 Hq {2} {24,0}) [(.ret (.cst (.p (.bl false))))] []),(.pop (some 3) 1),(.ifs (.call 3 [{3}]) [(.Bu 1 true (BY HQ) [(.A1 Fu {3} {1,0})])] [(.ifs (.not (.call 2 [{3}])) [(.ret (.cst (.p (.bl false))))] [])])]),(.ret (.cst (.p (.bl true))))]
theorem F4:fns[4]? =some ⟨1,4,B4⟩:=by kernel_rfl
def B5:List S:=[(.asg (.nm 1) (.lst [])),(.asg (.nm 2) (.lst [{0}])),(.WI {2} [(.pop (some 3) 2),(.Bu 1 true (BY AL) [{3}]),(.ifs (.Ai (Dq .tuple) {3}) [(.Bu 2 true (BY HQ) [(.Ai Ks (.A1 Fu {3} {1,0}))])] [])]),(.DI 1)]
theorem F5:fns[5]? =some ⟨1,4,B5⟩:=by kernel_rfl
def B6:List S:=[(.asg (.nm 1) (.Ai (λ_=>some (.BC true [])) (.cst (.p .A8)))),(.Be (.nm 2) Ar (.call 5 [{0}]) [(.ifs (.Ai (Dq .int) {2}) [(.Bu 1 false (G1 λc x k=>Ei c k x) [(.cst (.p (.bl true))),{2}])] [])]),(.ret (.Ai CL {1}))]
theorem F6:fns[6]? =some ⟨1,3,B6⟩:=by kernel_rfl
noncomputable def B7:List S:=[(.ifs (.not (.Ai (Dq .str) {0})) [(.ret (.cst (.p (.bl false))))] []),(.ifs (.or (.A1 Jm (.Ai Av {0}) {1,0}) (.A1 Hq (.Ai Av {0}) {8,0})) [(.ret (.cst (.p (.bl false))))] []),(.ret (.and (.NI HN HN {"A"} (.A1 A2 {0} {0,0}) {"Z"}) (.Ai FW (.comp (.nm 1) Ar (.A1 Fu {0} {1,0}) [] (.NI HN HN {"a"} {1} {"z"}) [none,none]))))]
theorem F7:fns[7]? =some ⟨1,1,B7⟩:=by kernel_rfl
def B8:List S:=[(.ret (.and (.call 1 [{0}]) (.A1 Jm (.Ai (DD VB) {0}) (.A1 (A3 Ge) {10,0} {60,0}))))]
theorem F8:fns[8]? =some ⟨1,1,B8⟩:=by kernel_rfl
def B9:List S:=[(.ret (.and (.Ai (Dq .tuple) {0}) (.A1 HN (.Ai Av {0}) {3,0})))]
theorem F9:fns[9]? =some ⟨1,1,B9⟩:=by kernel_rfl
def ir:List S:=[(.ret (.and (.call 9 [{0}]) (.Ai FW (.comp (.nm 1) Ar {0} [] (.app 2 [{1}]) [none,none,some 1]))))]
theorem lj:fns[10]? =some ⟨2,2,ir⟩:=by kernel_rfl
def iq:List S:=[(.ret (.and (.call 10 [{0},(.cst (.p (.fn 0 [])))]) (.A1 Bq (.Ai Jo {0}) (.Ai Av {0}))))]
theorem lh:fns[11]? =some ⟨1,1,iq⟩:=by kernel_rfl
def il:List S:=[(.ret (.and (.Ai (Dq .tuple) {0}) (.NI HN HN {1,0} (.Ai Av {0}) {4,0})))]
theorem gB:fns[12]? =some ⟨1,1,il⟩:=by kernel_rfl
def ik:List S:=[(.ret (.and (.Ai (Dq .tuple) {0}) (.and (.A1 Hq (.Ai Av {0}) {0,0}) (.Ai (Dq .str) (.A1 A2 {0} {0,0})))))]
theorem gA:fns[13]? =some ⟨1,1,ik⟩:=by kernel_rfl
def ij:List S:=[(.ifs (.or (.not (.Ai (Dq .tuple) {0})) (.A1 JU (.Ai Av {0}) {3,0})) [(.ret (.cst (.p (.bl false))))] []),(.ret (.and (.call 7 [(.A1 A2 {0} {0,0})]) (.call 11 [(.A1 A2 {0} {1,0})])))]
theorem gz:fns[14]? =some ⟨1,1,ij⟩:=by kernel_rfl
noncomputable def ig:List S:=[(.ifs (.not (.call 13 [{0}])) [(.ret (.cst (.p (.bl false))))] []),(.asg (.nm 1) (.A1 A2 {0} {0,0})),(.ifs (.A1 Bq {1} {"number"}) [(.ret (.and (.A1 Bq (.Ai Av {0}) {2,0}) (.call 8 [(.A1 A2 {0} {1,0})])))] []),(.ifs (.A1 Bq {1} {"name"}) [(.ret (.and (.A1 Bq (.Ai Av {0}) {2,0}) (.call 0 [(.A1 A2 {0} {1,0})])))] []),(.ifs (.A1 JU (.Ai Av {0}) {3,0}) [(.ret (.cst (.p (.bl false))))] []),(.ifs (.A1 Bq {1} {"form"}) [(.ret (.and (.call 7 [(.A1 A2 {0} {1,0})]) (.call 9 [(.A1 A2 {0} {2,0})])))] []),(.ifs (.A1 Bq {1} {"call"}) [(.ret (.and (.call 0 [(.A1 A2 {0} {1,0})]) (.call 9 [(.A1 A2 {0} {2,0})])))] []),(.ret (.and (.A1 Bq {1} {"case"}) (.and (.call 12 [(.A1 A2 {0} {2,0})]) (.Ai FW (.comp (.nm 1) Ar (.A1 A2 {0} {2,0}) [] (.call 14 [{1}]) [none,none])))))]
theorem lg:fns[15]? =some ⟨1,2,ig⟩:=by kernel_rfl
noncomputable def ic:List S:=[(.ifs (.or (.A1 Bq (.A1 A2 {0} {0,0}) {"form"}) (.A1 Bq (.A1 A2 {0} {0,0}) {"call"})) [(.ret (.Ai CL (.A1 A2 {0} {2,0})))] []),(.ifs (.A1 Bq (.A1 A2 {0} {0,0}) {"case"}) [(.ret (.A1 A5 (.lst [(.A1 A2 {0} {1,0})]) (.comp (.nm 1) Ar (.A1 A2 {0} {2,0}) [] (.A1 A2 {1} {2,0}) [none,none])))] []),(.ret (.lst []))]
theorem la:fns[16]? =some ⟨1,1,ic⟩:=by kernel_rfl
noncomputable def ib:List S:=[(.asg (.nm 1) (.lst [(.tup [{0},{0,0}])])),(.asg (.nm 2) {0,0}),(.WI {1} [(.asg (.nm 2) (.A1 A5 {2} {1,0})),(.pop (some 3) 1),(.asg (.nm 4) (.A1 A2 {3} {0,0})),(.asg (.nm 5) (.A1 A2 {3} {1,0})),(.ifs (.or (.A1 Hq {2} {40,0}) (.or (.A1 Hq {5} {11,0}) (.not (.call 15 [{4}])))) [(.ret (.cst (.p (.bl false))))] []),(.Bu 1 true (BY HQ) [(.comp (.nm 1) Ar (.call 16 [{4}]) [] (.tup [{1},(.A1 A5 {2} {1,0})]) [none,none,some 5])])]),(.ret (.cst (.p (.bl true))))]
theorem l9:fns[17]? =some ⟨1,6,ib⟩:=by kernel_rfl
def i9:List S:=[(.ret (.and (.call 4 [{0}]) (.Ai FW (.comp (.nm 1) Ar (.call 6 [{0}]) [] (.A1 Jm {1} {2}) [none,none,some 1]))))]
theorem l8:fns[18]? =some ⟨2,2,i9⟩:=by kernel_rfl
def i8:List S:=[(.ret (.L6 10 {0} 51 [1]))]
theorem l7:fns[19]? =some ⟨2,2,i8⟩:=by kernel_rfl
def i7:List S:=[(.ifs (.or (.not (.Ai (Dq .tuple) {0})) (.A1 JU (.Ai Av {0}) {2,0})) [(.ret (.cst (.p (.bl false))))] []),(.ret (.and (.call 7 [(.A1 A2 {0} {0,0})]) (.call 19 [(.A1 A2 {0} {1,0}),{1}])))]
theorem gy:fns[20]? =some ⟨2,2,i7⟩:=by kernel_rfl
noncomputable def i6:List S:=[(.asg (.nm 1) (.A1 A2 {0} {2,0})),(.ifs (.or (.not (.call 0 [(.A1 A2 {0} {1,0})])) (.or (.not (.call 1 [{1}])) (.or (.A1 Jm {1} {0,0}) (.A1 Hq {1} {3,0})))) [(.ret (.cst (.p (.bl false))))] []),(.ret (.and (.call 12 [(.A1 A2 {0} {3,0})]) (.Ai FW (.comp (.nm 1) Ar (.A1 A2 {0} {3,0}) [] (.call 20 [{1},{2}]) [none,none,some 1]))))]
theorem l6:fns[21]? =some ⟨1,2,i6⟩:=by kernel_rfl
def i5:List S:=[(.ret (.and (.call 0 [(.A1 A2 {0} {1,0})]) (.and (.call 0 [(.A1 A2 {0} {2,0})]) (.and (.call 19 [(.A1 A2 {0} {3,0}),{1,0}]) (.call 18 [(.A1 A2 {0} {4,0}),{1,0}])))))]
theorem kZ:fns[22]? =some ⟨1,1,i5⟩:=by kernel_rfl
def hV:List S:=[(.ret (.or (.A1 ZQ {0} (.cst (.p .A8))) (.call 0 [{0}])))]
theorem kY:fns[23]? =some ⟨1,1,hV⟩:=by kernel_rfl
def gZ:List S:=[(.ret (.and (.Ai FW (.comp (.nm 1) Ar (.Wi SO {0} {1,0} (.Ai (DD EM) {2,0})) [] (.call 0 [{1}]) [none,none])) (.and (.call 11 [(.A1 A2 {0} (.Ai (DD EM) {2,0}))]) (.call 17 [(.A1 A2 {0} (.Ai (DD EM) {1,0}))]))))]
theorem kX:fns[24]? =some ⟨1,1,gZ⟩:=by kernel_rfl
noncomputable def ZJ:List S:=[(.ifs (.or (.not (.call 13 [{0}])) (.A1 JU (.A1 Mf (.cst (.BC false Hi)) (.A1 A2 {0} {0,0})) (.Ai Av {0}))) [(.ret (.cst (.p (.bl false))))] []),(.asg (.nm 1) (.A1 A2 {0} {0,0})),(.ifs (.A1 Bq {1} {"kind"}) [(.ret (.call 21 [{0}]))] []),(.ifs (.A1 Bq {1} {"class"}) [(.ret (.and (.call 0 [(.A1 A2 {0} {1,0})]) (.call 10 [(.A1 A2 {0} {2,0}),(.cst (.p (.fn 0 [])))])))] []),(.ifs (.A1 Bq {1} {"deed"}) [(.ret (.call 22 [{0}]))] []),(.ifs (.A1 Bq {1} {"house"}) [(.ret (.and (.call 0 [(.A1 A2 {0} {1,0})]) (.and (.call 0 [(.A1 A2 {0} {2,0})]) (.call 10 [(.A1 A2 {0} {3,0}),(.cst (.p (.fn 23 [])))]))))] []),(.ifs (.A1 Bq {1} {"ask"}) [(.ret (.call 17 [(.A1 A2 {0} {1,0})]))] []),(.ret (.call 24 [{0}]))]
theorem gx:fns[25]? =some ⟨1,2,ZJ⟩:=by kernel_rfl
def dy:List S:=[(.ifs (.or (.not (.Ai (Dq .list) {0})) (.A1 Hq (.Ai Av {0}) {40,0})) [(.raise 1 (.cst (.p .A8)))] []),(.Be (.tup [1,2]) Mo {0} [(.ifs (.not (.call 25 [{2}])) [(.raise 1 (.tup [{1},{0,0}]))] [])]),(.ret (.Ai CL {0}))]
theorem jj:fns[26]? =some ⟨1,3,dy⟩:=by kernel_rfl
noncomputable def lu:List S:=[(.asg (.nm 2) {0,0}),(.ifs (.A1 Jm {1} (.Ai Av {0})) [(.asg (.nm 2) (.A1 (A3 Ab) (.A1 A2 {0} {1}) {2147483629,0}))] []),(.ret (.A1 (A3 Ab) (.A1 mulC (.A1 A5 (.A1 A5 (.A1 A5 (.A1 mulC {2} {2}) (.A1 mulC {3,0} {2})) (.A1 mulC (.A1 mulC {5,0} {1}) {1})) {17,0}) {69621,0}) {2147483647,0}))]
theorem kW:fns[27]? =some ⟨2,3,lu⟩:=by kernel_rfl
noncomputable def gY:List S:=[(.asg (.nm 2) {"abcdefghijklmnopqrstuvwxyz"}),(.asg (.nm 3) (.A1 (A3 Ab) {0} (.A1 (A3 Et) {27,0} {1}))),(.asg (.nm 0) (.A1 (A3 A7) {0} {27,0})),(.asg (.nm 4) {""}),(.Be (.nm 5) AM (.A1 (A3 Ab) {0} {8,0}) [(.asg (.nm 4) (.A1 A5 {4} (.A1 A2 {2} (.A1 (A3 Ab) (.A1 (A3 A7) (.A1 mulC {0} (.A1 A5 {5} {3,0})) {7,0}) {26,0}))))]),(.asg (.nm 6) (.A1 (A3 Ab) (.A1 (A3 A7) {0} {8,0}) (.A1 A5 (.Ai Av {4}) {1,0}))),(.asg (.nm 7) (.lst [])),(.Be (.nm 5) AM {1} [(.Bu 7 true (BY AL) [(.A1 A5 (.A1 A5 (.A1 DC {4} {6}) (.A1 A2 {2} (.A1 A5 {3} {5}))) (.A1 Fu {4} {6}))])]),(.Be (.nm 8) Ar (.lst [{"whole"},{"truth"},{"plus"},{"minus"},{"under"}]) [(.ifs (.A1 Rl {8} {7}) [(.ret (.Ai CL (.Wi SO {2} {3} (.A1 A5 {3} {1}))))] [])]),(.DI 7)]
theorem kU:fns[28]? =some ⟨2,9,gY⟩:=by kernel_rfl
noncomputable def gX:List S:=[(.asg (.nm 2) {"abcdefghijklmnopqrstuvwxyz"}),(.asg (.nm 3) (.Ai GJ {2})),(.asg (.nm 4) (.A1 (A3 Ab) {0} (.A1 (A3 Et) {27,0} {1}))),(.asg (.nm 5) {""}),(.Be (.nm 6) AM (.A1 (A3 Ab) (.A1 (A3 A7) {0} {27,0}) {7,0}) [(.asg (.nm 5) (.A1 A5 {5} (.A1 A2 {2} (.A1 (A3 Ab) (.A1 (A3 A7) (.A1 mulC {0} (.A1 A5 {6} {5,0})) {11,0}) {26,0}))))]),(.asg (.nm 7) (.comp (.nm 1) AM {1} [] (.A1 A5 (.A1 A2 {3} (.A1 A5 {4} {1})) {2}) [none,none,some 5,some 3,some 4])),(.ifs (.A1 Bq (.A1 (A3 Ab) (.A1 (A3 A7) {0} {200,0}) {2,0}) {1,0}) [(.asg (.nm 8) (.A1 (A3 Ab) (.A1 (A3 A7) {0} {400,0}) (.A1 A5 (.Ai Av {5}) {1,0}))),(.asg (.nm 7) (.lst [])),(.Be (.nm 6) AM {1} [(.asg (.nm 9) (.A1 A5 (.A1 A2 {3} {4}) (.A1 DC {5} {8}))),(.Bu 7 true (BY AL) [(.A1 A5 (.A1 A5 {9} (.A1 A2 {2} (.A1 A5 {4} {6}))) (.A1 Fu {5} {8}))])])] []),(.ifs (.or (.A1 Rl {"No"} {7}) (.A1 Rl {"Yes"} {7})) [(.ret (.comp (.nm 1) AM {1} [] (.A1 A5 {"X"} (.A1 A2 {3} (.A1 A5 {2} {1}))) [none,none,some 4,some 2]))] []),(.DI 7)]
theorem kT:fns[29]? =some ⟨2,10,gX⟩:=by kernel_rfl
noncomputable def ZI:List S:=[(.asg (.nm 4) (.A1 A5 (.A1 A5 (.lst [(.tup [{"whole"}]),(.tup [{"truth"}]),(.tup [(.A1 A2 {1} {0,0})])]) (.Ai E8 {2})) (.Ai E8 {2}))),(.asg (.nm 5) (.A1 (A3 Ab) {0} (.A1 A5 (.Ai Av {4}) {2,0}))),(.ifs (.or (.A1 Jm {5} (.Ai Av {4})) (.A1 Bq {3} {0,0})) [(.ret (.A1 A2 {4} (.A1 (A3 Ab) {5} (.Ai Av {4}))))] []),(.ifs (.A1 Bq {5} (.Ai Av {4})) [(.ret (.tup [(.A1 A2 {1} {1,0}),(.call 30 [(.A1 (A3 A7) {0} {13,0}),{1},{2},(.A1 (A3 Et) {3} {1,0})])]))] []),(.asg (.nm 6) (.call 30 [(.A1 (A3 A7) {0} {13,0}),{1},{2},(.A1 (A3 Et) {3} {1,0})])),(.ret (.tup [(.A1 A2 {1} {2,0}),{6},(.call 30 [(.A1 (A3 A7) {0} {177,0}),{1},{2},{0,0}])]))]
theorem ji:fns[30]? =some ⟨4,7,ZI⟩:=by kernel_rfl
noncomputable def gW:List S:=[(.asg (.nm 4) (.lst [(.tup [{"number"},(.A1 (A3 Et) (.A1 (A3 Ab) (.A1 (A3 A7) {0} {5,0}) (.A1 (A3 Ge) {10,0} {9,0})) (.A1 mulC {5,0} (.A1 (A3 Ge) {10,0} {8,0})))])])),(.Bu 4 true (BY AL) [(.tup [{"form"},(.A1 A2 {2} (.A1 (A3 Ab) (.A1 (A3 A7) {0} {5,0}) (.Ai Av {2}))),(.tup [])])]),(.asg (.nm 5) (.A1 A2 (.A1 A5 {3} (.lst [{"plus"}])) (.A1 (A3 Ab) (.A1 (A3 A7) {0} {5,0}) (.A1 A5 (.Ai Av {3}) {1,0})))),(.Bu 4 true (BY AL) [(.tup [{"call"},{5},(.tup [(.tup [{"number"},{1,0}])])])]),(.Be (.nm 6) Ar {1} [(.Bu 4 true (BY AL) [(.tup [{"name"},{6}])])]),(.ret (.A1 A2 {4} (.A1 (A3 Ab) {0} (.Ai Av {4}))))]
theorem kR:fns[31]? =some ⟨4,7,gW⟩:=by kernel_rfl
noncomputable def gV:List S:=[(.asg (.nm 3) (.lst [])),(.Be (.nm 4) AM {3,0} [(.asg (.nm 5) (.lst [])),(.Be (.nm 6) AM (.A1 A5 {1,0} (.A1 (A3 Ab) (.A1 (A3 A7) {0} (.A1 A5 {4} {3,0})) {2,0})) [(.asg (.nm 7) (.lst [])),(.Be (.nm 8) AM (.A1 (A3 Ab) (.A1 (A3 A7) {0} (.A1 A5 (.A1 A5 {4} {6}) {2,0})) {4,0}) [(.Bu 7 true (BY AL) [(.call 30 [(.A1 (A3 A7) {0} (.A1 A5 (.A1 A5 (.A1 A5 (.A1 mulC {5,0} {4}) (.A1 mulC {7,0} {6})) (.A1 mulC {11,0} {8})) {2,0})),{1},{4},{1,0}])])]),(.Bu 5 true (BY AL) [(.tup [(.A1 A2 {2} (.A1 A5 (.A1 mulC {2,0} {4}) {6})),(.Ai Eh {7})])])]),(.Bu 3 true (BY AL) [(.tup [{"kind"},(.A1 A2 {1} {4}),{4},(.Ai Eh {5})])])]),(.DI 3)]
theorem kQ:fns[32]? =some ⟨3,9,gV⟩:=by kernel_rfl
noncomputable def gU:List S:=[(.asg (.tup [2,3,4]) {1}),(.asg (.nm 5) (.A1 A2 (.lst [(.tup []),(.tup [{2}])]) (.A1 (A3 Ab) {0} {2,0}))),(.asg (.nm 6) (.A1 A2 (.lst [(.tup []),(.tup [{2}]),(.tup [{3}]),(.tup [{2},{3}]),(.tup [{3},{2}])]) (.A1 (A3 Ab) (.A1 (A3 A7) {0} {2,0}) {5,0}))),(.ret (.lst [(.tup [{"class"},{2},(.tup [])]),(.tup [{"class"},{3},{5}]),(.tup [{"class"},{4},{6}])]))]
theorem kP:fns[33]? =some ⟨2,7,gU⟩:=by kernel_rfl
noncomputable def gS:List S:=[(.asg (.nm 4) (.lst [])),(.Be (.nm 5) AM (.A1 A5 {1,0} (.A1 (A3 Ab) {0} {3,0})) [(.asg (.nm 6) (.A1 (A3 A7) {0} (.A1 A5 {3,0} (.A1 mulC {4,0} {5})))),(.asg (.nm 7) (.comp (.nm 1) AM (.A1 (A3 Ab) {6} {4,0}) [] (.call 30 [(.A1 (A3 A7) {3} (.A1 A5 {1} {2,0})),{2},{1,0},{1,0}]) [none,none,some 3,some 6])),(.asg (.nm 8) (.call 30 [(.A1 (A3 A7) {6} {7,0}),{3},{1,0},{1,0}])),(.asg (.nm 9) (.A1 (A3 Ab) (.A1 (A3 A7) {6} {11,0}) (.A1 A5 (.Ai Av {7}) {1,0}))),(.ifs (.A1 Bq {9} (.Ai Av {7})) [(.asg (.nm 8) (.A1 A2 (.lst [{0,0},(.tup [(.A1 A2 {3} {1,0}),{0,0}])]) (.A1 (A3 Ab) (.A1 (A3 A7) {6} {50,0}) {2,0})))] [(.Bu 7 false (G1 λc x k=>Ei c k x) [(.A1 A2 (.lst [{0,0},(.tup [(.A1 A2 {3} {1,0}),{0,0}])]) (.A1 (A3 Ab) (.A1 (A3 A7) {6} {50,0}) {2,0})),{9}])]),(.Bu 4 true (BY AL) [(.tup [{"deed"},(.A1 A2 {1} {5}),(.A1 A2 {2} (.A1 (A3 Ab) (.A1 (A3 A7) {6} {100,0}) {3,0})),(.Ai Eh {7}),{8}])])]),(.DI 4)]
theorem kN:fns[34]? =some ⟨4,10,gS⟩:=by kernel_rfl
noncomputable def gR:List S:=[(.asg (.nm 5) (.lst [])),(.Be (.nm 6) AM {1} [(.asg (.nm 7) (.A1 (A3 Ab) (.A1 (A3 A7) {0} (.A1 A5 (.A1 mulC {3,0} {6}) {1,0})) {5,0})),(.asg (.nm 8) {2}),(.ifs (.A1 Bq {7} {1,0}) [(.asg (.nm 8) (.A1 A2 {4} {2,0}))] []),(.ifs (.or (.A1 Bq {7} {2,0}) (.and (.A1 Bq {7} {3,0}) (.A1 Bq {3} (.tup [])))) [(.asg (.nm 8) (.cst (.p .A8)))] []),(.Bu 5 true (BY AL) [{8}])]),(.ret (.Ai Eh {5}))]
theorem kM:fns[35]? =some ⟨5,9,gR⟩:=by kernel_rfl
noncomputable def gQ:List S:=[(.asg (.nm 4) (.lst [])),(.Be (.nm 5) AM {4,0} [(.asg (.nm 7) (.comp (.nm 1) AM {3,0} [] (.A1 Hq (.A1 (A3 Ab) (.A1 (A3 A7) {2} (.A1 A5 (.A1 A5 (.A1 mulC {7,0} {3}) (.A1 mulC {1} {1})) {1,0})) {3,0}) {0,0}) [none,none,some 0,some 5])),(.Be (.nm 6) Ar (.lst [{2,0},{1,0},{0,0}]) [(.Be (.nm 8) Ar (.A1 A2 (.A1 A2 {3} {6}) {2,0}) [(.ifs (.A1 A2 {7} {6}) [(.Bu 7 false (G1 λc x k=>Ei c k x) [(.cst (.p (.bl true))),(.A1 D2 {2} {8})])] [])])]),(.asg (.nm 9) (.A1 A2 (.A1 A5 {1} (.lst [{"whole"}])) {5})),(.Be (.nm 6) AM {3,0} [(.ifs (.A1 A2 {7} {6}) [(.asg (.nm 10) (.call 35 [(.A1 (A3 A7) {0} (.A1 A5 {5} {2,0})),(.A1 (A3 Ab) {5} {3,0}),(.A1 A2 {2} {6}),(.A1 A2 (.A1 A2 {3} {6}) {2,0}),{2}])),(.Bu 4 true (BY AL) [(.tup [{"house"},(.A1 A2 {2} {6}),{9},{10}])])] [])])]),(.DI 4)]
theorem kK:fns[36]? =some ⟨4,11,gQ⟩:=by kernel_rfl
noncomputable def gO:List S:=[(.asg (.nm 4) (.lst [])),(.asg (.nm 5) (.comp (.nm 1) Ar {1} [] (.A1 A2 {1} {1,0}) [none,none])),(.Be (.nm 6) AM (.Ai Av {1}) [(.asg (.tup [7,8,9,10,11]) (.A1 A2 {1} {6})),(.asg (.nm 12) (.A1 DC (.tup [{"u"},{"v"},{"w"}]) (.Ai Av {10}))),(.asg (.nm 13) (.A1 Bq (.A1 (A3 Ab) (.A1 (A3 A7) {0} (.A1 A5 {6} {1,0})) {2,0}) {1,0})),(.ifs {13} [(.Bu 4 true (BY AL) [(.tup [{"once"},{8},{12},(.call 31 [(.A1 (A3 A7) {0} {3,0}),{12},{3},{5}])])])] []),(.Be (.nm 14) AM (.Ai Av {2}) [(.asg (.nm 15) (.A1 A2 {2} {14})),(.ifs (.and (.A1 Bq (.A1 A2 {15} {1,0}) {9}) (.or (.not {13}) (.A1 Bq (.A1 (A3 Ab) (.A1 (A3 A7) {0} (.A1 A5 {14} {2,0})) {2,0}) {1,0}))) [(.asg (.nm 16) (.call 31 [(.A1 (A3 A7) {0} (.A1 A5 {14} {3,0})),{12},{3},{5}])),(.Bu 4 true (BY AL) [(.tup [{"does"},{9},(.A1 A2 {15} {2,0}),{8},{12},{16}])])] [])])]),(.DI 4)]
theorem kJ:fns[37]? =some ⟨4,17,gO⟩:=by kernel_rfl
def gN:List S:=[(.asg (.nm 2) (.lst [])),(.Be (.nm 3) Ar {0} [(.asg (.nm 1) (.A1 (A3 Ab) (.A1 A5 (.A1 mulC {1} {48271,0}) {3,0}) {2147483647,0})),(.Bu 2 true (G1 KA) [(.A1 (A3 Ab) {1} (.A1 A5 (.Ai Av {2}) {1,0})),{3}])]),(.DI 2)]
theorem kH:fns[38]? =some ⟨2,4,gN⟩:=by kernel_rfl
noncomputable def gM:List S:=[(.asg (.nm 1) (.call 27 [{0},{0,0}])),(.asg (.nm 2) (.call 28 [(.call 27 [{0},{1,0}]),{9,0}])),(.asg (.nm 3) (.A1 DC {2} {3,0})),(.asg (.nm 4) (.Wi SO {2} {3,0} {6,0})),(.asg (.nm 5) (.A1 Fu {2} {6,0})),(.ifs (.A1 Bq (.A1 (A3 Ab) {1} {3,0}) {1,0}) [(.asg (.nm 4) (.lst [(.A1 A2 {2} {2,0}),(.A1 A2 {2} {0,0}),(.A1 A2 {2} {1,0})])),(.asg (.nm 5) (.lst [(.A1 A2 {2} {1,0}),(.A1 A2 {2} {2,0}),(.A1 A2 {2} {0,0})]))] []),(.asg (.nm 6) (.call 29 [(.call 27 [{0},{2,0}]),{6,0}])),(.asg (.nm 7) (.call 33 [(.call 27 [{0},{3,0}]),{4}])),(.asg (.nm 8) (.call 34 [(.call 27 [{0},{4,0}]),{5},{4},{3}])),(.asg (.nm 9) (.call 36 [(.call 27 [{0},{5,0}]),{3},{4},{7}])),(.asg (.nm 10) (.A1 A5 (.A1 A5 (.A1 A5 (.call 32 [(.call 27 [{0},{6,0}]),{3},{6}]) {7}) {8}) {9})),(.asg (.nm 10) (.A1 A5 {10} (.call 37 [(.call 27 [{0},{7,0}]),{8},{9},{6}]))),(.ifs (.A1 Bq (.A1 (A3 Ab) (.A1 (A3 A7) {1} {3,0}) {2,0}) {1,0}) [(.Bu 10 true (BY AL) [(.tup [{"ask"},(.call 31 [(.A1 (A3 A7) {1} {6,0}),(.tup []),{6},(.A1 DC {5} {1,0})])])])] []),(.ret (.call 38 [{10},(.call 27 [{0},{8,0}])]))]
theorem kF:fns[39]? =some ⟨1,11,gM⟩:=by kernel_rfl
def jl:List S:=[(.asg (.nm 2) {1}),(.Be (.nm 3) AM {0} [(.asg (.nm 2) (.A1 A2 (.lst [(.tup [{"form"},{"Up"},(.tup [{2}])]),(.tup [{"case"},{2},(.tup [(.tup [{"Up"},(.tup [{"y"}]),{1}])])])]) (.A1 (A3 Ab) {3} {2,0})))]),(.DI 2)]
theorem kD:fns[40]? =some ⟨2,4,jl⟩:=by kernel_rfl
noncomputable def jk:List S:=[(.asg (.nm 1) (.lst [{0}])),(.Be (.nm 2) AM {3,0} [(.Bu 1 true (BY AL) [(.tup [{"form"},{"Up"},(.tup [(.A1 A2 {1} {2}),(.A1 A2 {1} {2}),(.A1 A2 {1} {2})])])])]),(.asg (.nm 3) (.tup [{"call"},{"f"},(.tup [{0}])])),(.Be (.nm 2) AM {3,0} [(.asg (.nm 3) (.tup [{"call"},{"f"},(.tup [(.A1 A2 {1} {2}),{3},(.A1 A2 {1} {2})])]))]),(.ret (.lst [(.A1 A2 {1} {3,0}),{3}]))]
theorem kA:fns[41]? =some ⟨1,4,jk⟩:=by kernel_rfl
def gK:List S:=[(.asg (.nm 1) (.lst [(.lst [{"u"}]),(.tup [{"u"},{"v"},{"w"},{"x"}]),(.tup [{"u"},{"u"}]),(.tup [{"U"}]),(.cst (.p .A8)),(.tup [{"u"},(.cst (.p .A8))]),{"uv"},(.tup [(.tup [{"u"}])])])),(.ret (.A1 A2 {1} (.A1 (A3 Ab) {0} {8,0})))]
theorem kz:fns[42]? =some ⟨1,2,gK⟩:=by kernel_rfl
def gJ:List S:=[(.ret (.A1 A2 (.lst [{""},{"Abc"},{"a1"},{"abcdefghi"},(.cst (.p .A8)),{3,0},(.tup [{"a"}]),{"a b"}]) (.A1 (A3 Ab) {0} {8,0})))]
theorem ky:fns[43]? =some ⟨1,1,gJ⟩:=by kernel_rfl
noncomputable def gI:List S:=[(.asg (.nm 1) (.tup [{"a"},{0,0},{0,0},{0,0}])),(.Be (.nm 2) AM {7,0} [(.asg (.nm 1) (.tup [{"a"},{1},{0,0},{0,0}]))]),(.asg (.nm 3) (.lst [(.Ai (DD EM) {1,0}),(.cst (.p (.bl true))),{"whole"},(.tup [{"Whole"}]),(.lst [(.tup [{"whole"}])]),(.tup []),(.tup [{"a"},{0,0},{0,0},{0,0},{0,0}]),(.cst (.p .A8)),{1},(.tup [{"a"},{"b"}]),(.tup [{"a"},(.tup [{0,0}])])])),(.ret (.A1 A2 {3} (.A1 (A3 Ab) {0} {11,0})))]
theorem kx:fns[44]? =some ⟨1,4,gI⟩:=by kernel_rfl
noncomputable def gH:List S:=[(.asg (.nm 2) (.Ai Eh (.comp (.nm 1) Ar (.tup [{"Ua"},{"Ub"},{"Uc"},{"Ud"},{"Ue"}]) [] (.tup [{1},(.tup [])]) [none,none]))),(.asg (.nm 3) (.lst [(.tup []),{2},(.lst [(.tup [{"Up"},(.tup [])])]),(.tup [(.tup [{"up"},(.tup [])])]),(.tup [(.tup [{"Up"},(.lst [])])]),(.tup [(.tup [{"Up"},(.A1 mulC (.tup [(.tup [{"whole"}])]) {4,0})])]),(.tup [(.tup [{"Up"},(.tup [{1}])])])])),(.asg (.nm 3) (.A1 A5 {3} (.lst [(.tup [(.tup [{"Up"}])]),(.tup [(.tup [{"Up"},(.tup [{"whole"}])])]),(.cst (.p .A8)),(.tup [(.tup [{"Up"},(.tup [(.call 44 [(.A1 (A3 A7) {0} {12,0})])])])]),(.tup [(.lst [{"Up"},(.tup [])])])]))),(.ret (.A1 A2 {3} (.A1 (A3 Ab) {0} {12,0})))]
theorem kv:fns[45]? =some ⟨2,4,gH⟩:=by kernel_rfl
noncomputable def gG:List S:=[(.asg (.nm 1) (.tup [{"name"},{"x"}])),(.asg (.nm 2) (.Ai Eh (.comp (.nm 1) Ar (.tup [{"Ua"},{"Ub"},{"Uc"},{"Ud"},{"Ue"}]) [] (.tup [{1},(.tup []),{2}]) [none,none,some 1]))),(.asg (.nm 3) (.lst [(.cst (.p .A8)),(.tup [{"number"},(.A1 (A3 Ge) {10,0} {60,0})]),(.tup [{"number"},(.cst (.p (.bl true)))]),(.tup [{"name"},{"X"}]),(.tup [{"form"},{"up"},(.tup [])]),(.tup [{"call"},{"F"},(.tup [])])])),(.asg (.nm 3) (.A1 A5 {3} (.lst [(.tup [{"form"},{"Up"},(.lst [])]),(.tup [{"call"},{"f"},(.tup [{1,0}])]),(.tup [{"case"},{1},(.tup [])]),(.tup [{"case"},{1},{2}])]))),(.asg (.nm 3) (.A1 A5 {3} (.lst [(.tup [{"case"},{1},(.tup [(.tup [{"Up"},(.tup [{"u"},{"u"}]),{1}])])]),(.tup [{"case"},{1},(.lst [(.tup [{"Up"},(.tup []),{1}])])]),(.tup [{"number"}])]))),(.asg (.nm 3) (.A1 A5 {3} (.lst [(.tup [{"name"},{"x"},{"y"}]),(.call 40 [{12,0},{1}]),(.A1 A2 (.call 41 [{1}]) {1,0}),(.tup [{"number"},{"1"}]),(.lst [{"name"},{"x"}])]))),(.asg (.nm 3) (.A1 A5 {3} (.lst [(.tup [{"form"},{"Up"},(.A1 mulC (.tup [{1}]) {4,0})]),(.tup [{"number"},(.A1 (A3 Et) {0,0} (.A1 (A3 Ge) {10,0} {60,0}))]),(.tup [{"case"},{1,0},(.tup [(.tup [{"Up"},(.tup []),{1}])])]),(.tup [{"x"}])]))),(.ret (.A1 A2 {3} (.A1 (A3 Ab) {0} {22,0})))]
theorem ku:fns[46]? =some ⟨1,4,gG⟩:=by kernel_rfl
noncomputable def Ln:List S:=[(.asg (.nm 3) (.A1 A2 {0} {1})),(.ifs (.Ai (Dq .str) {3}) [(.ret (.call 43 [{2}]))] []),(.ifs (.and (.A1 Bq (.A1 A2 {0} {0,0}) {"kind"}) (.A1 Bq {1} {2,0})) [(.ret (.A1 A2 (.lst [(.Ai (DD EM) {1,0}),{4,0},(.cst (.p (.bl true))),(.cst (.p .A8)),{"1"},(.tup [{1,0}])]) (.A1 (A3 Ab) {2} {6,0})))] []),(.ifs (.A1 Bq (.A1 A2 {0} {0,0}) {"kind"}) [(.ret (.call 45 [{2},(.A1 A2 {0} {2,0})]))] []),(.ifs (.and (.A1 Bq (.A1 A2 {0} {0,0}) {"deed"}) (.A1 Bq {1} {4,0})) [(.ret (.A1 A2 (.lst [{1,0},(.call 44 [(.A1 (A3 A7) {2} {5,0})])]) (.Ai V0 (.A1 Hq (.A1 (A3 Ab) {2} {5,0}) {0,0}))))] []),(.ifs (.A1 Bq (.A1 A2 {0} {0,0}) {"deed"}) [(.asg (.nm 4) (.lst [(.tup [{1,0}]),(.lst [{0,0}]),(.tup [{0,0},{0,0},{0,0},{0,0}]),(.tup [{"whole"}]),(.cst (.p .A8)),(.tup [{0,0},(.call 44 [(.A1 (A3 A7) {2} {6,0})])])])),(.ret (.A1 A2 {4} (.A1 (A3 Ab) {2} {6,0})))] []),(.ifs (.or (.A1 Bq (.A1 A2 {0} {0,0}) {"class"}) (.A1 Bq (.A1 A2 {0} {0,0}) {"house"})) [(.ret (.A1 A2 (.lst [(.lst [{"a"}]),(.tup [{"a"},{"b"},{"c"},{"d"}]),(.tup [{"A"}]),(.tup [{0,0}]),(.cst (.p .A8)),{"abc"},(.tup [(.tup [{"a"}])])]) (.A1 (A3 Ab) {2} {7,0})))] []),(.ifs (.A1 Bq {1} (.A1 (A3 Et) (.Ai Av {0}) {1,0})) [(.ret (.call 46 [{2}]))] []),(.ret (.call 42 [{2}]))]
theorem WE:fns[47]? =some ⟨3,5,Ln⟩:=by kernel_rfl
noncomputable def dw:List S:=[(.asg (.nm 2) (.A1 (A3 Ab) {1} {13,0})),(.ifs (.A1 Jm {2} {7,0}) [(.ret (.A1 A2 (.lst [(.Ai CL {0}),(.A1 A5 {0} (.tup [(.cst (.p .A8))])),(.A1 DC {0} (.Ai (DD EM) {1,0})),(.tup []),(.cst (.p .A8)),(.A1 A5 (.tup [{"kinds"}]) (.A1 Fu {0} {1,0})),{"kind"}]) {2}))] []),(.asg (.nm 3) (.A1 A5 {1,0} (.A1 (A3 Ab) (.A1 (A3 A7) {1} {13,0}) (.A1 (A3 Et) (.Ai Av {0}) {1,0})))),(.ret (.A1 A5 (.A1 A5 (.A1 DC {0} {3}) (.tup [(.call 47 [{0},{3},(.A1 (A3 A7) {1} {91,0})])])) (.A1 Fu {0} (.A1 A5 {3} {1,0}))))]
theorem jh:fns[48]? =some ⟨2,4,dw⟩:=by kernel_rfl
def gF:List S:=[(.asg (.nm 1) (.tup [{0,0},{0,0},{0,0}])),(.WV [(.expr (.call 26 [{0}]))] [([1],some 2,[(.asg (.nm 1) (.Ai EK {2}))])]),(.DI 1)]
theorem kq:fns[49]? =some ⟨1,3,gF⟩:=by kernel_rfl
noncomputable def gE:List S:=[(.asg (.nm 1) (.call 27 [{0},{9,0}])),(.asg (.nm 2) (.tup [{"name"},{"x"}])),(.asg (.nm 3) (.call 39 [{0}])),(.asg (.nm 4) (.A1 A2 (.lst [(.call 40 [{11,0},{2}]),(.A1 A2 (.call 41 [{2}]) {0,0}),(.tup [{"number"},(.A1 (A3 Et) (.A1 (A3 Ge) {10,0} {60,0}) {1,0})]),(.tup [{"number"},(.A1 (A3 Et) {1,0} (.A1 (A3 Ge) {10,0} {60,0}))])]) (.A1 (A3 Ab) {1} {4,0}))),(.Bu 3 true (G1 KA) [(.A1 (A3 Ab) (.A1 (A3 A7) {1} {4,0}) (.A1 A5 (.Ai Av {3}) {1,0})),(.tup [{"def"},{"f"},(.A1 DC (.tup [{"x"},{"y"},{"z"}]) (.A1 (A3 Ab) (.A1 (A3 A7) {1} {4,0}) {4,0})),{4}])]),(.ifs (.A1 Bq (.A1 (A3 Ab) (.A1 (A3 A7) {1} {400,0}) {2,0}) {1,0}) [(.asg (.nm 3) (.A1 A5 {3} (.A1 mulC (.lst [(.tup [{"ask"},{2}])]) (.A1 (A3 Et) {40,0} (.Ai Av {3})))))] []),(.asg (.nm 5) (.Ai CL {3})),(.asg (.nm 6) (.call 26 [{3}])),(.ifs (.or (.not (.Ai (Dq .list) {6})) (.A1 JU {6} {5})) [(.ret (.cst (.p (.bl false))))] []),(.Bu 6 true RY []),(.Be (.nm 7) AM {4,0} [(.asg (.nm 8) (.call 27 [{0},(.A1 A5 {10,0} {7})])),(.asg (.nm 9) (.A1 (A3 Ab) {8} (.Ai Av {3}))),(.asg (.nm 10) (.A1 A5 (.A1 A5 (.A1 DC {3} {9}) (.lst [(.call 48 [(.A1 A2 {3} {9}),(.A1 (A3 A7) {8} {40,0})])])) (.A1 Fu {3} (.A1 A5 {9} {1,0})))),(.ifs (.and (.A1 Bq {7} {3,0}) (.and (.A1 Bq (.A1 (A3 Ab) (.A1 (A3 A7) {1} {800,0}) {2,0}) {1,0}) (.A1 Jm (.Ai Av {10}) {40,0}))) [(.Bu 10 true (BY AL) [(.cst (.p .A8))])] []),(.ifs (.A1 JU (.call 49 [{10}]) (.tup [{9},{0,0}])) [(.ret (.cst (.p (.bl false))))] [])]),(.asg (.nm 11) (.A1 A2 (.lst [(.Ai Eh {3}),(.cst (.p .A8)),(.Ai (λ_=>some (.BC true [])) (.cst (.p .A8))),{"kind"},(.A1 DC (.A1 A5 {3} (.A1 mulC (.lst [(.tup [{"ask"},{2}])]) {41,0})) {41,0}),{7,0}]) (.A1 (A3 Ab) (.A1 (A3 A7) {1} {1600,0}) {6,0}))),(.ret (.and (.A1 ZQ (.call 49 [{11}]) (.cst (.p .A8))) (.and (.A1 Bq (.call 26 [{3}]) {5}) (.A1 Bq {3} {5}))))]
theorem kn:fns[50]? =some ⟨1,12,gE⟩:=by kernel_rfl
theorem km:fns[51]? =some bX:=by kernel_rfl
end Lk10
abbrev _root_.sI(x:Int):Option Nv.C:=some (.p (.int x))
abbrev _root_.sP(x:Nv.P):Option Nv.C:=some (.p x)
abbrev _root_.sL(o:Bool)(x:List Nv.P):Option Nv.C:=some (.lst o x)
local macro_rules
|`(tactic|simp! [$xs,*])=>do
 let f:=λs:String=>(s.splitOn).toArray.map λx=>Lean.mkIdent x.toName
 let b:=f "Nv.iw Nv.Ak Nv.Pc Nv.ZW Nv.eM Nv.VJ Nv.eN Nv.iy Nv.iu Nv.x_raise Nv.iA Nv.v_var Nv.ZZ Nv.Pj Nv.iz Nv.iB Nv.ZY Nv.a9 Nv.v_and Nv.v_or Nv.v_not Nv.Pl Nv.iC Nv.dz Nv.eO Nv.cO Nv.kh Nv.j4 Nv.iY Nv.iZ Nv.cN Nv.j6 Nv.gh Nv.WC Nv.MD Nv.iT Nv.YZ Nv.iV Nv.gd Nv.Co Nv.iM Nv.TZ Nv.Q5 Nv.iL Nv.jL Nv.Bc Nv.jt Nv.ju Nv.HJ Nv.jo Nv.jq Nv.lz Nv.lB Nv.HH Nv.AA Nv.ly Nv.lE Nv.lF Nv.kg Nv.ka Nv.kd Nv.ke Nv.kc Nv.kf Nv.fm if_true if_false Bool.not_true Bool.not_false Bool.false_eq_true reduceIte Option.bind_some Option.map_some Nv.iQ Nv.gk Nv.ft Nv.eu Bool.true_and Bool.and_true Bool.false_and Bool.and_false Bool.true_or Bool.or_true Bool.false_or Bool.or_false";`(tactic|simp only [$[$b:ident],*,$xs,*])
namespace Nv
open PySem Lk10
def asc(x:Str):Bool:=x.cps.all λk=>decide (k < 128)
def Ye(x:Str):Prop:=x.length<=big/\asc x=true
def small(c:Nat):Bool:=decide (97<=c) && decide (c<=122)
def Ko(x:Str):Bool:=decide (1<=x.length) && decide (x.length<=8) && x.cps.all small
def A4:P->Bool
 |.str x=>Ko x
 |_=>false
theorem Lk{f:Nat->Bool}:∀l:List Nat,DT P.Fj (l.map λc=>P.bl (f c))=some (l.map f)
 |[]=>rfl
 |c::l=>by show(some (f c)).bind _=_;rw[Option.bind_some,Lk l];rfl
theorem Jp(a b:Nat):HN (.p (.str ⟨#[a]⟩)) (.p (.str ⟨#[b]⟩))=some (bC (decide (a<=b))):=by
 show some (bC (decide (([a]:List Nat)<=[b])))=_
 congr 2
 by_cases h:a<=b
 .simp[h,List.cons_le_cons_iff];lia
 .simp[h,List.cons_le_cons_iff];lia
variable{cf:CF}
theorem IB{x:Str}{β:Env}{i:Nat}{f:Nat->Bool}(h:∀c,(den cf e).v (β.set i (some (.p (sign c))))= .ok (bC (f c))):Bj (.nm i) (λ_=>.ok true) (den cf e).v β (signs x)= .ok (x.cps.toList.map λc=>P.bl (f c)):=by
 unfold signs;generalize x.cps.toList=l
 induction l with
 |nil=>rfl
 |cons c l ih=>
   show(Res.of (some (β.set i (some (.p (sign c)))))).bind _=_;rw[TZ,Co];show((den cf e).v (β.set i (some (.p (sign c))))).ne.bind _=_;rw[h c];show(Bj (.nm i) (λ_=>.ok true) (den cf e).v β (l.map sign)).bind _=_;rw[ih];rfl
theorem HV(h:Ye x):Ar (.p (.str x))=some (signs x):=by
 show(match(none:Option (List P))with|some a=>some a|none=>((if x.length<=big then some (signs x)else none).bind λps=>if asc x=true then some ps else none))=_;rw[iP h.1,h.2];rfl
theorem Sz(l:List Nat)(f:Nat->Bool):FW (.lst true (l.map λc=>P.bl (f c)))=some (bC (l.all f)):=by
 show((DT P.Fj (l.map λc=>P.bl (f c))).map λbs=>bC (bs.all id))=_;rw[Lk];show some (bC ((l.map f).all id))=_;rw[all_map];rfl
theorem Fw(x:Str):(signs x).length=x.length:=by simp[signs,Str.length]
theorem len_str{x:Str}(h:x.length<=big):Av (.p (.str x))=some (.p (.int x.length)):=by
 show((if x.length<=big then some (signs x)else none).map λps=>C.p (.int ps.length))=_;rw[iP h];show some (C.p (.int (signs x).length))=_;rw[Fw]
def Px:P->Prop
 |.str x=>Ye x
 |.fn _ _=>False
 |_=>True
theorem Mb(k:Nat)(h:Px x): ~~~(k + 1) 0 [.p x]= .ok (bC (A4 x)):=by
 cases x with
 |fn _ _=>exact h.elim
 |str x=>
   refine(call_of (r:=.ret (bC (Ko x))) F0 rfl ?_);show execs _ _ B0 [sP (.str x)]=_;unfold B0;have e1:Dq .str (.p (.str x))=some (bC true):=rfl;have e2:Jm (.p (.int x.length)) (.p (.int 1))=some (bC (decide ((x.length:Int) < 1))):=rfl;have e3:Hq (.p (.int x.length)) (.p (.int 8))=some (bC (decide ((8:Int) < x.length))):=rfl
   have e4:k|||(.Ai FW (.comp (.nm 1) Ar {0} [] (.NI HN HN {"a"} {1} {"z"}) [none,none]))&&&[sP (.str x)]= .ok (bC (x.cps.toList.all small)):=by
    simp! [HV h,Fw,iP h.1];rw[IB (f:=small) λc=>?_,Co,Co,Sz]
    .rfl
    .show(den _ _).v [none,sP (sign c)]=_;unfold sign;simp! [Jp,show(Str.ofString "a")=⟨#[97]⟩from rfl,show(Str.ofString "z")=⟨#[122]⟩from rfl];cases h1:decide (97<=c)<;>simp[small,h1]
   simp! [e1,len_str h.1,e2,e3]
   by_cases h1:1<=x.length
   .by_cases h2:x.length<=8
    .have:(decide ((x.length:Int) < 1) || decide ((8:Int) < x.length))=false:=by simp;lia
     simp! [this,↓e4];simp[Ko,h1,h2,Array.all_toList]
    .have:(decide ((x.length:Int) < 1) || decide ((8:Int) < x.length))=true:=by simp;lia
     simp! [this];simp[Ko,h2]
   .have:(decide ((x.length:Int) < 1) || decide ((8:Int) < x.length))=true:=by simp;lia
    simp! [this];simp[Ko,h1]
 |box t ps=>cases t<;>exact call_of (r:=.ret (bC false)) F0 rfl rfl
 |_=>exact call_of (r:=.ret (bC false)) F0 rfl rfl
theorem Fo{c:Env->Res Bool}{b:Env->Fl}:∀(n:Nat) (ρ:Env),As c b n ρ≠.stuck->As c b (n + 1) ρ=As c b n ρ
 |0,ρ,h=>absurd rfl h
 | n + 1,ρ,h=>by
   have e1:∀m,As c b (m+1) ρ=(c ρ).fl ρ λx=>if x then(b ρ).turn (As c b m)else .nx ρ:=λm=>rfl
   rw[e1]at h;rw[e1,e1];cases hc:c ρ with
   |stuck=>rfl
   |err _ _=>rfl
   |ok x=>
     rw[hc]at h;cases x with
     |false=>rfl
     |true=>
       have h':(b ρ).turn (As c b n)≠.stuck:=h;show(b ρ).turn (As c b (n+1))=(b ρ).turn (As c b n);cases hb:b ρ with
       |nx ρ'=>rw[hb]at h';exact Fo n ρ' h'
       |cnt ρ'=>rw[hb]at h';exact Fo n ρ' h'
       |_=>rfl
variable{n:Nat}
theorem Es{c:Env->Res Bool}{b:Env->Fl}(h:As c b n ρ≠.stuck):∀m,As c b (n + m) ρ=As c b n ρ
 |0=>rfl
 | m + 1=>by
   have ih:=Es h m;rw[<-ih];exact Fo (n+m) ρ (by rw[ih];exact h)
theorem GG{c:Env->Res Bool}{b:Env->Fl}{r:Fl}(e:As c b n ρ=r)(h:r≠.stuck):AW c b ρ=r:=by
 have hn:As c b n ρ≠.stuck:=by rw[e];exact h
 have hx:∃n,As c b n ρ≠.stuck:=⟨n,hn⟩;unfold AW;rw[dif_pos hx,<-e];have:=Es hx.choose_spec n;rw[<-this,Nat.add_comm];exact Es hn _
theorem GH(c:Env->Res Bool)(b:Env->Fl)(n:Nat)(ρ:Env):As c b (n+1) ρ=(c ρ).fl ρ λx=>if x then(b ρ).turn (As c b n)else .nx ρ:=rfl
mutual
def Ay:P->Bool
 |.str x=>decide (x.length<=big) && asc x
 |.tup ps=>EL ps
 |.box _ ps=>EL ps
 |.fn _ _=>false
 |_=>true
def EL:List P->Bool
 |[]=>true
 |p::ps=>Ay p && EL ps
end
theorem DM:∀ps:List P,EL ps=true↔∀x∈ps,Ay x=true
 |[]=>by simp[EL]
 |p::ps=>by simp[EL,DM ps]
theorem Cp{ps:List P}(h:Ay (.tup ps)=true):∀x∈ps,Ay x=true:=(DM ps).mp (by unfold Ay at h;exact h)
theorem QB(h:Ay x=true):Px x:=by
 unfold Ay at h;cases x<;>simp_all [Px,Ye]
theorem Bs(k:Nat)(h:Ay x=true): ~~~(k+1) 0 [.p x]= .ok (bC (A4 x)):=Mb k (QB h)
def Fn:P->Bool
 |.int _=>true
 |_=>false
def CQ:P->Bool
 |.int i=>decide (0<=i)
 |_=>false
def Kq:List P->Bool
 |[]=>false
 |a::r=>decide (r.length<=3) && A4 a
def CJ:P->Bool
 |.tup ps=>Kq ps
 |_=>false
theorem DQ(k:Nat)(h:Ay x=true): ~~~(k + 1) 1 [.p x]= .ok (bC (Fn x)):=by
 cases x with
 |fn _ _=>cases h
 |box t ps=>cases t<;>exact call_of (r:=.ret (bC false)) F1 rfl rfl
 |int _=>exact call_of (r:=.ret (bC true)) F1 rfl rfl
 |_=>exact call_of (r:=.ret (bC false)) F1 rfl rfl
theorem Ma(k:Nat)(h:Ay x=true): ~~~(k + 2) 2 [.p x]= .ok (bC (CQ x)):=by
 refine(call_of (r:=.ret (bC (CQ x))) F2 rfl ?_);show execs _ _ B2 [sP x]=_;unfold B2;simp! [DQ k h];cases x with
 |int i=>
   have e:dM (.p (.int i)) (.p (.int 0))=some (bC (decide (0<=i))):=rfl;simp! [Fn,CQ,e]
 |_=>rfl
theorem PN{ps:List P}{k:Nat}{x:P}(h:ps[k]? =some x):A2 (.p (.tup ps)) (.p (.int k))=some (.p x):=by
 have hk:k < ps.length:=(List.getElem?_eq_some_iff.mp h).1;show((G5 ps.length (k:Int)).bind λk=>(ps[k]?).map C.p)=_;unfold G5;rw[iP (by lia),iP (by lia),Option.bind_some,Int.toNat_natCast,h];rfl
theorem X7(a:P)(r:List P):A2 (.p (.tup (a::r))) (.p (.int 0))=some (.p a):=PN (k:=0) rfl
theorem AG(ps:List P):Av (.p (.tup ps))=some (.p (.int ps.length)):=rfl
theorem lt_int(i j:Int):Jm (.p (.int i)) (.p (.int j))=some (bC (decide (i < j))):=rfl
theorem gt_int(i j:Int):Hq (.p (.int i)) (.p (.int j))=some (bC (decide (j < i))):=rfl
theorem UI(k:Nat)(h:Ay x=true): ~~~(k + 2) 3 [.p x]= .ok (bC (CJ x)):=by
 cases x with
 |fn _ _=>cases h
 |box t ps=>cases t<;>exact call_of (r:=.ret (bC false)) F3 rfl rfl
 |tup ps=>
   refine(call_of (r:=.ret (bC (Kq ps))) F3 rfl ?_);show execs _ _ B3 [sP (.tup ps)]=_;unfold B3;have e1:Dq .tuple (.p (.tup ps))=some (bC true):=rfl;have e2:A5 (.p (.int 1)) (.p (.int 3))=some (.p (.int 4)):=rfl;simp! [e1,e2,AG,lt_int,gt_int];cases ps with
   |nil=>rfl
   |cons a r=>
     by_cases h2:r.length<=3
     .have:(decide ((↑(a::r).length:Int) < 1) || decide ((4:Int) < ↑(a::r).length))=false:=by simp;lia
      simp! [this,X7,Bs k (Cp h a (.head _))];simp[Kq,h2]
     .have:(decide ((↑(a::r).length:Int) < 1) || decide ((4:Int) < ↑(a::r).length))=true:=by simp;lia
      simp! [this];simp[Kq,h2]
 |_=>exact call_of (r:=.ret (bC false)) F3 rfl rfl
def tl:P->List P
 |.tup ps=>ps.tail
 |_=>[]
def kl:Nat->List P->Bool
 |_,[]=>true
 |0,_::_=>false
 |n+1,x::r=>if CJ x then kl n ((tl x).reverse++r)else CQ x && kl n r
theorem Wj(h:Ay x=true):∀y∈tl x,Ay y=true:=by
 cases x with
 |tup ps=>exact λy hy=>Cp h y (List.mem_of_mem_tail hy)
 |_=>exact λy hy=>by cases hy
theorem VZ{ps:List P}:Fu (.p (.tup ps)) (.p (.int 1))=some (.p (.tup ps.tail)):=by
 show some (C.p (.tup (cut ps (some 1) none)))=_
 congr 3
 unfold cut Cd;cases ps with
 |nil=>rfl
 |cons a r=>simp
theorem add_int(i j:Int):A5 (.p (.int i)) (.p (.int j))=some (.p (.int (i+j))):=rfl
theorem Ez(o:Bool)(ps:List P):Gd (.lst o ps)=some (!ps.isEmpty):=rfl
theorem V4(ps qs:List P):BY HQ (.lst true ps) [.p (.tup qs)]=if(ps++qs).length<=big then some (nw (ps++qs))else none:=by
 show((GI (ps++qs)).map nw)=_;unfold GI;split<;>rfl
theorem Jl(h:CJ x=true):∃ps,x= .tup ps/\ps.tail.length<=3:=by
 cases x with
 |tup ps=>
   refine⟨ps,rfl,?_⟩;cases ps with
   |nil=>cases h
   |cons a r=>simp[CJ,Kq]at h;exact h.1
 |_=>cases h
noncomputable abbrev b4 (k:Nat):Env->Fl:=execs (~~~k) AW [(.asg (.nm 2) (.A1 A5 {2} {1,0})),(.ifs (.A1 Hq {2} {24,0}) [(.ret (.cst (.p (.bl false))))] []),(.pop (some 3) 1),(.ifs (.call 3 [{3}]) [(.Bu 1 true (BY HQ) [(.A1 Fu {3} {1,0})])] [(.ifs (.not (.call 2 [{3}])) [(.ret (.cst (.p (.bl false))))] [])])]
noncomputable abbrev c1 (k:Nat):Env->Res Bool:=(den (~~~k) {1}).b
theorem J6(x:P)(r:List P):J9 (.lst true (x::r).reverse)=some (x,.lst true r.reverse):=by
 show((x::r).reverse.getLast?.map λy=>(y,C.lst true (x::r).reverse.dropLast))=_;simp
theorem WA(k n:Nat)(a y:Option C)(x:P)(r:List P)(hx:Ay x=true)(hl:(x::r).length<=100)(hn:n<=24):b4 (k + 2) [a,sL true (x::r).reverse,sI ((24 - n:Nat):Int),y]=if n=0 then .ret (bC false)else if CJ x then .nx [a,sL true ((tl x).reverse++r).reverse,sI ((24 - (n - 1):Nat):Int),sP x]else if CQ x then .nx [a,sL true r.reverse,sI ((24 - (n - 1):Nat):Int),sP x]else .ret (bC false):=by
 unfold b4;simp! [add_int,gt_int];cases n with
 |zero=>rfl
 |succ n=>
   have e1:decide ((24:Int) < ((24-n:Nat):Int))=false:=by simp;lia
   have e2:((24-(n+1):Nat):Int)+1=((24-n:Nat):Int):=by lia
   rw[iN (Nat.succ_ne_zero n)];simp! [e1,e2,J6,UI k hx,Nat.add_sub_cancel,show((3:Nat)=1)=False from by decide];cases hm:CJ x with
   |true=>
     obtain⟨ps,rfl,h3⟩:=Jl hm
     have h4:(r.reverse++ps.tail).length<=big:=by
      have:r.length<=99:=by simpa using hl
      rw[lA,List.length_reverse];unfold big
      lia
     simp! [VZ,V4,iP h4,Option.any_some,C.Ew,cond_true,tl,List.reverse_append,List.reverse_reverse]
   |false=>
     simp! [Ma k hx];cases CQ x<;>rfl
theorem FE(k:Nat)(a:Option C):∀(n:Nat) (st:List P) (y:Option C),(∀x∈st,Ay x=true)->st.length + 2 * n<=100->n<=24->(kl n st=true->∃y' s',As (c1 (k + 2)) (b4 (k + 2)) (n + 1) [a,sL true st.reverse,sI ((24 - n:Nat):Int),y]= .nx [a,sL true [],s',y'])/\(kl n st=false->As (c1 (k + 2)) (b4 (k + 2)) (n + 1) [a,sL true st.reverse,sI ((24 - n:Nat):Int),y]= .ret (bC false))
 | n,[],y,_,_,_=>by
   refine⟨λ_=>⟨y,sI ((24-n:Nat):Int),rfl⟩,λh=>?_⟩;unfold kl at h;cases h
 | 0,x::r,y,ho,hl,hn=>by
   rw[GH]
   have e0:c1 (k + 2) [a,sL true (x::r).reverse,sI ((24 - 0:Nat):Int),y]= .ok true:=by
    unfold c1;simp! [Ez];simp
   rw[e0,WA k 0 a y x r (ho x (.head _)) (by lia) hn];refine⟨λh=>(by cases h),λ_=>rfl⟩
 | n + 1,x::r,y,ho,hl,hn=>by
   rw[GH]
   have e0:c1 (k + 2) [a,sL true (x::r).reverse,sI ((24 - (n + 1):Nat):Int),y]= .ok true:=by
    unfold c1;simp! [Ez];simp
   rw[e0,WA k (n+1) a y x r (ho x (.head _)) (by lia) hn,iN (Nat.succ_ne_zero n)];have ek:kl (n+1) (x::r)=if CJ x then kl n ((tl x).reverse++r)else CQ x && kl n r:=rfl
   rw[ek];cases hm:CJ x with
   |true=>
     have h3:(tl x).length<=3:=by obtain⟨ps,rfl,h3⟩:=Jl hm;exact h3
     refine FE k a n ((tl x).reverse++r) (some (.p x)) (λz hz=>?_) (by simp at hl ⊢;lia) (by lia);rcases mZ hz with hz|hz
     .exact Wj (ho x (.head _)) z (List.mem_reverse.mp hz)
     .exact ho z (.tail _ hz)
   |false=>
     cases hp:CQ x with
     |true=>
       exact FE k a n r (some (.p x)) (λz hz=>ho z (.tail _ hz)) (by simp at hl ⊢;lia) (by lia)
     |false=>exact⟨λh=>(by cases h),λ_=>rfl⟩
def kindB(x:P):Bool:=kl 24 [x]
theorem Hm(k:Nat)(h:Ay x=true): ~~~(k + 3) 4 [.p x]= .ok (bC (kindB x)):=by
 refine(call_of (r:=.ret (bC (kindB x))) F4 rfl ?_);show execs _ _ B4 [sP x,none,none,none]=_;unfold B4;have hw:=FE k (some (.p x)) 24 [x] none (by simpa using h) (by simp) (lR);simp! [show([x]:List P).length<=1000 from by simp,Pb];show(AW (c1 (k+2)) (b4 (k+2)) [sP x,sL true [x],sI 0,none]).then _=_;cases hk:kindB x with
 |true=>
   obtain⟨y',s',e⟩:=hw.1 hk;have ew:AW (c1 (k+2)) (b4 (k+2)) [sP x,sL true [x],sI 0,none]=_:=GG e (by intro h;cases h);rw[ew];rfl
 |false=>
   have ew:AW (c1 (k+2)) (b4 (k+2)) [sP x,sL true [x],sI 0,none]=_:=GG (hw.2 hk) (by intro h;cases h);rw[ew];rfl
mutual
def sz:P->Nat
 |.tup ps=>1+iK ps
 |_=>1
def iK:List P->Nat
 |[]=>0
 |_::r=>Ft r
def Ft:List P->Nat
 |[]=>0
 |p::r=>sz p+Ft r
end
theorem Gk:∀a b:List P,Ft (a++b)=Ft a + Ft b
 |[],b=>by simp[Ft]
 |p::a,b=>by simp[Ft,Gk a b];lia
theorem ML:∀a:List P,Ft a.reverse=Ft a
 |[]=>rfl
 |p::a=>by simp[Ft,Gk,ML a];lia
theorem K0:∀x:P,sz x=1 + Ft (tl x)
 |.tup ps=>by cases ps<;>simp[sz,iK,tl,Ft]
 |.A8=>by simp[sz,tl,Ft]
 |.bl _=>by simp[sz,tl,Ft]
 |.int _=>by simp[sz,tl,Ft]
 |.str _=>by simp[sz,tl,Ft]
 |.fn _ _=>by simp[sz,tl,Ft]
 |.box _ _=>by simp[sz,tl,Ft]
theorem MM:∀a:List P,a.length<=Ft a
 |[]=>Nat.zero_le _
 |p::a=>by have:=MM a;have:=K0 p;simp[Ft];lia
def dH(x:P):Bool:=x.CV.isSome || CQ x
theorem QZ:∀(n:Nat) (st:List P),kl n st=true->Ft st<=n
 |n,[],_=>Nat.zero_le _
 |0,_::_,h=>by cases h
 | n + 1,x::r,h=>by
   have ek:kl (n+1) (x::r)=if CJ x then kl n ((tl x).reverse++r)else CQ x && kl n r:=rfl
   rw[ek]at h;cases hm:CJ x with
   |true=>
     rw[hm]at h;have:=QZ n _ h;rw[Gk,ML]at this;have:=K0 x;simp[Ft];lia
   |false=>
     rw[hm]at h;simp at h;have:=QZ n _ h.2;have:tl x=[]:=by cases x<;>simp[CQ]at h<;>rfl
     have e:=K0 x;rw[this]at e;simp[Ft]at e ⊢;lia
def kw:Nat->List P->List P
 |_,[]=>[]
 |0,_=>[]
 |n+1,x::r=>x::kw n (tl x++r)
noncomputable abbrev b5 (k:Nat):Env->Fl:=execs (~~~k) AW [(.pop (some 3) 2),(.Bu 1 true (BY AL) [{3}]),(.ifs (.Ai (Dq .tuple) {3}) [(.Bu 2 true (BY HQ) [(.Ai Ks (.A1 Fu {3} {1,0}))])] [])]
noncomputable abbrev c2 (k:Nat):Env->Res Bool:=(den (~~~k) {2}).b
theorem Bf(ps:List P)(x:P)(h:ps.length < big):BY AL (.lst true ps) [.p x]=some (nw (ps++[x])):=by
 show(if ps.length < big then some (nw (ps++[x]))else none)=_;rw[iP h]
theorem KS(ps qs:List P)(o:Bool)(h:(ps++qs).length<=big):BY HQ (.lst true ps) [.lst o qs]=some (nw (ps++qs)):=by
 show((GI (ps++qs)).map nw)=_;unfold GI;rw[iP h];rfl
theorem cQ(k:Nat)(a y:Option C)(x:P)(r w:List P)(hx:Ay x=true)(hw:w.length < big)(hl:(r.reverse++(tl x).reverse).length<=big):b5 k [a,sL true w,sL true (x::r).reverse,y]= .nx [a,sL true (w++[x]),sL true (tl x++r).reverse,sP x]:=by
 unfold b5;simp! [J6,Bf w x hw,Option.any_some,C.Ew,cond_true,show((3:Nat)=2)=False from by decide];cases x with
 |tup ps=>
   have e1:Dq .tuple (.p (.tup ps))=some (bC true):=rfl;have e2:Ks (.p (.tup ps.tail))=some (.lst true ps.tail.reverse):=rfl;have h':(r.reverse++ps.tail.reverse).length<=big:=hl;simp! [e1,VZ,e2,KS _ _ _ h',C.Ew,tl,List.reverse_append,Option.any_some,cond_true]
 |fn _ _=>cases hx
 |box t ps=>cases t<;>rfl
 |_=>rfl
theorem Nk(k:Nat)(a:Option C):∀(n:Nat) (st w:List P) (y:Option C),(∀x∈st,Ay x=true)->Ft st<=n->w.length + n<=1000->∃y',As (c2 k) (b5 k) (n + 1) [a,sL true w,sL true st.reverse,y]= .nx [a,sL true (w++kw n st),sL true [],y']
 |n,[],w,y,_,_,_=>⟨y,by
     have e:kw n []=[]:=by cases n<;>rfl
     rw[e,append_nil]
     rfl⟩
 |0,x::r,w,y,_,h,_=>by have:=K0 x;simp[Ft]at h;lia
 | n + 1,x::r,w,y,ho,h,hw=>by
   have e:=K0 x;simp only[Ft]at h;have h1:Ft (tl x++r)<=n:=by rw[Gk];lia
   have h2:=MM (tl x++r)
   have h3:(r.reverse++(tl x).reverse).length<=big:=by
    simp at h2 ⊢;unfold big
    lia
   have h4:w.length < big:=by unfold big;lia
   rw[GH]
   have e0:c2 k [a,sL true w,sL true (x::r).reverse,y]= .ok true:=by
    unfold c2;simp! [Ez];simp
   rw[e0,cQ k a y x r w (ho x (.head _)) h4 h3]
   obtain⟨y',e⟩:=Nk k a n (tl x++r) (w++[x]) (some (.p x)) (λz hz=>by
    rcases mZ hz with hz|hz
    .exact Wj (ho x (.head _)) z hz
    .exact ho z (.tail _ hz)) h1 (by simp;lia)
   refine⟨y',?_⟩;rw[Q5,iP rfl,HJ,e];simp[kw]
theorem NY(k:Nat)(h:Ay x=true)(hk:kindB x=true): ~~~(k + 1) 5 [.p x]= .ok (.lst true (kw 24 [x])):=by
 refine(call_of (r:=.ret (.lst true (kw 24 [x]))) F5 rfl ?_);show execs _ _ B5 [sP x,none,none,none]=_;unfold B5;obtain⟨y',hw⟩:=Nk k (some (.p x)) 24 [x] [] none (by simpa using h) (QZ 24 [x] hk) (by simp);simp! [show([x]:List P).length<=1000 from by simp,show([]:List P).length<=1000 from by simp,Pb];have ew:AW (c2 k) (b5 k) [sP x,sL true [],sL true [x],none]=_:=GG hw (by intro h;cases h);show(AW (c2 k) (b5 k) [sP x,sL true [],sL true [x],none]).then _=_;rw[ew];rfl
def Gr(ks:List Int):List (P×P):=ks.map λi=>(.int i,.bl true)
def Ff(ks:List Int)(x:P):List Int:=match x with
 |.int i=>if ks.contains i then ks else ks++[i]
 |_=>ks
theorem Vz(ks:List Int)(i:Int):((Gr ks).any λq=>decide (q.1=P.int i))=ks.contains i:=by
 induction ks with
 |nil=>rfl
 |cons j ks ih=>
   show(decide (P.int j=P.int i) || (Gr ks).any λq=>decide (q.1=P.int i))=_;rw[ih,contains_cons]
   congr 1
   by_cases h:j=i
   .subst h;simp
   .have:¬P.int j=P.int i:=λe=>h (P.int.inj e)
    have h':¬i=j:=λe=>h e.symm
    simp[this,h']
theorem RL(ks:List Int)(i:Int):dput (Gr ks) (.int i) (.bl true)=Gr (Ff ks (.int i)):=by
 unfold dput Ff;rw[Vz]
 by_cases h:ks.contains i=true
 .rw[iP h];simp only[h,if_true];unfold Gr;rw[map_map];refine List.map_congr_left λj _=>?_
  show(if P.int j=P.int i then(P.int j,P.bl true)else(P.int j,P.bl true))=_;split<;>rfl
 .rw[iN h];simp only[h,if_false];simp[Gr]
theorem BN(cf:CF)(wh:WH)(g:Tg)(k:Sq)(it:T)(b:List S)(ρ:Env)(h:ER it=none):exec cf wh (.Be g k it b) ρ=((den cf it).v ρ).fl ρ λc=>match k c with|some xs=>if c.own then(forL g (execs cf wh b) xs ρ).fin id else .stuck|none=>.stuck:=by
 show(match ER it with
  |some i=>_
  |none=>((den cf it).v ρ).fl ρ λc=>match k c with|some xs=>if c.own then(forL g (execs cf wh b) xs ρ).fin id else .stuck|none=>.stuck)=_
 rw[h]
theorem bY(g:Tg)(b:Env->Fl)(ρ:Env):forL g b [] ρ= .nx ρ:=rfl
theorem Jr(i:Nat)(b:Env->Fl)(x:P)(xs:List P)(ρ:Env):forL (.nm i) b (x::xs) ρ=(b (ρ.set i (some (.p x)))).turn (forL (.nm i) b xs):=rfl
theorem Hf(ρ:Env)(f:Env->Env):(Fl.nx ρ).fin f= .nx (f ρ):=rfl
mutual
def R5:P->Bool
 |.tup ps=>Wq ps
 |.int i=>decide (0<=i)
 |_=>false
def Wq:List P->Bool
 |[]=>true
 |_::r=>C4 r
def C4:List P->Bool
 |[]=>true
 |p::r=>R5 p && C4 r
end
theorem Ea:∀a b:List P,C4 (a++b)=(C4 a && C4 b)
 |[],b=>by simp[C4]
 |p::a,b=>by simp[C4,Ea a b,Bool.and_assoc]
theorem Io:∀a:List P,C4 a.reverse=C4 a
 |[]=>rfl
 |p::a=>by simp[C4,Ea,Io a,Bool.and_comm]
theorem Nl{ps:List P}:R5 (.tup ps)=C4 (tl (.tup ps)):=by cases ps<;>simp[R5,Wq,tl,C4]
theorem Js:∀(n:Nat) (st:List P),kl n st=true->C4 st=true
 |n,[],_=>by simp[C4]
 |0,_::_,h=>by cases h
 | n + 1,x::r,h=>by
   have ek:kl (n+1) (x::r)=if CJ x then kl n ((tl x).reverse++r)else CQ x && kl n r:=rfl
   rw[ek]at h;cases hm:CJ x with
   |true=>
     rw[hm]at h;have:=Js n _ h;rw[Ea,Io]at this;obtain⟨ps,rfl,_⟩:=Jl hm;simp only[C4,Nl];exact this
   |false=>
     rw[hm]at h;simp at h;have:=Js n _ h.2;cases x<;>simp[CQ]at h<;>simp[C4,R5,h,this]
theorem Wn:∀(n:Nat) (st:List P),C4 st=true->∀x∈kw n st,dH x=true
 |n,[],_,x,hx=>by cases n<;>cases hx
 |0,_::_,_,x,hx=>by cases hx
 | n + 1,y::r,h,x,hx=>by
   simp only[C4,bA]at h;rcases mK hx with rfl|hx
   .cases x<;>simp_all [R5,dH,P.CV,CQ]
   .refine Wn n _ ?_ x hx;rw[Ea,h.2,Bool.and_true];cases y with
    |tup ps=>rw[<-Nl];exact h.1
    |_=>simp[tl,C4]
theorem M3:∀(n:Nat) (st:List P),(kw n st).length<=n
 |n,[]=>by cases n<;>simp[kw]
 |0,_::_=>Nat.zero_le _
 |n+1,y::r=>by simp[kw];exact M3 n _
noncomputable abbrev b6 (k:Nat):Env->Fl:=execs (~~~k) AW [(.ifs (.Ai (Dq .int) {2}) [(.Bu 1 false (G1 λc x k=>Ei c k x) [(.cst (.p (.bl true))),{2}])] [])]
theorem U2(ks:List Int)(i:Int)(h:ks.length < big):G1 (λc x k=>Ei c k x) (.BC true (Gr ks)) [.p (.bl true),.p (.int i)]=some (.BC true (Gr (Ff ks (.int i)))):=by
 show(if D6 (Gr ks) (.int i)/\(Gr ks).length < big then some (C.BC true (dput (Gr ks) (.int i) (.bl true)))else none)=_
 have h1:D6 (Gr ks) (.int i)=true:=by
  unfold D6 keyOk;simp[Gr,P.tag]
 rw[iP ⟨h1,by simpa[Gr]using h⟩,RL]
theorem cP(k:Nat)(a:Option C)(x:P)(ks:List Int)(hx:dH x=true)(h:ks.length < big):b6 k [a,some (.BC true (Gr ks)),sP x]= .nx [a,some (.BC true (Gr (Ff ks x))),sP x]:=by
 unfold b6;cases x with
 |int i=>
   have e1:Dq .int (.p (.int i))=some (bC true):=rfl;simp! [e1,U2 ks i h,Option.any_some,cond_false]
 |tup ps=>rfl
 |_=>cases hx
theorem Ll(ks:List Int)(x:P):(Ff ks x).length<=ks.length + 1:=by
 unfold Ff;split
 .split<;>simp
 .lia
theorem Si(k:Nat)(a:Option C):∀(l:List P) (ks:List Int) (y:Option C),(∀x∈l,dH x=true)->ks.length + l.length<=1000->∃y',forL (.nm 2) (b6 k) l [a,some (.BC true (Gr ks)),y]= .nx [a,some (.BC true (Gr (l.foldl Ff ks))),y']
 |[],ks,y,_,_=>⟨y,rfl⟩
 | x::l,ks,y,ho,hl=>by
   rw[Jr,AA,AA,HH,cP k a x ks (ho x (.head _)) (by simp at hl;unfold big;lia),HJ];have:=Ll ks x;exact Si k a l (Ff ks x) (some (.p x)) (λz hz=>ho z (.tail _ hz)) (by simp at hl;lia)
def LN(x:P):List Int:=(kw 24 [x]).foldl Ff []
theorem Qx(k:Nat)(h:Ay x=true)(hk:kindB x=true): ~~~(k + 2) 6 [.p x]= .ok (.lst true ((LN x).map .int)):=by
 refine(call_of (r:=.ret (.lst true ((LN x).map .int))) F6 rfl ?_);show execs _ _ B6 [sP x,none,none]=_;unfold B6;have h1:=Wn 24 [x] (Js 24 [x] hk);have h2:=M3 24 [x];obtain⟨y',e⟩:=Si (k+1) (some (.p x)) (kw 24 [x]) [] none h1 (by simp;lia);have e1:Ar (.lst true (kw 24 [x]))=some (kw 24 [x]):=rfl;simp! [BN _ _ _ _ (.call 5 [{0}]) _ _ rfl,NY k h hk,e1,show C.own (.BC true [])=true from rfl];show((forL (.nm 2) (b6 (k+1)) (kw 24 [x]) [sP x,some (.BC true (Gr [])),none]).fin id).then _=_;rw[e,Hf,Bc];have e2:C.bor (.BC true (Gr (LN x)))= .BC false (Gr (LN x)):=rfl;have e3:CL (.BC false (Gr (LN x)))=some (nw ((Gr (LN x)).map (·.1))):=rfl;simp! [id,show List.foldl Ff [] (kw 24 [x])=LN x from rfl,e2,e3];simp[Gr,Function.comp_def]
theorem N6(p:Int->Bool)(f:P->Bool)(hf:∀i,f (.int i)=p i)(ht:∀x,Fn x=false->f x=true):∀(l:List P) (ks:List Int),(l.foldl Ff ks).all p=(ks.all p && l.all f)
 |[],ks=>by simp
 | x :: l,ks=>by
   rw[List.foldl_cons,N6 p f hf ht l];cases x with
   |int i=>
     simp only[Ff,all_cons,hf]
     by_cases hc:ks.contains i=true
     .rw[iP hc];cases hk:ks.all p with
      |false=>rfl
      |true=>
        have:p i=true:=(all_eq_true.mp hk) i (by simpa using hc);rw[this];rfl
     .rw[iN hc,all_append];simp[Bool.and_assoc]
   |_=>rw[all_cons,show f _=true from ht _ rfl];rfl
theorem D9{β:Env}{i:Nat}{f:P->Bool}:∀{xs:List P},(∀x∈xs,(den cf e).v (β.set i (some (.p x)))= .ok (bC (f x)))->Bj (.nm i) (λ_=>.ok true) (den cf e).v β xs= .ok (xs.map λx=>P.bl (f x))
 |[],_=>rfl
 | x::l,h=>by
   show(Res.of (some (β.set i (some (.p x))))).bind _=_;rw[TZ,Co];show((den cf e).v (β.set i (some (.p x)))).ne.bind _=_;rw[h x (.head _)];show(Bj (.nm i) (λ_=>.ok true) (den cf e).v β l).bind _=_;rw[D9 λy hy=>h y (.tail _ hy)];rfl
theorem NV{f:P->Bool}:∀l:List P,DT P.Fj (l.map λc=>P.bl (f c))=some (l.map f)
 |[]=>rfl
 |c::l=>by show(some (f c)).bind _=_;rw[Option.bind_some,NV l];rfl
theorem Fe(l:List P)(f:P->Bool):FW (.lst true (l.map λc=>P.bl (f c)))=some (bC (l.all f)):=by
 show((DT P.Fj (l.map λc=>P.bl (f c))).map λbs=>bC (bs.all id))=_;rw[NV];show some (bC ((l.map f).all id))=_;rw[all_map];rfl
def ltB(m:Int):P->Bool
 |.int i=>decide (i < m)
 |_=>true
def An(m:Int)(x:P):Bool:=kindB x && (kw 24 [x]).all (ltB m)
theorem Lb(k:Nat)(m:Int)(h:Ay x=true): ~~~(k + 4) 18 [.p x,.p (.int m)]= .ok (bC (An m x)):=by
 refine(call_of (r:=.ret (bC (An m x))) l8 rfl ?_);show execs _ _ i9 [sP x,sI m]=_;unfold i9 An;cases hk:kindB x with
 |false=>simp! [Hm k h,hk,Bool.false_and]
 |true=>
   have hl:(List.map P.int (LN x)).length<=big:=by
    have h3:∀(l:List P) (ks:List Int),(l.foldl Ff ks).length<=ks.length + l.length:=by
     intro l
     induction l with
     |nil=>intro ks;simp
     |cons x l ih=>intro ks;have:=ih (Ff ks x);have:=Ll ks x;simp;lia
    have:=h3 (kw 24 [x]) [];have:=M3 24 [x];rw[lM];unfold LN big;simp at *
    lia
   have e1:Ar (.lst true ((LN x).map .int))=some ((LN x).map .int):=rfl
   have e2:(LN x).all (λi=>decide (i < m))=(kw 24 [x]).all (ltB m):=by
    unfold LN;rw[N6 (λi=>decide (i < m)) (ltB m) (λ_=>rfl) (λx hx=>by cases x<;>first|rfl|cases hx)];rfl
   have ec:Bj (.nm 1) (λ_=>.ok true) (den (~~~(k + 3)) (.A1 Jm {1} {2})).v (AE [none,none,some 1] [sP x,sI m]) ((LN x).map .int)= .ok (((LN x).map .int).map λy=>P.bl (ltB m y)):=D9 λy hy=>by
    obtain⟨i,_,rfl⟩:=mem_map.mp hy;rfl
   simp! [Hm k h,hk,Qx (k+1) h hk,e1,iP hl,ec,Fe,Bool.true_and];rw[<-e2,all_map];rfl
theorem eq_int(a b:Int):Bq (.p (.int a)) (.p (.int b))=some (bC (decide (a=b))):=by
 show some (bC (decide (P.int a=P.int b)))=_;simp
theorem ne_int(a b:Int):JU (.p (.int a)) (.p (.int b))=some (bC (!decide (a=b))):=by
 show some (bC (!decide (P.int a=P.int b)))=_;simp
theorem eq_str(a b:Str):Bq (.p (.str a)) (.p (.str b))=some (bC (decide (a=b))):=by
 show some (bC (decide (P.str a=P.str b)))=_;simp
theorem le_int(i j:Int):HN (.p (.int i)) (.p (.int j))=some (bC (decide (i<=j))):=rfl
theorem Cj{ps:List P}(k:Nat)(h:k < ps.length):A2 (.p (.tup ps)) (.p (.int k))=some (.p (ps.getD k .A8)):=by
 refine PN ?_;rw[getD_eq_getElem?_getD,List.getElem?_eq_getElem h];rfl
theorem Aa{ps:List P}(h:Ay (.tup ps)=true)(k:Nat):Ay (ps.getD k .A8)=true:=by
 rw[getD_eq_getElem?_getD];cases e:ps[k]? with
 |none=>rfl
 |some x=>exact Cp h x (mem_of_getElem? e)
theorem Dp(ps:List P):Dq .tuple (.p (.tup ps))=some (bC true):=rfl
def great(c:Nat):Bool:=decide (65<=c) && decide (c<=90)
def Iq:List Nat->Bool
 |[]=>false
 |c::r=>decide (r.length<=7) && (great c && r.all small)
def Bi:P->Bool
 |.str x=>Iq x.cps.toList
 |_=>false
theorem BU(x:Str):x.cps.toList.length=x.length:=by simp[Str.length]
theorem Tc{x:Str}{c:Nat}{r:List Nat}(e:x.cps.toList=c::r)(h:x.length<=big):A2 (.p (.str x)) (.p (.int 0))=some (.p (sign c)):=by
 show((if x.length<=big then some (signs x)else none).bind λps=>(G5 ps.length 0).bind λk=>(ps[k]?).map C.p)=_;rw[iP h,Option.bind_some];unfold signs;rw[e];unfold G5;simp
theorem LC{x:Str}{c:Nat}{r:List Nat}(e:x.cps.toList=c::r)(h:x.length<=big):Fu (.p (.str x)) (.p (.int 1))=some (.p (.str ⟨r.toArray⟩)):=by
 show(if _/\x.length<=big then some (C.p (.str ⟨(cut x.cps.toList (some 1) none).toArray⟩))else none)=_;rw[iP ⟨by decide,h⟩,e]
 congr 4
 unfold cut Cd;simp
theorem Uo{x:Str}{c:Nat}{r:List Nat}(e:x.cps.toList=c::r)(h:Ye x):Ye ⟨r.toArray⟩:=by
 have h1:=BU x;rw[e]at h1;have h2:x.cps.toList.all (λk=>decide (k < 128))=true:=by have:=h.2;unfold asc at this;rw[<-Array.all_toList]at this;exact this
 rw[e]at h2;refine⟨?_,?_⟩
 .have:=h.1;simp[Str.length]at *;lia
 .unfold asc;rw[<-Array.all_toList];simp only[all_cons,bA]at h2;exact h2.2
theorem P4(k:Nat)(x:Str)(h:Ye x)(ρ:Env):Bj (.nm 1) (λ_=>.ok true) (den (~~~k) (.NI HN HN {"a"} {1} {"z"})).v [none,none] (signs x)= .ok (x.cps.toList.map λc=>P.bl (small c)):=by
 refine IB λc=>?_
 show(den _ _).v [none,sP (sign c)]=_;unfold sign;simp! [Jp,show(Str.ofString "a")=⟨#[97]⟩from rfl,show(Str.ofString "z")=⟨#[122]⟩from rfl];cases h1:decide (97<=c)<;>simp[small,h1]
theorem Jy(k:Nat)(h:Ay x=true): ~~~(k + 1) 7 [.p x]= .ok (bC (Bi x)):=by
 cases x with
 |fn _ _=>cases h
 |str x =>
   have ho:Ye x:=QB h;refine(call_of (r:=.ret (bC (Iq x.cps.toList))) F7 rfl ?_);show execs _ _ B7 [sP (.str x)]=_;unfold B7;have e1:Dq .str (.p (.str x))=some (bC true):=rfl;simp! [e1,len_str ho.1,lt_int,gt_int];have hl:=BU x;cases e:x.cps.toList with
   |nil=>
     rw[e]at hl;have:(decide ((x.length:Int) < 1) || decide ((8:Int) < x.length))=true:=by simp at hl ⊢;lia
     simp! [this];rfl
   |cons c r=>
     rw[e]at hl
     by_cases h2:r.length<=7
     .have h3:(decide ((x.length:Int) < 1) || decide ((8:Int) < x.length))=false:=by simp at hl ⊢;lia
      have ht:=Uo e ho
      have e4:k|||(.Ai FW (.comp (.nm 1) Ar (.A1 Fu {0} {1,0}) [] (.NI HN HN {"a"} {1} {"z"}) [none,none]))&&&[sP (.str x)]= .ok (bC (r.all small)):=by
       simp! [LC e ho.1,HV ht,Fw,iP ht.1];rw[show AE [none,none] [some (C.p (.str x))]=[none,none]from rfl,P4 k _ ht [],Co,Co,Sz];rfl
      have e5:k|||(.NI HN HN {"A"} (.A1 A2 {0} {0,0}) {"Z"})&&&[sP (.str x)]= .ok (bC (great c)):=by
       simp! [Tc e ho.1,sign,Jp,show(Str.ofString "A")=⟨#[65]⟩from rfl,show(Str.ofString "Z")=⟨#[90]⟩from rfl];cases h1:decide (65<=c)<;>simp[great,h1]
      simp! [h3,↓e4,↓e5];simp[Iq,h2]
     .have h3:(decide ((x.length:Int) < 1) || decide ((8:Int) < x.length))=true:=by simp at hl ⊢;lia
      simp! [h3];simp[Iq,h2]
 |box t ps=>cases t<;>exact call_of (r:=.ret (bC false)) F7 rfl rfl
 |_=>exact call_of (r:=.ret (bC false)) F7 rfl rfl
def Kh:P->Bool
 |.int i=>decide ((if i < 0 then -i else i) < 10 ^ 60)
 |_=>false
theorem Yi(k:Nat)(h:Ay x=true): ~~~(k + 2) 8 [.p x]= .ok (bC (Kh x)):=by
 refine(call_of (r:=.ret (bC (Kh x))) F8 rfl ?_);show execs _ _ B8 [sP x]=_;unfold B8;simp! [DQ k h];cases x with
 |int i=>
   have e:DD VB (.p (.int i))=some (.p (.int (if i < 0 then -i else i))):=rfl;have e2:A3 Ge (.p (.int 10)) (.p (.int 60))=some (.p (.int (10 ^ 60))):=rfl;simp! [Fn,e,e2,lt_int,Kh]
 |_=>rfl
def Hw:P->Bool
 |.tup ps=>decide (ps.length<=3)
 |_=>false
theorem Ht(k:Nat)(h:Ay x=true): ~~~(k + 1) 9 [.p x]= .ok (bC (Hw x)):=by
 cases x with
 |fn _ _=>cases h
 |tup ps=>
   refine(call_of (r:=.ret (bC (Hw (.tup ps)))) F9 rfl ?_);show execs _ _ B9 [sP (.tup ps)]=_;unfold B9;simp! [Dp,AG,le_int];simp[Hw]
   lia
 |box t ps=>cases t<;>exact call_of (r:=.ret (bC false)) F9 rfl rfl
 |_=>exact call_of (r:=.ret (bC false)) F9 rfl rfl
def Bl(g:P->Bool):P->Bool
 |.tup ps=>decide (ps.length<=3) && ps.all g
 |_=>false
theorem Hu(k f:Nat)(c:List P)(g:P->Bool)(h:Ay x=true)(hg:∀y,Ay y=true->~~~(k + 1) f (.p y::c.map .p)= .ok (bC (g y))): ~~~(k + 2) 10 [.p x,.p (.fn f c)]= .ok (bC (Bl g x)):=by
 refine(call_of (r:=.ret (bC (Bl g x))) lj rfl ?_);show execs _ _ ir [sP x,sP (.fn f c)]=_;unfold ir;cases x with
 |tup ps=>
   by_cases h3:ps.length<=3
   .have e1:Ar (.p (.tup ps))=some ps:=rfl;have h4:ps.length<=big:=by unfold big;lia
    have ec:Bj (.nm 1) (λ_=>.ok true) (den (~~~(k + 1)) (.app 2 [{1}])).v (AE [none,none,some 1] [sP (.tup ps),sP (.fn f c)]) ps= .ok (ps.map λy=>P.bl (g y)):=D9 λy hy=>by
     show(~~~(k+1) f (.p y::c.map .p))=_;exact hg y (Cp h y hy)
    simp! [Ht k h,Hw,h3,decide_true,e1,iP h4,ec,Fe,Bl,Bool.true_and]
   .simp! [Ht k h,Hw,h3,decide_false,Bl,Bool.false_and]
 |_=>simp! [Ht k h,Hw,Bl]
theorem Eb(k:Nat)(h:Ay x=true): ~~~(k+2) 10 [.p x,.p (.fn 0 [])]= .ok (bC (Bl A4 x)):=Hu k 0 [] A4 h λy hy=>Bs k hy
theorem Yu(k:Nat)(m:Int)(h:Ay x=true): ~~~(k + 5) 51 [.p x,.p (.int m)]= .ok (bC (An m x)):=by
 refine(call_of (r:=.ret (bC (An m x))) (km.trans rfl) rfl ?_);show execs _ _ [.ret (.call 18 [{0},{1}])] [sP x,sI m]=_;simp! [Lb k m h]
theorem Iv(k:Nat)(m:Int)(h:Ay x=true): ~~~(k + 7) 19 [.p x,.p (.int m)]= .ok (bC (Bl (An m) x)):=by
 refine(call_of (r:=.ret (bC (Bl (An m) x))) l7 rfl ?_);show execs _ _ i8 [sP x,sI m]=_;unfold i8;have e:OY [sP x,sI m] [1]=some [.int m]:=rfl;simp! [e,Hu (k+4) 51 [.int m] (An m) h λy hy=>Yu k m hy]
def Pp(ps:List P):List Str:=ps.filterMap P.BZ
theorem K4:∀{ps:List P},ps.all A4=true->DT P.BZ ps=some (Pp ps)
 |[],_=>rfl
 | p ::ps,h=>by
   simp only[all_cons,bA]at h;cases p with
   |str x=>
     show(some x).bind _=_;rw[Option.bind_some,K4 h.2];rfl
   |_=>cases h.1
def WM(ps:List P):Bool:=decide (ps.length<=3) && ps.all A4 && decide (AN (Pp ps)=ps.length)
def Cn:P->Bool
 |.tup ps=>WM ps
 |_=>false
theorem PV{ps:List P}:(Pp ps).length<=ps.length:=List.length_filterMap_le _ _
theorem Pn(k:Nat)(h:Ay x=true): ~~~(k + 3) 11 [.p x]= .ok (bC (Cn x)):=by
 refine(call_of (r:=.ret (bC (Cn x))) lh rfl ?_);show execs _ _ iq [sP x]=_;unfold iq;cases x with
 |tup ps=>
   cases h1:Bl A4 (.tup ps)with
   |false=>
     have:Cn (.tup ps)=false:=by unfold Bl at h1;simp only[Cn,WM,h1,Bool.false_and]
     simp! [Eb k h,h1,this]
   |true=>
     have h2:=h1;unfold Bl at h2;rw[bA,decide_eq_true_eq]at h2
     have e1:Jo (.p (.tup ps))=some (.p (.int (AN (Pp ps):Nat))):=by
      show((DT P.BZ ps).bind λxs=>if xs.length < 4000 then some (C.p (.int (AN xs:Nat)))else none)=_;have:=PV (ps:=ps);rw[K4 h2.2,Option.bind_some,iP (by lia)]
     have e2:Cn (.tup ps)=decide (AN (Pp ps)=ps.length):=by unfold Bl at h1;simp only[Cn,WM,h1,Bool.true_and]
     simp! [Eb k h,h1,e1,AG,eq_int,e2];simp;lia
 |_=>simp! [Eb k h,Bl,Cn]
def DA:P->Bool
 |.tup ps=>decide (1<=ps.length) && decide (ps.length<=4)
 |_=>false
theorem Gw(k:Nat)(h:Ay x=true): ~~~(k + 1) 12 [.p x]= .ok (bC (DA x)):=by
 cases x with
 |fn _ _=>cases h
 |tup ps=>
   refine(call_of (r:=.ret (bC (DA (.tup ps)))) gB rfl ?_);show execs _ _ il [sP (.tup ps)]=_;unfold il;simp! [Dp,AG,le_int];have e1:decide ((1:Int)<=ps.length)=decide (1<=ps.length):=by congr 1;exact propext ⟨λh=>by lia,λh=>by lia⟩
   have e2:decide ((ps.length:Int)<=4)=decide (ps.length<=4):=by congr 1;exact propext ⟨λh=>by lia,λh=>by lia⟩
   rw[e1,e2,DA]
 |box t ps=>cases t<;>exact call_of (r:=.ret (bC false)) gB rfl rfl
 |_=>exact call_of (r:=.ret (bC false)) gB rfl rfl
def DG:P->Bool
 |.str _=>true
 |_=>false
def BV:P->Bool
 |.tup ps=>decide (0 < ps.length) && DG (ps.getD 0 .A8)
 |_=>false
theorem Cg(h:Ay x=true):Dq .str (.p x)=some (bC (DG x)):=by
 cases x with
 |fn _ _=>cases h
 |box t ps=>cases t<;>rfl
 |_=>rfl
theorem DZ(k:Nat)(h:Ay x=true): ~~~(k + 1) 13 [.p x]= .ok (bC (BV x)):=by
 cases x with
 |fn _ _=>cases h
 |tup ps=>
   refine(call_of (r:=.ret (bC (BV (.tup ps)))) gA rfl ?_);show execs _ _ ik [sP (.tup ps)]=_;unfold ik;simp! [Dp,AG,gt_int]
   by_cases h0:0 < ps.length
   .have e1:decide ((0:Int) < ps.length)=true:=by simp;lia
    simp! [e1,Cj 0 h0,show((0:Nat):Int)=0 from rfl,Cg (Aa h 0),BV,h0,decide_true,Bool.true_and];rw[show A2 (.p (.tup ps)) (.p (.int 0))=_ from Cj 0 h0];simp! [Cg (Aa h 0)]
   .have e1:decide ((0:Int) < ps.length)=false:=dF (by lia);simp! [e1,BV,h0,decide_false,Bool.false_and]
 |box t ps=>cases t<;>exact call_of (r:=.ret (bC false)) gA rfl rfl
 |_=>exact call_of (r:=.ret (bC false)) gA rfl rfl
theorem K3{ps:List P}(h:0 < ps.length):A2 (.p (.tup ps)) (.p (.int 0))=some (.p (ps.getD 0 .A8)):=Cj 0 h
theorem GO{ps:List P}(h:1 < ps.length):A2 (.p (.tup ps)) (.p (.int 1))=some (.p (ps.getD 1 .A8)):=Cj 1 h
theorem IU{ps:List P}(h:2 < ps.length):A2 (.p (.tup ps)) (.p (.int 2))=some (.p (ps.getD 2 .A8)):=Cj 2 h
theorem X8{ps:List P}(h:3 < ps.length):A2 (.p (.tup ps)) (.p (.int 3))=some (.p (ps.getD 3 .A8)):=Cj 3 h
theorem eV{ps:List P}(h:4 < ps.length):A2 (.p (.tup ps)) (.p (.int 4))=some (.p (ps.getD 4 .A8)):=Cj 4 h
theorem len_eq(n m:Nat):decide ((n:Int)=(m:Int))=decide (n=m):=by congr 1;exact propext ⟨λh=>by lia,λh=>by lia⟩
theorem E9(n:Nat):decide ((n:Int)=2)=decide (n=2):=len_eq n 2
theorem Gu(n:Nat):decide ((n:Int)=3)=decide (n=3):=len_eq n 3
def JP:P->Bool
 |.tup ps=>decide (ps.length=3) && (Bi (ps.getD 0 .A8) && Cn (ps.getD 1 .A8))
 |_=>false
theorem Zz(k:Nat)(h:Ay x=true): ~~~(k + 4) 14 [.p x]= .ok (bC (JP x)):=by
 cases x with
 |fn _ _=>cases h
 |tup ps=>
   refine(call_of (r:=.ret (bC (JP (.tup ps)))) gz rfl ?_);show execs _ _ ij [sP (.tup ps)]=_;unfold ij
   by_cases h3:ps.length=3
   .simp! [Dp,AG,ne_int,Gu,h3,decide_true,Bool.or_false,Bool.and_true,Bool.false_or,Bool.false_and,K3 (ps:=ps) (by lia),GO (ps:=ps) (by lia),Jy (k+2) (Aa h 0),Pn k (Aa h 1),JP,Bool.true_and]
   .simp! [Dp,AG,ne_int,Gu,h3,decide_false,Bool.or_true,JP,Bool.false_and]
 |box t ps=>cases t<;>exact call_of (r:=.ret (bC false)) gz rfl rfl
 |_=>exact call_of (r:=.ret (bC false)) gz rfl rfl
def C3(m:Int):P->Bool
 |.tup ps=>decide (ps.length=2) && (Bi (ps.getD 0 .A8) && Bl (An m) (ps.getD 1 .A8))
 |_=>false
theorem R4(k:Nat)(m:Int)(h:Ay x=true): ~~~(k + 8) 20 [.p x,.p (.int m)]= .ok (bC (C3 m x)):=by
 cases x with
 |fn _ _=>cases h
 |tup ps=>
   refine(call_of (r:=.ret (bC (C3 m (.tup ps)))) gy rfl ?_);show execs _ _ i7 [sP (.tup ps),sI m]=_;unfold i7
   by_cases h3:ps.length=2
   .simp! [Dp,AG,ne_int,E9,h3,decide_true,Bool.or_false,Bool.and_true,Bool.false_or,Bool.false_and,K3 (ps:=ps) (by lia),GO (ps:=ps) (by lia),Jy (k+6) (Aa h 0),Iv k m (Aa h 1),C3,Bool.true_and]
   .simp! [Dp,AG,ne_int,E9,h3,decide_false,Bool.or_true,C3,Bool.false_and]
 |box t ps=>cases t<;>exact call_of (r:=.ret (bC false)) gy rfl rfl
 |_=>exact call_of (r:=.ret (bC false)) gy rfl rfl
def Dx:P->Bool
 |.A8=>true
 |x=>A4 x
theorem Uz(k:Nat)(h:Ay x=true): ~~~(k + 2) 23 [.p x]= .ok (bC (Dx x)):=by
 refine(call_of (r:=.ret (bC (Dx x))) kY rfl ?_);show execs _ _ hV [sP x]=_;unfold hV;have e:ZQ (.p x) (.p .A8)=some (bC (decide (x= .A8))):=rfl;simp! [e,Bs k h];cases x<;>simp[Dx,A4]
theorem OP(k:Nat)(h:Ay x=true): ~~~(k+3) 10 [.p x,.p (.fn 23 [])]= .ok (bC (Bl Dx x)):=Hu (k+1) 23 [] Dx h λy hy=>Uz k hy
def P.s(x:P):Str:=x.BZ.getD ""
def BB:P->List P
 |.tup ps=>ps
 |_=>[]
noncomputable def G3(s:Str)(ps:List P):Bool:=
 if s="number" then decide (ps.length=2) && Kh (ps.getD 1 .A8)
 else if s="name" then decide (ps.length=2) && A4 (ps.getD 1 .A8)
 else decide (ps.length=3) && (if s="form" then Bi (ps.getD 1 .A8) && Hw (ps.getD 2 .A8)
 else if s="call" then A4 (ps.getD 1 .A8) && Hw (ps.getD 2 .A8)
 else decide (s="case") && (DA (ps.getD 2 .A8) && (BB (ps.getD 2 .A8)).all JP))
def C8:P->Bool
 |.tup ps=>BV (.tup ps) && G3 (ps.getD 0 .A8).s ps
 |_=>false
theorem MP{x:P}(h:DG x=true):x= .str x.s:=by cases x<;>first|rfl|cases h
theorem D8(h:DA x=true):x= .tup (BB x)/\(BB x).length<=4/\1<=(BB x).length:=by
 cases x with
 |tup ps=>simp[DA]at h;exact⟨rfl,h.2,by simp[BB];lia⟩
 |_=>cases h
theorem Ny(h:Hw x=true):x= .tup (BB x)/\(BB x).length<=3:=by
 cases x with
 |tup ps=>simp[Hw]at h;exact⟨rfl,h⟩
 |_=>cases h
theorem SA(k:Nat)(h:Ay x=true)(h4:DA x=true)(ρ:Env):Bj (.nm 1) (λ_=>.ok true) (den (~~~(k + 4)) (.call 14 [{1}])).v [none,none] (BB x)= .ok ((BB x).map λy=>P.bl (JP y)):=D9 λy hy=>by
 obtain⟨e,_,_⟩:=D8 h4;rw[e]at h;show(~~~(k+4) 14 [.p y])=_;exact Zz k (Cp h y hy)
theorem Uv(k:Nat)(h:Ay x=true): ~~~(k + 5) 15 [.p x]= .ok (bC (C8 x)):=by
 refine(call_of (r:=.ret (bC (C8 x))) lg rfl ?_);show execs _ _ ig [sP x,none]=_;unfold ig;cases x with
 |tup ps=>
   cases hs:BV (.tup ps)with
   |false=>simp! [DZ (k+3) h,hs,C8,Bool.false_and]
   |true=>
     have hs2:=hs;simp only[BV,bA,decide_eq_true_eq]at hs2;have e0:=MP hs2.2;generalize hsx:(ps.getD 0 .A8).s=s at e0;simp! [DZ (k+3) h,hs,K3 hs2.1,e0,eq_str]
     have en:C8 (.tup ps)=G3 s ps:=by
      show(BV (.tup ps) && G3 (ps.getD 0 .A8).s ps)=_;rw[hs,Bool.true_and,hsx]
     rw[en];unfold G3
     by_cases h1:s="number"
     .have d1:=dZ h1;rw[iP h1]
      by_cases hl:ps.length=2
      .simp! [d1,AG,eq_int,E9,hl,decide_true,GO (ps:=ps) (by lia),Yi (k+2) (Aa h 1),Bool.true_and]
      .simp! [d1,AG,eq_int,E9,hl,decide_false,Bool.false_and]
     have d1:=dF h1;rw[iN h1]
     by_cases h2:s="name"
     .have d2:=dZ h2;rw[iP h2]
      by_cases hl:ps.length=2
      .simp! [d1,d2,decide_true,AG,eq_int,E9,hl,GO (ps:=ps) (by lia),Bs (k+3) (Aa h 1),Bool.true_and,eq_str]
      .simp! [d1,d2,decide_false,AG,eq_int,E9,hl,Bool.false_and,eq_str]
     have d2:=dF h2;rw[iN h2]
     by_cases hl:ps.length=3
     rotate_left
     .simp! [d1,d2,hl,decide_false,AG,ne_int,Gu,Bool.false_and,eq_str]
     simp! [d1,d2,hl,decide_true,AG,ne_int,Gu,Bool.true_and,eq_str];have g1:=GO (ps:=ps) (by lia);have g2:=IU (ps:=ps) (by lia)
     by_cases h3:s="form"
     .have d3:=dZ h3;rw[iP h3];simp! [d3,g1,g2,Jy (k+3) (Aa h 1),Ht (k+3) (Aa h 2)]
     have d3:=dF h3;rw[iN h3]
     by_cases h4:s="call"
     .have d4:=dZ h4;rw[iP h4];simp! [d3,d4,g1,g2,Bs (k+3) (Aa h 1),Ht (k+3) (Aa h 2),eq_str]
     have d4:=dF h4;rw[iN h4]
     by_cases h5:s="case"
     rotate_left
     .have d5:=dF h5;simp! [d3,d4,d5,Bool.false_and,eq_str]
     have d5:=dZ h5;cases hf:DA (ps.getD 2 .A8)with
     |false=>simp! [d3,d4,d5,g2,Gw (k+3) (Aa h 2),hf,Bool.true_and,Bool.false_and,eq_str]
     |true=>
       obtain⟨e,hle,_⟩:=D8 hf;have e1:Ar (.p (ps.getD 2 .A8))=some (BB (ps.getD 2 .A8)):=by rw[e];rfl
       have e2:(BB (ps.getD 2 .A8)).length<=big:=by unfold big;lia
       have ec:=SA k (Aa h 2) hf [];simp! [d3,d4,d5,g2,Gw (k+3) (Aa h 2),hf,Bool.true_and,e1,iP e2,show ∀ρ,AE [none,none] ρ=[none,none]from λ_=>rfl,ec,Fe,eq_str]
 |_=>simp! [DZ (k+3) h,BV,C8]
def Eu(s:Str)(ps:List P):List P:=if s="form"\/s="call" then BB (ps.getD 2 .A8)else if s="case" then ps.getD 1 .A8::(BB (ps.getD 2 .A8)).map λa=>(BB a).getD 2 .A8 else[]
def BQ:P->List P
 |.tup ps=>Eu (ps.getD 0 .A8).s ps
 |_=>[]
theorem FP{β:Env}{i:Nat}{f:P->P}:∀{xs:List P},(∀x∈xs,(den cf e).v (β.set i (some (.p x)))= .ok (.p (f x)))->Bj (.nm i) (λ_=>.ok true) (den cf e).v β xs= .ok (xs.map f)
 |[],_=>rfl
 | x::l,h=>by
   show(Res.of (some (β.set i (some (.p x))))).bind _=_;rw[TZ,Co];show((den cf e).v (β.set i (some (.p x)))).ne.bind _=_;rw[h x (.head _)];show(Bj (.nm i) (λ_=>.ok true) (den cf e).v β l).bind _=_;rw[FP λy hy=>h y (.tail _ hy)];rfl
theorem C6(o q:Bool)(a b:List P)(h:(a++b).length<=big):A5 (.lst o a) (.lst q b)=some (nw (a++b)):=by
 show((GI (a++b)).map nw)=_;unfold GI;rw[iP h];rfl
theorem LP(h:Ay x=true):∀y∈BB x,Ay y=true:=by
 cases x with
 |tup ps=>exact Cp h
 |_=>exact λy hy=>by cases hy
theorem bE(h:Ay x=true)(k:Nat):Ay ((BB x).getD k .A8)=true:=by
 cases x with
 |tup ps=>exact Aa h k
 |_=>rfl
theorem Hd{ps:List P}(h:C8 (.tup ps)=true):2<=ps.length/\((ps.getD 0 .A8).s="form"\/(ps.getD 0 .A8).s="call"->ps.length=3/\Hw (ps.getD 2 .A8)=true)/\((ps.getD 0 .A8).s="case"->ps.length=3/\DA (ps.getD 2 .A8)=true/\(BB (ps.getD 2 .A8)).all JP=true)/\ps.getD 0 .A8= .str (ps.getD 0 .A8).s:=by
 have h0:(BV (.tup ps) && G3 (ps.getD 0 .A8).s ps)=true:=h;rw[bA]at h0;have hs:=h0.1;simp only[BV,bA,decide_eq_true_eq]at hs;refine⟨?_,?_,?_,MP hs.2⟩
 .have h1:=h0.2;unfold G3 at h1;split at h1
  .simp at h1;lia
  split at h1
  .simp at h1;lia
  .simp at h1;lia
 .intro e;have h1:=h0.2;unfold G3 at h1;rcases e with e|e<;>rw[e]at h1<;>simp +decide at h1<;>exact⟨h1.1,h1.2.2⟩
 .intro e;have h1:=h0.2;unfold G3 at h1;rw[e]at h1;simp +decide at h1;refine⟨h1.1,h1.2.1,?_⟩;rw[all_eq_true];exact h1.2.2
theorem Vy(h:JP a=true):a= .tup (BB a)/\(BB a).length=3:=by
 cases a with
 |tup ps=>simp[JP]at h;exact⟨rfl,h.1⟩
 |_=>cases h
theorem Qs(k:Nat)(h:C8 x=true): ~~~(k + 1) 16 [.p x]= .ok (.lst true (BQ x)):=by
 cases x with
 |tup ps=>
   obtain⟨hl,hfc,hca,e0⟩:=Hd h;refine(call_of (r:=.ret (.lst true (Eu (ps.getD 0 .A8).s ps))) la rfl ?_);show execs _ _ ic [sP (.tup ps)]=_;unfold ic;generalize (ps.getD 0 .A8).s=s at *;simp! [K3 (ps:=ps) (by lia),e0,eq_str];unfold Eu
   by_cases h1:s="form"\/s="call"
   .obtain⟨h3,hf⟩:=hfc h1;obtain⟨e2,_⟩:=Ny hf;have d1:(decide (s="form") || decide (s="call"))=true:=by simpa using h1
    have e3:CL (.p (ps.getD 2 .A8))=some (nw (BB (ps.getD 2 .A8))):=by rw[e2];rfl
    rw[iP h1];simp! [d1,IU (ps:=ps) (by lia),e3]
   have d1:(decide (s="form") || decide (s="call"))=false:=by simpa using h1
   rw[iN h1]
   by_cases h2:s="case"
   .obtain⟨h3,hf,ha⟩:=hca h2;obtain⟨e2,h4,_⟩:=D8 hf;have d2:=dZ h2;have e1:Ar (.p (ps.getD 2 .A8))=some (BB (ps.getD 2 .A8)):=by rw[e2];rfl
    have h5:(BB (ps.getD 2 .A8)).length<=big:=by unfold big;lia
    have ec:Bj (.nm 1) (λ_=>.ok true) (den (~~~k) (.A1 A2 {1} {2,0})).v [none,none] (BB (ps.getD 2 .A8))= .ok ((BB (ps.getD 2 .A8)).map λa=>(BB a).getD 2 .A8):=FP λa hm=>by
     obtain⟨e,hl⟩:=Vy (all_eq_true.mp ha a hm);rw[AA,HH];simp! [];rw[e,IU (ps:=BB a) (by lia)];rfl
    have h6:([ps.getD 1 P.A8]++(BB (ps.getD 2 .A8)).map λa=>(BB a).getD 2 .A8).length<=big:=by rw[lA,lM,lS];unfold big;lia
    rw[iP h2];simp! [d1,d2,eq_str,K3 (ps:=ps) (by lia),GO (ps:=ps) (by lia),IU (ps:=ps) (by lia),e0,show([ps.getD 1 P.A8]:List P).length<=1000 from by simp,e1,iP h5,show ∀ρ,AE [none,none] ρ=[none,none]from λ_=>rfl,ec,C6 _ _ _ _ h6];rfl
   .have d2:=dF h2;rw[iN h2];simp! [d1,d2,eq_str,K3 (ps:=ps) (by lia),e0,show([]:List P).length<=1000 from by simp]
 |_=>cases h
theorem Ig(h:C8 x=true):(BQ x).length<=5:=by
 cases x with
 |tup ps=>
   obtain⟨hl,hfc,hca,e0⟩:=Hd h;show(Eu (ps.getD 0 .A8).s ps).length<=5;unfold Eu;split
   next h1=>have:=Ny (hfc h1).2;lia
   next h1=>
    split
    next h2=>have:=D8 (hca h2).2.1;rw[lC,lM];lia
    next=>simp
 |_=>cases h
theorem Om(h:Ay x=true):∀y∈BQ x,Ay y=true:=by
 cases x with
 |tup ps=>
   intro y hy;replace hy:y∈Eu (ps.getD 0 .A8).s ps:=hy;unfold Eu at hy;split at hy
   .exact LP (Aa h 2) y hy
   split at hy
   .rcases mK hy with rfl|hy
    .exact Aa h 1
    .obtain⟨a,ha,rfl⟩:=mem_map.mp hy;exact bE (LP (Aa h 2) a ha) 2
   .cases hy
 |_=>exact λy hy=>by cases hy
def el:Nat->List (P×Nat)->Bool
 |_,[]=>true
 |0,_::_=>false
 |n+1,q::r=>decide (q.2<=11) && C8 q.1 && el n (((BQ q.1).map λy=>(y,q.2+1)).reverse++r)
def qP(q:P×Nat):P:=.tup [q.1,.int (q.2:Nat)]
noncomputable abbrev Zy (k:Nat):Env->Fl:=execs (~~~k) AW [(.asg (.nm 2) (.A1 A5 {2} {1,0})),(.pop (some 3) 1),(.asg (.nm 4) (.A1 A2 {3} {0,0})),(.asg (.nm 5) (.A1 A2 {3} {1,0})),(.ifs (.or (.A1 Hq {2} {40,0}) (.or (.A1 Hq {5} {11,0}) (.not (.call 15 [{4}])))) [(.ret (.cst (.p (.bl false))))] []),(.Bu 1 true (BY HQ) [(.comp (.nm 1) Ar (.call 16 [{4}]) [] (.tup [{1},(.A1 A5 {2} {1,0})]) [none,none,some 5])])]
theorem Sv(k n:Nat)(a y z w:Option C)(x:P)(d:Nat)(r:List (P×Nat))(hx:Ay x=true)(hl:r.length<=1000)(hn:n<=40):Zy (k + 5) [a,sL true (((x,d)::r).map qP).reverse,sI ((40 - n:Nat):Int),y,z,w]=if n≠0/\(decide (d<=11) && C8 x)=true then .nx [a,sL true ((((BQ x).map λy=>(y,d + 1)).reverse++r).map qP).reverse,sI ((40 - (n - 1):Nat):Int),sP (qP (x,d)),sP x,sI d]else .ret (bC false):=by
 unfold Zy;have e1:A2 (.p (qP (x,d))) (.p (.int 0))=some (.p x):=rfl;have e2:A2 (.p (qP (x,d))) (.p (.int 1))=some (.p (.int d)):=rfl;simp! [add_int,gt_int,map_cons,J6,e1,e2,Uv k hx,show((3:Nat)=1)=False from by decide]
 by_cases h:n≠0/\(decide (d<=11) && C8 x)=true
 .rw[iP h];have h2:=h.2;rw[bA,decide_eq_true_eq]at h2
  have d1:(decide ((40:Int) < ((40 - n:Nat):Int) + 1) || (decide ((11:Int) < (d:Int)) || !C8 x))=false:=by
   have h1:=h.1;rw[h2.2];simp
   lia
  have e3:((40-n:Nat):Int)+1=((40-(n-1):Nat):Int):=by have:=h.1;lia
  have hp:=Ig h2.2;have e4:Ar (.lst true (BQ x))=some (BQ x):=rfl;have h5:(BQ x).length<=big:=by unfold big;lia
  have ec:Bj (.nm 1) (λ_=>.ok true) (den (~~~(k+5)) (.tup [{1},(.A1 A5 {2} {1,0})])).v [none,none,sI d] (BQ x)= .ok ((BQ x).map λy=>qP (y,d+1)):=FP λy hm=>rfl
  have h6:((r.map qP).reverse++(BQ x).map λy=>qP (y,d+1)).length<=big:=by simp;unfold big;lia
  simp! [d1];simp! [e3,Qs (k+4) h2.2,e4,iP h5,AE,map_cons,map_nil,Option.bind_none,ec,KS _ _ _ h6,Option.any_some,C.Ew,cond_true];simp[Function.comp_def]
 .rw [iN h]
  have d1:(decide ((40:Int) < ((40 - n:Nat):Int) + 1) || (decide ((11:Int) < (d:Int)) || !C8 x))=true:=by
   cases hn:C8 x
   .simp
   .rw[hn]at h;simp at h ⊢
    lia
  simp! [d1]
theorem Iw(k:Nat)(a:Option C):∀(n:Nat) (st:List (P×Nat)) (y z w:Option C),(∀q∈st,Ay q.1=true)->st.length + 4 * n<=1000->n<=40->(el n st=true->∃s' y' z' w',As (c1 (k + 5)) (Zy (k + 5)) (n + 1) [a,sL true (st.map qP).reverse,sI ((40 - n:Nat):Int),y,z,w]= .nx [a,sL true [],s',y',z',w'])/\(el n st=false->As (c1 (k + 5)) (Zy (k + 5)) (n + 1) [a,sL true (st.map qP).reverse,sI ((40 - n:Nat):Int),y,z,w]= .ret (bC false))
 | n,[],y,z,w,_,_,_=>by
   refine⟨λ_=>⟨some (.p (.int ((40-n:Nat):Int))),y,z,w,rfl⟩,λh=>?_⟩;unfold el at h;cases h
 | 0,(x,d)::r,y,z,w,ho,hl,hn=>by
   rw[GH]
   have e0:c1 (k + 5) [a,sL true (((x,d)::r).map qP).reverse,sI ((40 - 0:Nat):Int),y,z,w]= .ok true:=by
    unfold c1;simp! [Ez];simp
   rw[e0,Sv k 0 a y z w x d r (ho (x,d) (.head _)) (by simp at hl;lia) hn,iN (λh=>h.1 rfl)];exact⟨λh=>(by cases h),λ_=>rfl⟩
 | n + 1,(x,d)::r,y,z,w,ho,hl,hn=>by
   rw[GH]
   have e0:c1 (k + 5) [a,sL true (((x,d)::r).map qP).reverse,sI ((40 - (n + 1):Nat):Int),y,z,w]= .ok true:=by
    unfold c1;simp! [Ez];simp
   have hx:=ho (x,d) (.head _);rw[e0,Sv k (n+1) a y z w x d r hx (by simp at hl;lia) hn];have ek:el (n+1) ((x,d)::r)=(decide (d<=11) && C8 x && el n (((BQ x).map λy=>(y,d+1)).reverse++r)):=rfl;rw[ek];cases hm:decide (d<=11) && C8 x with
   |true=>
     have h2:=hm;rw[bA]at h2;have h5:=Ig h2.2;rw[iP ⟨Nat.succ_ne_zero n,rfl⟩];refine Iw k a n (((BQ x).map λy=>(y,d+1)).reverse++r) _ _ _ (λq hq=>?_) (by simp at hl ⊢;lia) (by lia);rcases mZ hq with hq|hq
     .obtain⟨u,hu,rfl⟩:=mem_map.mp (List.mem_reverse.mp hq);exact Om hx u hu
     .exact ho q (.tail _ hq)
   |false=>
     rw[iN (λh=>by cases h.2)];exact⟨λh=>(by cases h),λ_=>rfl⟩
def Bm(x:P):Bool:=el 40 [(x,0)]
theorem Nz(k:Nat)(h:Ay x=true): ~~~(k + 6) 17 [.p x]= .ok (bC (Bm x)):=by
 refine(call_of (r:=.ret (bC (Bm x))) l9 rfl ?_);show execs _ _ ib [sP x,none,none,none,none,none]=_;unfold ib;have hw:=Iw k (some (.p x)) 40 [(x,0)] none none none (by simpa using h) (by simp) (lR);simp! [show([x,.int 0]:List P).length<=1000 from by simp,show([.tup [x,.int 0]]:List P).length<=1000 from by simp,Pb];show(AW (c1 (k+5)) (Zy (k+5)) [sP x,sL true [.tup [x,.int 0]],sI 0,none,none,none]).then _=_;cases hk:Bm x with
 |true=>
   obtain⟨s',y',z',w',e⟩:=hw.1 hk;have ew:AW (c1 (k+5)) (Zy (k+5)) [sP x,sL true [.tup [x,.int 0]],sI 0,none,none,none]=_:=GG e (by intro h;cases h);rw[ew];rfl
 |false=>
   have ew:AW (c1 (k+5)) (Zy (k+5)) [sP x,sL true [.tup [x,.int 0]],sI 0,none,none,none]=_:=GG (hw.2 hk) (by intro h;cases h);rw[ew];rfl
def EO(f:Int->Bool):P->Bool
 |.int m=>decide (0<=m) && decide (m<=3) && f m
 |_=>false
def Kv(ps:List P):Bool:=A4 (ps.getD 1 .A8) && EO (λm=>DA (ps.getD 3 .A8) && (BB (ps.getD 3 .A8)).all (C3 m)) (ps.getD 2 .A8)
theorem M4(k:Nat){ps:List P}(h:Ay (.tup ps)=true)(hl:ps.length=4): ~~~(k + 9) 21 [.p (.tup ps)]= .ok (bC (Kv ps)):=by
 refine(call_of (r:=.ret (bC (Kv ps))) l6 rfl ?_);show execs _ _ i6 [sP (.tup ps),none]=_;unfold i6 Kv;have g1:=GO (ps:=ps) (by lia);have g2:=IU (ps:=ps) (by lia);have g3:=X8 (ps:=ps) (by lia);have o2:=Aa h 2;have o3:=Aa h 3;simp! [g1,g2,Bs (k+7) (Aa h 1),DQ (k+7) o2];generalize A4 (ps.getD 1 .A8)=b1;generalize ps.getD 2 .A8=x at *;cases b1 with
 |false=>simp! [Bool.false_and]
 |true=>
   cases x with
   |int m =>
     simp! [Fn,lt_int,gt_int,Bool.true_and,EO]
     by_cases h0:0<=m/\m<=3
     .have d0:(decide (m < 0) || decide ((3:Int) < m))=false:=by simp;lia
      have d1:decide (0<=m)=true:=dZ h0.1;have d2:decide (m<=3)=true:=dZ h0.2;cases hf:DA (ps.getD 3 .A8)with
      |false=>simp! [d0,d1,d2,g3,Gw (k+7) o3,hf,Bool.true_and,Bool.false_and]
      |true=>
        obtain⟨e,hle,_⟩:=D8 hf;have e1:Ar (.p (ps.getD 3 .A8))=some (BB (ps.getD 3 .A8)):=by rw[e];rfl
        have e2:(BB (ps.getD 3 .A8)).length<=big:=by unfold big;lia
        have ec:Bj (.nm 1) (λ_=>.ok true) (den (~~~(k + 8)) (.call 20 [{1},{2}])).v [none,none,sI m] (BB (ps.getD 3 .A8))= .ok ((BB (ps.getD 3 .A8)).map λy=>P.bl (C3 m y)):=D9 λy hy=>by
         show(~~~(k+8) 20 [.p y,.p (.int m)])=_;exact R4 k m (LP o3 y hy)
        simp! [d0,d1,d2,g3,Gw (k+7) o3,hf,Bool.true_and,e1,iP e2,AE,map_cons,map_nil,Option.bind_none,ec,Fe]
     .have d0:(decide (m < 0) || decide ((3:Int) < m))=true:=by simp;lia
      have d1:(decide (0<=m) && decide (m<=3))=false:=by simp;lia
      simp! [d0,d1,Bool.false_and]
   |_=>simp! [Fn,EO,Bool.true_and]
def KY(ps:List P):Bool:=A4 (ps.getD 1 .A8) && (A4 (ps.getD 2 .A8) && (Bl (An 1) (ps.getD 3 .A8) && An 1 (ps.getD 4 .A8)))
theorem Mr(k:Nat){ps:List P}(h:Ay (.tup ps)=true)(hl:ps.length=5): ~~~(k + 8) 22 [.p (.tup ps)]= .ok (bC (KY ps)):=by
 refine(call_of (r:=.ret (bC (KY ps))) kZ rfl ?_);show execs _ _ i5 [sP (.tup ps)]=_;unfold i5 KY;simp! [GO (ps:=ps) (by lia),IU (ps:=ps) (by lia),X8 (ps:=ps) (by lia),eV (ps:=ps) (by lia),Bs (k+6) (Aa h 1),Bs (k+6) (Aa h 2),Iv k 1 (Aa h 3),Lb (k+3) 1 (Aa h 4)]
def La(ps:List P):Bool:=((ps.drop 1).take (ps.length-3)).all A4 && (Cn (ps.getD (ps.length-2) .A8) && Bm (ps.getD (ps.length-1) .A8))
theorem sub_neg{ps:List P}(k:Nat)(h0:0 < k)(h:k<=ps.length):A2 (.p (.tup ps)) (.p (.int (-(k:Int))))=some (.p (ps.getD (ps.length - k) .A8)):=by
 show((G5 ps.length (-(k:Int))).bind λk=>(ps[k]?).map C.p)=_;unfold G5;have e:(-(k:Int)+ps.length).toNat=ps.length-k:=by lia
 rw[iN (by lia),iP (by lia),Option.bind_some,e,getD_eq_getElem?_getD,List.getElem?_eq_getElem (by lia)];rfl
theorem Xi{ps:List P}(h:3<=ps.length):SO (.p (.tup ps)) (.p (.int 1)) (.p (.int (-2)))=some (.p (.tup ((ps.drop 1).take (ps.length - 3)))):=by
 show some (C.p (.tup (cut ps (some 1) (some (-2)))))=_
 have e:cut ps (some 1) (some (-2))=(ps.drop 1).take (ps.length - 3):=by
  have e1:Cd ps.length 0 (some 1)=1:=by
   show(if(1:Int) < 0 then((1:Int)+ps.length).toNat else min (Int.toNat 1) ps.length)=1;rw[iN (by decide)];simp;lia
  have e2:Cd ps.length ps.length (some (-2))=ps.length - 2:=by
   show(if(-2:Int) < 0 then((-2:Int)+ps.length).toNat else min (Int.toNat (-2)) ps.length)=ps.length-2;rw[iP (by decide)]
   lia
  unfold cut;rw[e1,e2]
  congr 1
 rw[e]
theorem MB(k:Nat){ps:List P}(h:Ay (.tup ps)=true)(hl:3<=ps.length)(hl2:ps.length<=6): ~~~(k + 7) 24 [.p (.tup ps)]= .ok (bC (La ps)):=by
 refine(call_of (r:=.ret (bC (La ps))) kX rfl ?_);show execs _ _ gZ [sP (.tup ps)]=_;unfold gZ La;have n2:DD EM (.p (.int 2))=some (.p (.int (-2))):=rfl;have n1:DD EM (.p (.int 1))=some (.p (.int (-1))):=rfl;have g1:A2 (.p (.tup ps)) (.p (.int (-1)))=_:=sub_neg (ps:=ps) 1 (by lia) (by lia);have g2:A2 (.p (.tup ps)) (.p (.int (-2)))=_:=sub_neg (ps:=ps) 2 (by lia) (by lia);have e1:Ar (.p (.tup ((ps.drop 1).take (ps.length-3))))=some ((ps.drop 1).take (ps.length-3)):=rfl;have e2:((ps.drop 1).take (ps.length-3)).length<=big:=by simp;unfold big;lia
 have ec:Bj (.nm 1) (λ_=>.ok true) (den (~~~(k + 6)) (.call 0 [{1}])).v [none,none] ((ps.drop 1).take (ps.length - 3))= .ok (((ps.drop 1).take (ps.length - 3)).map λy=>P.bl (A4 y)):=D9 λy hy=>by
  show(~~~(k+6) 0 [.p y])=_;exact Bs (k+5) (Cp h y (mem_of_mem_drop (mem_of_mem_take hy)))
 simp! [n1,n2,Xi hl,g1,g2,e1,iP e2,show ∀ρ,AE [none,none] ρ=[none,none]from λ_=>rfl,ec,Fe,Pn (k+3) (Aa h (ps.length-2)),Nz k (Aa h (ps.length-1))]
def M0(s:Str):P:=(Gi Hi (.str s)).getD .A8
theorem Bw(s:Str):M0 s=if s="kind" then .int 4 else if s="class" then .int 3 else if s="deed" then .int 5 else if s="once" then .int 4 else if s="house" then .int 4 else if s="does" then .int 6 else if s="def" then .int 4 else if s="ask" then .int 2 else .A8:=by
 have hd:∀t:Str,decide (P.str t=P.str s)=decide (s=t):=λt=>by congr 1;exact propext ⟨λe=>(P.str.inj e).symm,λe=>by rw[e]⟩
 have hf:∀(t:Str) (v:P) (l:List (P×P)),(Gi ((.str t,v)::l) (.str s)).getD .A8=if s=t then v else(Gi l (.str s)).getD .A8:=λt v l=>by
  unfold Gi;rw[List.find?_cons];simp only[hd]
  by_cases e:s=t
  .simp[e]
  .simp[e]
 unfold M0 Hi;rw[hf,hf,hf,hf,hf,hf,hf,hf];rfl
theorem V2(s:Str):Mf (.BC false Hi) (.p (.str s))=some (.p (M0 s)):=by
 show(if D6 Hi (.str s)then some (C.p ((Gi Hi (.str s)).getD .A8))else none)=_;have:D6 Hi (.str s)=true:=rfl;rw[iP this];rfl
def BK(s:Str)(n:Nat):Bool:=decide (M0 s= .int n)
theorem Yo(s:Str)(n:Nat):JU (.p (M0 s)) (.p (.int n))=some (bC (!BK s n)):=by
 have:∀x:P,(x= .A8\/∃i,x= .int i)->JU (.p x) (.p (.int n))=some (bC (!decide (x= .int n))):=by
  rintro x (rfl|⟨i,rfl⟩)<;>rfl
 refine this _ ?_;rw[Bw]
 repeat' split
 all_goals first|exact .inr ⟨_,rfl⟩|exact .inl rfl
noncomputable def HL(s:Str)(ps:List P):Bool:=
 if s="kind" then Kv ps
 else if s="class" then A4 (ps.getD 1 .A8) && Bl A4 (ps.getD 2 .A8)
 else if s="deed" then KY ps
 else if s="house" then A4 (ps.getD 1 .A8) && (A4 (ps.getD 2 .A8) && Bl Dx (ps.getD 3 .A8))
 else if s="ask" then Bm (ps.getD 1 .A8)
 else La ps
def Bd:P->Bool
 |.tup ps=>BV (.tup ps) && (BK (ps.getD 0 .A8).s ps.length && HL (ps.getD 0 .A8).s ps)
 |_=>false
theorem Cf{t:Str}{m:Nat}(h:BK s n=true)(e:s=t)(hm:M0 t= .int m):n=m:=by
 unfold BK at h;rw[decide_eq_true_eq,e,hm]at h;have:=P.int.inj h
 lia
theorem Xx(k:Nat)(h:Ay x=true): ~~~(k + 10) 25 [.p x]= .ok (bC (Bd x)):=by
 cases x with
 |tup ps=>
   cases hs:BV (.tup ps)with
   |false=>
     refine(call_of (r:=.ret (bC (Bd (.tup ps)))) gx rfl ?_);show execs _ _ ZJ [sP (.tup ps),none]=_;unfold ZJ;simp! [DZ (k+8) h,hs,Bd,Bool.false_and]
   |true=>
     have hs2:=hs;simp only[BV,bA,decide_eq_true_eq]at hs2;have e0:=MP hs2.2
     refine(call_of (r:=.ret (bC (BK (ps.getD 0 .A8).s ps.length && HL (ps.getD 0 .A8).s ps))) gx rfl ?_).trans (by
      show Res.ok _=Res.ok (bC (BV (.tup ps) && _))
      rw[hs,Bool.true_and])
     show execs _ _ ZJ [sP (.tup ps),none]=_;unfold ZJ;generalize (ps.getD 0 .A8).s=s at *;have g0:=K3 hs2.1;rw[e0]at g0;simp! [DZ (k+8) h,hs,g0,AG,show C.bor (.BC false Hi)= .BC false Hi from rfl,V2,Yo];cases hb:BK s ps.length with
     |false=>simp! [Bool.false_and,Bool.or_true,Bool.false_or]
     |true=>
       simp! [Bool.true_and,Bool.or_false,eq_str,g0];unfold HL
       by_cases h1:s="kind"
       .have hl:ps.length=4:=Cf hb h1 (Bw _);have d1:=dZ h1;rw[iP h1];simp! [d1,M4 k h hl]
       have d1:=dF h1;rw[iN h1]
       by_cases h2:s="class"
       .have hl:ps.length=3:=Cf hb h2 (Bw _);have d2:=dZ h2;rw[iP h2];simp! [d1,d2,eq_str,GO (ps:=ps) (by lia),IU (ps:=ps) (by lia),Bs (k+8) (Aa h 1),Eb (k+7) (Aa h 2)]
       have d2:=dF h2;rw[iN h2]
       by_cases h3:s="deed"
       .have hl:ps.length=5:=Cf hb h3 (Bw _);have d3:=dZ h3;rw[iP h3];simp! [d1,d2,d3,eq_str,Mr (k+1) h hl]
       have d3:=dF h3;rw[iN h3]
       by_cases h4:s="house"
       .have hl:ps.length=4:=Cf hb h4 (Bw _);have d4:=dZ h4;rw[iP h4];simp! [d1,d2,d3,d4,eq_str,GO (ps:=ps) (by lia),IU (ps:=ps) (by lia),X8 (ps:=ps) (by lia),Bs (k+8) (Aa h 1),Bs (k+8) (Aa h 2),OP (k+6) (Aa h 3)]
       have d4:=dF h4;rw[iN h4]
       by_cases h5:s="ask"
       .have hl:ps.length=2:=Cf hb h5 (Bw _);have d5:=dZ h5;rw[iP h5];simp! [d1,d2,d3,d4,d5,eq_str,GO (ps:=ps) (by lia),Nz (k+3) (Aa h 1)]
       have d5:=dF h5;rw[iN h5]
       have hl:3<=ps.length/\ps.length<=6:=by
        unfold BK at hb;rw[decide_eq_true_eq,Bw,iN h1,iN h2,iN h3,iN h4,iN h5]at hb
        repeat' split at hb
        all_goals first|cases hb|(have:=P.int.inj hb;lia)
       simp! [d1,d2,d3,d4,d5,eq_str,MB (k+2) h hl.1 hl.2]
 |_=>
   refine(call_of (r:=.ret (bC false)) gx rfl ?_);show execs _ _ ZJ [sP _,none]=_;unfold ZJ;simp! [DZ (k+8) h,BV]
noncomputable abbrev Zx (k:Nat):Env->Fl:=execs (~~~k) AW [(.ifs (.not (.call 25 [{2}])) [(.raise 1 (.tup [{1},{0,0}]))] [])]
theorem NR(k:Nat)(a:Option C):∀(l:List P) (j:Nat) (y z:Option C),(∀x∈l,Ay x=true)->∃y' z',forL (.tup [1,2]) (Zx (k + 10)) ((l.zipIdx j).map λq=>.tup [.int (q.2:Nat),q.1]) [a,y,z]=if l.all Bd then .nx [a,y',z']else .err 1 (.tup [.int ((j + l.findIdx λx=>!Bd x:Nat):Int),.int 0]) [a,y',z']
 |[],j,y,z,_=>⟨y,z,rfl⟩
 | x ::l,j,y,z,ho=>by
   have e1:∀ys,forL (.tup [1,2]) (Zx (k+10)) (.tup [.int (j:Nat),x]::ys) [a,y,z]=(Zx (k+10) [a,sI (j:Nat),sP x]).turn (forL (.tup [1,2]) (Zx (k+10)) ys):=λys=>rfl
   rw[List.zipIdx_cons,map_cons,e1]
   have e2:Zx (k + 10) [a,sI (j:Nat),sP x]=if Bd x then .nx [a,sI (j:Nat),sP x]else .err 1 (.tup [.int (j:Nat),.int 0]) [a,sI (j:Nat),sP x]:=by
    unfold Zx;simp! [Xx k (ho x (.head _)),show ∀v:P,([v,.int 0]:List P).length<=1000 from λv=>by simp];cases Bd x<;>rfl
   rw[e2];cases hr:Bd x with
   |true=>
     obtain⟨y',z',e⟩:=NR k a l (j+1) (some (.p (.int (j:Nat)))) (some (.p x)) (λu hu=>ho u (.tail _ hu));refine⟨y',z',?_⟩;rw[iP rfl,HJ,e];simp only[all_cons,hr,Bool.true_and,findIdx_cons,Bool.not_true,cond_false];rw[show j+(List.findIdx (λx=>!Bd x) l+1)=j+1+List.findIdx (λx=>!Bd x) l from by lia]
   |false=>
     refine⟨some (.p (.int (j:Nat))),sP x,?_⟩;simp[hr,findIdx_cons,Fl.turn]
theorem G8(k:Nat){ps:List P}(h:∀x∈ps,Ay x=true)(hl:ps.length<=40): ~~~(k + 11) 26 [.lst false ps]=if ps.all Bd then .ok (.lst true ps)else .err 1 (.tup [.int ((ps.findIdx λx=>!Bd x:Nat):Int),.int 0]):=by
 rw[JH jj,run_eq 1 3 _ _ rfl];show(execs _ _ dy [sL false ps,none,none]).out=_;unfold dy;have e1:Dq .list (.lst false ps)=some (bC true):=rfl;have e2:Av (.lst false ps)=some (.p (.int ps.length)):=rfl;have e3:decide ((40:Int) < ps.length)=false:=by simp;lia
 obtain⟨y',z',e⟩:=NR k (some (.lst false ps)) ps 0 none none h;simp! [e1,e2,gt_int,e3,Fm,Bool.false_and];have e4:(Mo (.lst false ps))=some ((ps.zipIdx 0).map λq=>.tup [.int (q.2:Nat),q.1]):=rfl;have e5:(Tg.slots (.tup [1,2])++CT [(.ifs (.not (.call 25 [{2}])) [(.raise 1 (.tup [{1},{0,0}]))] [])]).contains 0=false:=rfl;simp! [e4,e5];show(((forL (.tup [1,2]) (Zx (k+10)) ((ps.zipIdx 0).map λq=>.tup [.int (q.2:Nat),q.1]) [sL false ps,none,none]).fin _).then _).out=_;rw[e];cases ps.all Bd with
 |true=>rfl
 |false=>simp[Fl.fin,Fl.then,Fl.out]
theorem My(k:Nat){c:C}(h:(∃x,c= .p x/\Ay x=true/\(x.Il.isSome=true->∃ps,x= .box 0 ps/\40 < ps.length))): ~~~(k + 1) 26 [c]= .err 1 .A8:=by
 rw[JH jj,run_eq 1 3 _ _ rfl];obtain⟨x,rfl,ho,hb⟩:=h;show(execs _ _ dy [sP x,none,none]).out=_;unfold dy;cases x with
 |fn _ _=>cases ho
 |box t ps=>
   by_cases ht:t=0
   .subst ht;obtain⟨qs,e,hl⟩:=hb rfl;cases e;have e1:Dq .list (.p (.box 0 ps))=some (bC true):=rfl;have e2:Av (.p (.box 0 ps))=some (.p (.int ps.length)):=rfl;have e3:decide ((40:Int) < ps.length)=true:=by simp;lia
    simp! [e1,e2,gt_int,e3];rfl
   .have e1:Dq .list (.p (.box t ps))=some (bC false):=by
     have:P.Il (.box t ps)=none:=by show(if t=0 then some ps else none)=none;rw[iN ht]
     unfold Dq C.ty;simp[P.Sb,this];rfl
    simp! [e1];rfl
 |_=>rfl
theorem fd(a b:Int)(h:0 < b/\b < 1073741824:=by decide):A3 A7 (.p (.int a)) (.p (.int b))=some (.p (.int (a / b))):=by
 show((A7 a b).map λk=>C.p (.int k))=_;unfold A7;rw[iP h];rfl
theorem md(a b:Int)(h:0 < b:=by decide):A3 Ab (.p (.int a)) (.p (.int b))=some (.p (.int (a % b))):=by
 show((Ab a b).map λk=>C.p (.int k))=_;unfold Ab;rw[iP h];rfl
theorem sb(a b:Int):A3 Et (.p (.int a)) (.p (.int b))=some (.p (.int (a-b))):=rfl
theorem mul_int(a b:Int)(h:(-(2 ^ 64) < a/\a < 2 ^ 64)\/(-(2 ^ 64) < b/\b < 2 ^ 64)):mulC (.p (.int a)) (.p (.int b))=some (.p (.int (a * b))):=by
 have:A3 UC (.p (.int a)) (.p (.int b))=some (.p (.int (a * b))):=by
  show((UC a b).map λk=>C.p (.int k))=_;unfold UC;rw[iP h];rfl
 unfold mulC;rw[this];rfl
theorem DW(o:Bool){ps:List P}{k:Nat}{x:P}(h:ps[k]? =some x):A2 (.lst o ps) (.p (.int k))=some (.p x):=by
 have hk:k < ps.length:=(List.getElem?_eq_some_iff.mp h).1;show((G5 ps.length (k:Int)).bind λk=>(ps[k]?).map C.p)=_;unfold G5;rw[iP (by lia),iP (by lia),Option.bind_some,Int.toNat_natCast,h];rfl
theorem IT(o:Bool){ps:List P}{i:Int}(h0:0<=i)(h1:i < ps.length):∃x∈ps,A2 (.lst o ps) (.p (.int i))=some (.p x):=by
 obtain⟨k,rfl⟩:=Int.eq_ofNat_of_zero_le h0;have hk:k < ps.length:=by lia
 exact⟨ps[k],getElem_mem hk,DW o (List.getElem?_eq_getElem hk)⟩
theorem AJ(o:Bool){ps:List P}(c:Int)(n:Nat)(h:ps.length=n)(h1:0 < n):∃x∈ps,A2 (.lst o ps) (.p (.int (c%(n:Int))))=some (.p x):=IT o (Int.emod_nonneg _ (by lia)) (by rw[h];exact Int.emod_lt_of_pos _ (by lia))
theorem AK(o:Bool)(ps:List P):Av (.lst o ps)=some (.p (.int ps.length)):=rfl
def S5(m:Int):Prop:=0<=m/\m < 2147483647
theorem D5(a b:Int)(h: -1000000000000 < a/\a < 1000000000000):mulC (.p (.int a)) (.p (.int b))=some (.p (.int (a*b))):=mul_int a b (.inl ⟨Int.lt_trans (by decide) h.1,Int.lt_trans h.2 (by decide)⟩)
theorem mul_r(a b:Int)(h: -1000000000000 < b/\b < 1000000000000):mulC (.p (.int a)) (.p (.int b))=some (.p (.int (a*b))):=mul_int a b (.inr ⟨Int.lt_trans (by decide) h.1,Int.lt_trans h.2 (by decide)⟩)
def Oz(R Q c j:Int):Int:=(c*c+3*c+5*j*j+17)*R%Q
theorem UG(R c j:Int):S5 (Oz R 2147483647 c j):=⟨Int.emod_nonneg _ (by decide),Int.emod_lt_of_pos _ (by decide)⟩
theorem Nc(k:Nat)(a:Option C)(R Q c j:Int)(hR:0 < R/\R < 1000000)(hQ:0 < Q)(h0:0<=c)(h1:c < 2147483629)(j0:0<=j)(j1:j<=100):k^^^(.ret (.A1 (A3 Ab) (.A1 mulC (.A1 A5 (.A1 A5 (.A1 A5 (.A1 mulC {2} {2}) (.A1 mulC {3,0} {2})) (.A1 mulC (.A1 mulC {5,0} {1}) {1})) {17,0}) (.cst (.p (.int R)))) (.cst (.p (.int Q)))))&&&[a,sI j,sI c]= .ret (.p (.int (Oz R Q c j))):=by
 unfold Oz;simp! [D5 c c ⟨by lia,by lia⟩,D5 3 c (by decide),D5 5 j (by decide),mul_r (5*j) j ⟨by lia,by lia⟩,add_int,mul_r (c*c+3*c+5*j*j+17) R ⟨by lia,by lia⟩,md ((c*c+3*c+5*j*j+17)*R) Q hQ]
theorem bU:(0:Int) < 2147483629:=Int.ofNat_lt.mpr (by decide:0 < 2147483629)
theorem bT:(0:Int) < 2147483647:=Int.ofNat_lt.mpr (by decide:0 < 2147483647)
theorem UE(k:Nat)(ns:List Int)(j:Nat)(hj:j<=100)(Z M R Q:Int)(hZ:0<=Z/\Z < 2147483629)(hM:0 < M/\M<=2147483629)(hR:0 < R/\R < 1000000)(hQ:0 < Q):∃c,k<<<[(.asg (.nm 2) (.cst (.p (.int Z)))),(.ifs (.A1 Jm {1} (.Ai Av {0})) [(.asg (.nm 2) (.A1 (A3 Ab) (.A1 A2 {0} {1}) (.cst (.p (.int M)))))] []),(.ret (.A1 (A3 Ab) (.A1 mulC (.A1 A5 (.A1 A5 (.A1 A5 (.A1 mulC {2} {2}) (.A1 mulC {3,0} {2})) (.A1 mulC (.A1 mulC {5,0} {1}) {1})) {17,0}) (.cst (.p (.int R)))) (.cst (.p (.int Q)))))]>>>[sL false (ns.map .int),sI j,none]= .ret (.p (.int (Oz R Q c j))):=by
 by_cases hl:(j:Int) < (ns.map P.int).length
 .have hk:j < (ns.map P.int).length:=by lia
  have e1:A2 (.lst false (ns.map .int)) (.p (.int j))=some (.p (.int (ns[j]'(by simpa using hk)))):=by
   refine DW false ?_;rw[List.getElem?_eq_getElem hk,getElem_map]
  generalize ns[j]'(by simpa using hk)=v at e1;have g0:=Int.emod_nonneg v (by lia:M≠0);have g1:=Int.emod_lt_of_pos v hM.1;refine⟨v%M,?_⟩;simp! [AK,lt_int,dZ hl,e1,md v M hM.1,↓Nc k _ R Q (v%M) j hR hQ g0 (by lia) (Int.natCast_nonneg j) (by lia)]
 .refine⟨Z,?_⟩;simp! [AK,lt_int,dF hl,↓Nc k _ R Q Z j hR hQ hZ.1 hZ.2 (Int.natCast_nonneg j) (by lia)]
theorem QM(k:Nat){ns:List Int}(j:Nat)(hj:j<=100):∃m,S5 m/\~~~(k + 1) 27 [.lst false (ns.map .int),.p (.int j)]= .ok (.p (.int m)):=by
 obtain⟨c,e⟩:=UE k ns j hj 0 2147483629 69621 2147483647 ⟨Int.le_refl 0,bU⟩ ⟨bU,Int.le_refl _⟩ (by decide) bT;exact⟨Oz 69621 2147483647 c j,UG _ _ _,call_of (r:=.ret (.p (.int (Oz 69621 2147483647 c j)))) kW rfl e⟩
def eI:List P:=[.str "",.str "Abc",.str "a1",.str "abcdefghi",.A8,.int 3,.tup [.str "a"],.str "a b"]
theorem jD:(eI.all λx=>Ay x && !A4 x)=true:=by kernel_rfl
def eJ:List P:=[.box 0 [.str "u"],.tup [.str "u",.str "v",.str "w",.str "x"],.tup [.str "u",.str "u"],.tup [.str "U"],.A8,.tup [.str "u",.A8],.str "uv",.tup [.tup [.str "u"]]]
theorem jE:(eJ.all λx=>Ay x && !Cn x)=true:=by kernel_rfl
theorem CZ{L:List P}{f:P->Bool}(h:(L.all λx=>Ay x && !f x)=true)(hx:x∈L):Ay x=true/\f x=false:=by
 have:=all_eq_true.mp h x hx;simpa using this
theorem Lc(k:Nat)(c:Int):∃x,(Ay x=true/\A4 x=false)/\~~~(k + 1) 43 [.p (.int c)]= .ok (.p x):=by
 obtain⟨x,hx,e⟩:=AJ true (ps:=eI) c 8 rfl (by decide);refine⟨x,CZ jD hx,call_of (r:=.ret (.p x)) ky rfl ?_⟩;show execs _ _ gJ [sI c]=_;unfold gJ;have el:∀ρ:Env,k|||(.lst [{""},{"Abc"},{"a1"},{"abcdefghi"},(.cst (.p .A8)),{3,0},(.tup [{"a"}]),{"a b"}])&&&ρ= .ok (.lst true eI):=λρ=>rfl
 simp! [↓el,md c 8,show A2 (.lst true eI) (.p (.int (c%8)))=_ from e]
theorem JM(k:Nat)(c:Int):∃x,(Ay x=true/\Cn x=false)/\~~~(k + 1) 42 [.p (.int c)]= .ok (.p x):=by
 obtain⟨x,hx,e⟩:=AJ false (ps:=eJ) c 8 rfl (by decide);refine⟨x,CZ jE hx,call_of (r:=.ret (.p x)) kz rfl ?_⟩;show execs _ _ gK [sI c,none]=_;unfold gK;rw[Ak,show k^^^(S.asg (.nm 1) _)&&&[sI c,none]= .nx [sI c,sL true eJ]from rfl,Bc];simp! [md c 8,show A2 (.lst false eJ) (.p (.int (c%8)))=_ from e]
noncomputable def dk:P:=.tup [.str "a",.tup [.str "a",.tup [.str "a",.tup [.str "a",.tup [.str "a",.tup [.str "a",.tup [.str "a",.tup [.str "a",.int 0,.int 0,.int 0],.int 0,.int 0],.int 0,.int 0],.int 0,.int 0],.int 0,.int 0],.int 0,.int 0],.int 0,.int 0],.int 0,.int 0]
def eG:List P:=[.int (-1),.bl true,.str "whole",.tup [.str "Whole"],.box 0 [.tup [.str "whole"]],.tup [],.tup [.str "a",.int 0,.int 0,.int 0,.int 0],.A8,dk,.tup [.str "a",.str "b"],.tup [.str "a",.tup [.int 0]]]
theorem jC:(eG.all λx=>Ay x && !kindB x)=true:=by kernel_rfl
theorem DS(k:Nat)(c:Int):∃x,(Ay x=true/\kindB x=false)/\~~~(k + 1) 44 [.p (.int c)]= .ok (.p x):=by
 obtain⟨x,hx,e⟩:=AJ false (ps:=eG) c 11 rfl (by decide);refine⟨x,CZ jC hx,call_of (r:=.ret (.p x)) kx rfl ?_⟩;show execs _ _ gI [sI c,none,none,none]=_;unfold gI
 rw[Ak,show k^^^(S.asg (.nm 1) _)&&&[sI c,none,none,none]= .nx [sI c,sP (.tup [.str "a",.int 0,.int 0,.int 0]),none,none]from rfl,Bc,
   Ak,show k^^^(S.Be _ _ _ _)&&&[sI c,sP (.tup [.str "a",.int 0,.int 0,.int 0]),none,none]= .nx [sI c,sP dk,sI 6,none]from rfl,Bc,
   Ak,show k^^^(S.asg (.nm 3) _)&&&[sI c,sP dk,sI 6,none]= .nx [sI c,sP dk,sI 6,sL true eG]from rfl,Bc]
 simp! [md c 11,show A2 (.lst false eG) (.p (.int (c%11)))=_ from e]
def Ah:P:=.tup [.str "name",.str "x"]
def VL:Nat->P
 |0=>Ah
 |n+1=>if n%2=0 then .tup [.str "form",.str "Up",.tup [VL n]]else .tup [.str "case",VL n,.tup [.tup [.str "Up",.tup [.str "y"],Ah]]]
def SR:Nat->P
 |0=>Ah
 |n+1=>.tup [.str "form",.str "Up",.tup [SR n,SR n,SR n]]
def ZM:Nat->P
 |0=>.tup [.str "call",.str "f",.tup [Ah]]
 |n+1=>.tup [.str "call",.str "f",.tup [SR n,ZM n,SR n]]
theorem NB(k n:Nat)(h:n=11\/n=12): ~~~(k + 1) 40 [.p (.int n),.p Ah]= .ok (.p (VL n)):=by
 refine call_of (r:=.ret (.p (VL n))) kD rfl ?_;show execs _ _ jl [sI n,sP Ah,none,none]=_;rcases h with rfl|rfl<;>kernel_rfl
theorem MF(k:Nat): ~~~(k + 1) 41 [.p Ah]= .ok (.lst true [SR 3,ZM 3]):=by
 refine call_of (r:=.ret (.lst true [SR 3,ZM 3])) kA rfl ?_;show execs _ _ jk [sP Ah,none,none,none]=_
 kernel_rfl
def cF(f:Str->P):P:=.tup [f "Ua",f "Ub",f "Uc",f "Ud",f "Ue"]
def f5:P:=cF λs=>.tup [.str s,.tup [],Ah]
noncomputable def HU:List P:=[.A8,.tup [.str "number",.int (10 ^ 60)],.tup [.str "number",.bl true],.tup [.str "name",.str "X"],.tup [.str "form",.str "up",.tup []],.tup [.str "call",.str "F",.tup []],.tup [.str "form",.str "Up",.box 0 []],.tup [.str "call",.str "f",.tup [.int 1]],.tup [.str "case",Ah,.tup []],.tup [.str "case",Ah,f5],.tup [.str "case",Ah,.tup [.tup [.str "Up",.tup [.str "u",.str "u"],Ah]]],.tup [.str "case",Ah,.box 0 [.tup [.str "Up",.tup [],Ah]]],.tup [.str "number"]]
def VF:List P:=[.tup [.str "name",.str "x",.str "y"],VL 12,ZM 3,.tup [.str "number",.str "1"],.box 0 [.str "name",.str "x"]]
def gu:List P:=[.tup [.str "form",.str "Up",.tup [Ah,Ah,Ah,Ah]],.tup [.str "number",.int (0-10 ^ 60)],.tup [.str "case",.int 1,.tup [.tup [.str "Up",.tup [],Ah]]],.tup [.str "x"]]
def eD:List P:=HU++VF++gu
theorem jA:(eD.all λx=>Ay x && !Bm x)=true:=by kernel_rfl
theorem Ld(k:Nat)(c:Int):∃x,(Ay x=true/\Bm x=false)/\~~~(k + 2) 46 [.p (.int c)]= .ok (.p x):=by
 obtain⟨x,hx,e⟩:=AJ false (ps:=eD) c 22 rfl (by decide);refine⟨x,CZ jA hx,call_of (r:=.ret (.p x)) ku rfl ?_⟩;show execs _ _ gG [sI c,none,none,none]=_;unfold gG
 rw[Ak,show (k + 1)^^^(S.asg (.nm 1) _)&&&[sI c,none,none,none]= .nx [sI c,sP Ah,none,none]from rfl,Bc,
   Ak,show (k+1)^^^(S.asg (.nm 2) _)&&&[sI c,sP Ah,none,none]= .nx [sI c,sP Ah,sP f5,none]from rfl,Bc,
   Ak,show (k+1)^^^(S.asg (.nm 3) _)&&&[sI c,sP Ah,sP f5,none]= .nx [sI c,sP Ah,sP f5,sL true (HU.take 6)]from rfl,Bc,
   Ak,show (k+1)^^^(S.asg (.nm 3) _)&&&[sI c,sP Ah,sP f5,sL true (HU.take 6)]= .nx [sI c,sP Ah,sP f5,sL true (HU.take 10)]from rfl,Bc,
   Ak,show (k+1)^^^(S.asg (.nm 3) _)&&&[sI c,sP Ah,sP f5,sL true (HU.take 10)]= .nx [sI c,sP Ah,sP f5,sL true HU]from rfl,Bc]
 have s6:(k + 1)^^^(.asg (.nm 3) (.A1 A5 {3} (.lst [(.tup [{"name"},{"x"},{"y"}]),(.call 40 [{12,0},{1}]),(.A1 A2 (.call 41 [{1}]) {1,0}),(.tup [{"number"},{"1"}]),(.lst [{"name"},{"x"}])])))&&&[sI c,sP Ah,sP f5,sL true HU]= .nx [sI c,sP Ah,sP f5,sL true (HU++VF)]:=by
  have e12: ~~~(k+1) 40 [.p (.int 12),.p Ah]= .ok (.p (VL 12)):=NB k 12 (.inr rfl);have es:A2 (.lst true [SR 3,ZM 3]) (.p (.int 1))=some (.p (ZM 3)):=rfl;rw[Pc]
  have ev:(k + 1)|||(.lst [(.tup [{"name"},{"x"},{"y"}]),(.call 40 [{12,0},{1}]),(.A1 A2 (.call 41 [{1}]) {1,0}),(.tup [{"number"},{"1"}]),(.lst [{"name"},{"x"}])])&&&[sI c,sP Ah,sP f5,sL true HU]= .ok (.lst true VF):=by
   have e3:([P.str "name",.str "x",.str "y"]:List P).length<=1000:=by decide
   simp! [e12,MF k,es];rfl
  rw[Pj,ev];rfl
 rw[Ak,s6,Bc,
   Ak,show (k+1)^^^(S.asg (.nm 3) _)&&&[sI c,sP Ah,sP f5,sL true (HU++VF)]= .nx [sI c,sP Ah,sP f5,sL true eD]from rfl,Bc]
 simp! [md c 22,show A2 (.lst false eD) (.p (.int (c%22)))=_ from e]
def g5:P:=cF λs=>.tup [.str s,.tup []]
def MG(x:P):P:=.tup [.tup [.str "Up",x]]
def w4:P:=.tup [.tup [.str "whole"],.tup [.str "whole"],.tup [.str "whole"],.tup [.str "whole"]]
def P6:List P:=[.tup [],g5,.box 0 [.tup [.str "Up",.tup []]],.tup [.tup [.str "up",.tup []]],MG (.box 0 []),MG w4]
def VH:List P:=[.tup [.tup [.str "Up"]],MG (.tup [.str "whole"]),.A8]
def VG:List P:=[.tup [.box 0 [.str "Up",.tup []]]]
def eE(m:Int)(b:P):List P:=P6++[MG (.tup [.int m])]++(VH++[MG (.tup [b])]++VG)
def Hr(m:Int)(x:P):Bool:=DA x && (BB x).all (C3 m)
theorem jB(m:Int):((P6++VH++VG).all λx=>Ay x && !Hr m x)=true:=by kernel_rfl
theorem VM(m:Int)(b:P):Hr m (MG (.tup [b]))=An m b:=by
 show(true && (([.tup [.str "Up",.tup [b]]]:List P).all (C3 m)))=_;rw[all_cons,List.all_nil,Bool.and_true,Bool.true_and];show(true && (Bi (.str "Up") && (true && ([b]:List P).all (An m))))=_;rw[show Bi (.str "Up")=true from rfl];simp
theorem QA(h:Ay b=true):Ay (MG (.tup [b]))=true:=by
 have e:Ay (.str "Up")=true:=by kernel_rfl
 have h1:Ay (.tup [b])=true:=by rw[Ay,EL,h];rfl
 have h2:Ay (.tup [.str "Up",.tup [b]])=true:=by rw[Ay,EL,e,EL,h1];rfl
 unfold MG;rw[Ay,EL,h2];rfl
theorem HC(m:Int):An m (.int m)=false:=by
 unfold An
 by_cases h:kindB (.int m)=true
 .have:kw 24 [P.int m]=[.int m]:=rfl;rw[this];simp[ltB]
 .simp[h]
theorem JN(k:Nat)(c m:Int)(h0:0<=c):∃x,(Ay x=true/\Hr m x=false)/\~~~(k + 2) 45 [.p (.int c),.p (.int m)]= .ok (.p x):=by
 obtain⟨b,⟨hb1,hb2⟩,eb⟩:=DS k (c/12);obtain⟨x,hx,e⟩:=AJ false (ps:=eE m b) c 12 rfl (by decide);refine⟨x,?_,call_of (r:=.ret (.p x)) kv rfl ?_⟩
 .have hx':x∈P6++VH++VG\/x=MG (.tup [.int m])\/x=MG (.tup [b]):=by
   unfold eE at hx;simp only[mem_append,mem_singleton]at hx ⊢
   grind
  rcases hx' with hx|rfl|rfl
  .exact CZ (jB m) hx
  .exact⟨QA rfl,by rw[VM,HC]⟩
  .exact⟨QA hb1,by rw[VM];unfold An;rw[hb2];rfl⟩
 show execs _ _ gH [sI c,sI m,none,none]=_;unfold gH
 rw[Ak,show (k + 1)^^^(S.asg (.nm 2) _)&&&[sI c,sI m,none,none]= .nx [sI c,sI m,sP g5,none]from rfl,Bc,
   Ak,show (k+1)^^^(S.asg (.nm 3) _)&&&[sI c,sI m,sP g5,none]= .nx [sI c,sI m,sP g5,sL true (P6++[MG (.tup [.int m])])]from rfl,Bc]
 have s6:(k + 1)^^^(.asg (.nm 3) (.A1 A5 {3} (.lst [(.tup [(.tup [{"Up"}])]),(.tup [(.tup [{"Up"},(.tup [{"whole"}])])]),(.cst (.p .A8)),(.tup [(.tup [{"Up"},(.tup [(.call 44 [(.A1 (A3 A7) {0} {12,0})])])])]),(.tup [(.lst [{"Up"},(.tup [])])])])))&&&[sI c,sI m,sP g5,sL true (P6++[MG (.tup [.int m])])]= .nx [sI c,sI m,sP g5,sL true (eE m b)]:=by
  rw[Pc]
  have ev:(k + 1)|||(.lst [(.tup [(.tup [{"Up"}])]),(.tup [(.tup [{"Up"},(.tup [{"whole"}])])]),(.cst (.p .A8)),(.tup [(.tup [{"Up"},(.tup [(.call 44 [(.A1 (A3 A7) {0} {12,0})])])])]),(.tup [(.lst [{"Up"},(.tup [])])])])&&&[sI c,sI m,sP g5,sL true (P6++[MG (.tup [.int m])])]= .ok (.lst true (VH++[MG (.tup [b])]++VG)):=by
   simp! [fd c 12,eb];rfl
  rw[Pj,ev];rfl
 rw[Ak,s6,Bc];simp! [md c 12,show A2 (.lst false (eE m b)) (.p (.int (c%12)))=_ from e]
def M2:List P:=[.int (-1),.int 4,.bl true,.A8,.str "1",.tup [.int 1]]
theorem jx:(M2.all λx=>Ay x && !EO (λ_=>true) x)=true:=by kernel_rfl
def M6:List P:=[.box 0 [.str "a"],.tup [.str "a",.str "b",.str "c",.str "d"],.tup [.str "A"],.tup [.int 0],.A8,.str "abc",.tup [.tup [.str "a"]]]
theorem iF:(M6.all λx=>Ay x && !Bl Dx x)=true:=by kernel_rfl
theorem eT:(M6.all λx=>Ay x && !Bl A4 x)=true:=by kernel_rfl
def M5(b:P):List P:=[.tup [.int 1],.box 0 [.int 0],.tup [.int 0,.int 0,.int 0,.int 0],.tup [.str "whole"],.A8]++[.tup [.int 0,b]]
theorem jw:(([.tup [.int 1],.box 0 [.int 0],.tup [.int 0,.int 0,.int 0,.int 0],.tup [.str "whole"],.A8]:List P).all λx=>Ay x && !Bl (An 1) x)=true:=by kernel_rfl
section
variable {ps:List P}{s:Str}(h:Ay (.tup ps)=true)(h0:ps.getD 0 .A8= .str s)(a:Nat)(ha:a < ps.length)(c:Int)
include h h0 ha
theorem FZ:A2 (.p (.tup ps)) (.p (.int a))=some (.p (ps.getD a .A8)):=Cj a ha
theorem GL:A2 (.p (.tup ps)) (.p (.int 0))=some (.p (.str s)):=by rw[K3 (by lia),h0]
theorem field_str(k:Nat)(hs:DG (ps.getD a .A8)=true):∃x,(Ay x=true/\A4 x=false)/\~~~(k + 2) 47 [.p (.tup ps),.p (.int a),.p (.int c)]= .ok (.p x):=by
 obtain⟨x,hx,e⟩:=Lc k c;refine⟨x,hx,call_of (r:=.ret (.p x)) WE rfl ?_⟩;show execs _ _ Ln [sP (.tup ps),sI a,sI c,none,none]=_;unfold Ln;simp! [FZ h h0 a ha,Cg (Aa h a),hs,e]
theorem KP(k:Nat)(hs:DG (ps.getD a .A8)=false)(d1:decide (s="kind")=true)(d2:decide ((a:Int)=2)=true):∃x,(Ay x=true/\EO (λ_=>true) x=false)/\~~~(k + 1) 47 [.p (.tup ps),.p (.int a),.p (.int c)]= .ok (.p x):=by
 obtain⟨x,hx,e⟩:=AJ true (ps:=M2) c 6 rfl (by decide);refine⟨x,CZ jx hx,call_of (r:=.ret (.p x)) WE rfl ?_⟩;show execs _ _ Ln [sP (.tup ps),sI a,sI c,none,none]=_;unfold Ln;have el:∀ρ:Env,k|||(.lst [(.Ai (DD EM) {1,0}),{4,0},(.cst (.p (.bl true))),(.cst (.p .A8)),{"1"},(.tup [{1,0}])])&&&ρ= .ok (.lst true M2):=λρ=>rfl
 simp! [FZ h h0 a ha,Cg (Aa h a),hs,GL h h0 a ha,eq_str,d1,eq_int,d2,↓el,md c 6,show A2 (.lst true M2) (.p (.int (c%6)))=_ from e]
theorem KO(k:Nat)(m:Int)(hc:0<=c)(h2:2 < ps.length)(hm:ps.getD 2 .A8= .int m)(hs:DG (ps.getD a .A8)=false)(d1:decide (s="kind")=true)(d2:decide ((a:Int)=2)=false):∃x,(Ay x=true/\Hr m x=false)/\~~~(k + 3) 47 [.p (.tup ps),.p (.int a),.p (.int c)]= .ok (.p x):=by
 obtain⟨x,hx,e⟩:=JN k c m hc;refine⟨x,hx,call_of (r:=.ret (.p x)) WE rfl ?_⟩;show execs _ _ Ln [sP (.tup ps),sI a,sI c,none,none]=_;unfold Ln;simp! [FZ h h0 a ha,Cg (Aa h a),hs,GL h h0 a ha,eq_str,d1,eq_int,d2,IU h2,hm,e]
theorem KQ(k:Nat)(hs:DG (ps.getD a .A8)=false)(d1:decide (s="kind")=false)(d3:decide (s="deed")=true)(d4:decide ((a:Int)=4)=true):∃x,(Ay x=true/\An 1 x=false)/\~~~(k + 2) 47 [.p (.tup ps),.p (.int a),.p (.int c)]= .ok (.p x):=by
 obtain⟨b,⟨hb1,hb2⟩,eb⟩:=DS k (c/5)
 have fin:∃x,(x= .int 1\/x=b)/\A2 (.lst true [.int 1,b]) (.p (.int (if decide (0 < c % 5)=true then 1 else 0)))=some (.p x):=by
  cases decide (0 < c%5)
  .exact⟨.int 1,.inl rfl,rfl⟩
  .exact⟨b,.inr rfl,rfl⟩
 obtain⟨x,hx,e⟩:=fin;refine⟨x,?_,call_of (r:=.ret (.p x)) WE rfl ?_⟩
 .rcases hx with rfl|rfl
  .exact⟨rfl,HC 1⟩
  .exact⟨hb1,by unfold An;rw[hb2];rfl⟩
 show execs _ _ Ln [sP (.tup ps),sI a,sI c,none,none]=_;unfold Ln;have ei:∀q:Bool,V0 (.p (.bl q))=some (.p (.int (if q then 1 else 0))):=λq=>rfl
 simp! [FZ h h0 a ha,Cg (Aa h a),hs,GL h h0 a ha,eq_str,d1,d3,eq_int,d4,fd c 5,eb,md c 5,gt_int,ei,show([.int 1,b]:List P).length<=1000 from by simp];rw[e];rfl
theorem KR(k:Nat)(hs:DG (ps.getD a .A8)=false)(d1:decide (s="kind")=false)(d3:decide (s="deed")=true)(d4:decide ((a:Int)=4)=false):∃x,(Ay x=true/\Bl (An 1) x=false)/\~~~(k + 2) 47 [.p (.tup ps),.p (.int a),.p (.int c)]= .ok (.p x):=by
 obtain⟨b,⟨hb1,hb2⟩,eb⟩:=DS k (c/6);obtain⟨x,hx,e⟩:=AJ false (ps:=M5 b) c 6 rfl (by decide);refine⟨x,?_,call_of (r:=.ret (.p x)) WE rfl ?_⟩
 .rcases mZ hx with hx|hx
  .exact CZ jw hx
  .rw[mem_singleton]at hx;subst hx;refine⟨by rw[Ay,EL,EL,hb1];rfl,?_⟩;have:An 1 b=false:=by unfold An;rw[hb2];rfl
   simp[Bl,this]
 show execs _ _ Ln [sP (.tup ps),sI a,sI c,none,none]=_;unfold Ln
 have el:∀y z w q,(k + 1)|||(.lst [(.tup [{1,0}]),(.lst [{0,0}]),(.tup [{0,0},{0,0},{0,0},{0,0}]),(.tup [{"whole"}]),(.cst (.p .A8)),(.tup [{0,0},(.call 44 [(.A1 (A3 A7) {2} {6,0})])])])&&&[y,z,sI c,w,q]= .ok (.lst true (M5 b)):=λy z w q=>by
  simp! [fd c 6,eb];rfl
 simp! [FZ h h0 a ha,Cg (Aa h a),hs,GL h h0 a ha,eq_str,d1,d3,eq_int,d4,↓el,md c 6,show A2 (.lst false (M5 b)) (.p (.int (c%6)))=_ from e]
theorem Iu(k:Nat)(hs:DG (ps.getD a .A8)=false)(d1:decide (s="kind")=false)(d3:decide (s="deed")=false)(d4:(decide (s="class") || decide (s="house"))=true):∃x,(Ay x=true/\Bl Dx x=false/\Bl A4 x=false)/\~~~(k + 1) 47 [.p (.tup ps),.p (.int a),.p (.int c)]= .ok (.p x):=by
 obtain⟨x,hx,e⟩:=AJ true (ps:=M6) c 7 rfl (by decide);refine⟨x,⟨(CZ iF hx).1,(CZ iF hx).2,(CZ eT hx).2⟩,call_of (r:=.ret (.p x)) WE rfl ?_⟩;show execs _ _ Ln [sP (.tup ps),sI a,sI c,none,none]=_;unfold Ln;have el:∀ρ:Env,k|||(.lst [(.lst [{"a"}]),(.tup [{"a"},{"b"},{"c"},{"d"}]),(.tup [{"A"}]),(.tup [{0,0}]),(.cst (.p .A8)),{"abc"},(.tup [(.tup [{"a"}])])])&&&ρ= .ok (.lst true M6):=λρ=>rfl
 simp! [FZ h h0 a ha,Cg (Aa h a),hs,GL h h0 a ha,eq_str,d1,d3,d4,↓el,md c 7,show A2 (.lst true M6) (.p (.int (c%7)))=_ from e]
theorem Hs(k:Nat)(hs:DG (ps.getD a .A8)=false)(d1:decide (s="kind")=false)(d3:decide (s="deed")=false)(d4:(decide (s="class") || decide (s="house"))=false)(d5:decide ((a:Int)=ps.length - 1)=true):∃x,(Ay x=true/\Bm x=false)/\~~~(k + 3) 47 [.p (.tup ps),.p (.int a),.p (.int c)]= .ok (.p x):=by
 obtain⟨x,hx,e⟩:=Ld k c;refine⟨x,hx,call_of (r:=.ret (.p x)) WE rfl ?_⟩;show execs _ _ Ln [sP (.tup ps),sI a,sI c,none,none]=_;unfold Ln;simp! [FZ h h0 a ha,Cg (Aa h a),hs,GL h h0 a ha,eq_str,d1,d3,d4,AG,sb,eq_int,d5,e]
theorem KN(k:Nat)(hs:DG (ps.getD a .A8)=false)(d1:decide (s="kind")=false)(d3:decide (s="deed")=false)(d4:(decide (s="class") || decide (s="house"))=false)(d5:decide ((a:Int)=ps.length - 1)=false):∃x,(Ay x=true/\Cn x=false)/\~~~(k + 2) 47 [.p (.tup ps),.p (.int a),.p (.int c)]= .ok (.p x):=by
 obtain⟨x,hx,e⟩:=JM k c;refine⟨x,hx,call_of (r:=.ret (.p x)) WE rfl ?_⟩;show execs _ _ Ln [sP (.tup ps),sI a,sI c,none,none]=_;unfold Ln;simp! [FZ h h0 a ha,Cg (Aa h a),hs,GL h h0 a ha,eq_str,d1,d3,d4,AG,sb,eq_int,d5,e]
end
theorem Cy{ps:List P}{a:Nat}(ha:a < ps.length)(x:P):(ps.set a x).getD a .A8=x:=by
 rw[getD_eq_getElem?_getD,List.getElem?_set_self ha];rfl
theorem Rq{ps:List P}{a i:Nat}(hi:a≠i)(x:P):(ps.set a x).getD i .A8=ps.getD i .A8:=by
 rw[getD_eq_getElem?_getD,List.getElem?_set_ne hi,getD_eq_getElem?_getD]
theorem E3{ps:List P}(h:Bd (.tup ps)=true):ps.getD 0 .A8= .str (ps.getD 0 .A8).s/\BK (ps.getD 0 .A8).s ps.length=true/\HL (ps.getD 0 .A8).s ps=true:=by
 have h1:(BV (.tup ps) && (BK (ps.getD 0 .A8).s ps.length && HL (ps.getD 0 .A8).s ps))=true:=h;rw[bA,bA]at h1;have h2:=h1.1;simp only[BV,bA]at h2;exact⟨MP h2.2,h1.2.1,h1.2.2⟩
theorem TV{ps:List P}{a:Nat}(h0:ps.getD 0 .A8= .str s)(h1:1<=a)(x:P)(h:HL s (ps.set a x)=false):Bd (.tup (ps.set a x))=false:=by
 show(BV (.tup (ps.set a x)) && (BK ((ps.set a x).getD 0 .A8).s (ps.set a x).length && HL ((ps.set a x).getD 0 .A8).s (ps.set a x)))=false;rw[Rq (by lia),h0,show(P.str s).s=s from rfl,h,Bool.and_false,Bool.and_false]
theorem CH(h:A4 x=true):DG x=true:=by cases x<;>first|rfl|cases h
theorem UH{f:Int->Bool}(h:EO (λ_=>true) x=false):EO f x=false:=by
 cases x with
 |int m=>simp only[EO,Bool.and_true]at h ⊢;rw[h];rfl
 |_=>rfl
theorem Hv{g:P->Bool}(h:Bl g x=true):DG x=false:=by cases x<;>first|rfl|cases h
theorem Sh(h:An m x=true):DG x=false:=by
 cases x with
 |str y=>exact absurd h (by unfold An;rw[show kindB (.str y)=false from rfl];simp)
 |_=>rfl
theorem NA(h:Bm x=true):DG x=false:=by
 cases x with
 |str y=>exact absurd h (by rw[show Bm (.str y)=false from rfl];simp)
 |_=>rfl
theorem WL(h:Cn x=true):DG x=false:=by cases x<;>first|rfl|cases h
theorem OO(k:Nat)(c:Int)(hc:0<=c){ps:List P}(h:Ay (.tup ps)=true)(hr:Bd (.tup ps)=true)(a:Nat)(h1:1<=a)(ha:a < ps.length):∃x,Ay x=true/\Bd (.tup (ps.set a x))=false/\~~~(k + 3) 47 [.p (.tup ps),.p (.int a),.p (.int c)]= .ok (.p x):=by
 obtain⟨h0,hl,hw⟩:=E3 hr;generalize (ps.getD 0 .A8).s=s at h0 hl hw;have up:∀{x:P} {q:Prop},(Ay x=true/\q)/\~~~(k+3) 47 [.p (.tup ps),.p (.int a),.p (.int c)]= .ok (.p x)->(q->HL s (ps.set a x)=false)->∃x,Ay x=true/\Bd (.tup (ps.set a x))=false/\~~~(k+3) 47 [.p (.tup ps),.p (.int a),.p (.int c)]= .ok (.p x):=λ{x q} h2 h3=>⟨x,h2.1.1,TV h0 h1 x (h3 h2.1.2),h2.2⟩
 unfold HL at hw up
 by_cases s1:s="kind"
 .have hn:ps.length=4:=Cf hl s1 (Bw _);rw[iP s1]at hw;simp only[iP s1]at up;unfold Kv at hw up;rw[bA]at hw
  obtain⟨m,hm⟩:∃m,ps.getD 2 .A8= .int m:=by
   cases e:ps.getD 2 .A8 with
   |int m=>exact⟨m,rfl⟩
   |_=>rw[e]at hw;cases hw.2
  have d1:=dZ s1;rcases(by lia:a=1\/a=2\/a=3)with rfl|rfl|rfl
  .obtain⟨x,hx⟩:=field_str h h0 1 ha c (k+1) (CH hw.1);exact up hx λq=>by rw[Cy ha,q];rfl
  .obtain⟨x,hx⟩:=KP h h0 2 ha c (k+2) (by rw[hm];rfl) d1 rfl;exact up hx λq=>by rw[Cy ha,UH q,Bool.and_false]
  .have h3:=hw.2;rw[hm]at h3;simp only[EO,bA]at h3;have hs:DG (ps.getD 3 .A8)=false:=by rw[(D8 h3.2.1).1];rfl
   obtain⟨x,hx⟩:=KO h h0 3 ha c k m hc (by lia) hm hs d1 rfl
   exact up hx λq=>by
    rw[Cy ha,Rq (by decide),Rq (by decide),hm];show(_ && (_ && Hr m x))=false;rw[q,Bool.and_false,Bool.and_false]
 have d1:=dF s1;rw[iN s1]at hw;simp only[iN s1]at up
 by_cases s2:s="class"
 .have hn:ps.length=3:=Cf hl s2 (Bw _);rw[iP s2]at hw;simp only[iP s2]at up;rw[bA]at hw;have d3:decide (s="deed")=false:=by rw[s2];rfl
  have d4:(decide (s="class") || decide (s="house"))=true:=by rw[s2];rfl
  rcases(by lia:a=1\/a=2)with rfl|rfl
  .obtain⟨x,hx⟩:=field_str h h0 1 ha c (k+1) (CH hw.1);exact up hx λq=>by rw[Cy ha,q];rfl
  .obtain⟨x,hx⟩:=Iu h h0 2 ha c (k+2) (Hv hw.2) d1 d3 d4;exact up hx λq=>by rw[Cy ha,q.2,Bool.and_false]
 rw[iN s2]at hw;simp only[iN s2]at up
 by_cases s3:s="deed"
 .have hn:ps.length=5:=Cf hl s3 (Bw _);rw[iP s3]at hw;simp only[iP s3]at up;unfold KY at hw up;simp only[bA]at hw;have d3:=dZ s3;rcases(by lia:a=1\/a=2\/a=3\/a=4)with rfl|rfl|rfl|rfl
  .obtain⟨x,hx⟩:=field_str h h0 1 ha c (k+1) (CH hw.1);exact up hx λq=>by rw[Cy ha,q];rfl
  .obtain⟨x,hx⟩:=field_str h h0 2 ha c (k+1) (CH hw.2.1);exact up hx λq=>by rw[Cy ha,q,Bool.false_and,Bool.and_false]
  .obtain⟨x,hx⟩:=KR h h0 3 ha c (k+1) (Hv hw.2.2.1) d1 d3 rfl;exact up hx λq=>by rw[Cy ha,q,Bool.false_and,Bool.and_false,Bool.and_false]
  .obtain⟨x,hx⟩:=KQ h h0 4 ha c (k+1) (Sh hw.2.2.2) d1 d3 rfl;exact up hx λq=>by rw[Cy ha,q,Bool.and_false,Bool.and_false,Bool.and_false]
 have d3:=dF s3;rw[iN s3]at hw;simp only[iN s3]at up
 by_cases s4:s="house"
 .have hn:ps.length=4:=Cf hl s4 (Bw _);rw[iP s4]at hw;simp only[iP s4]at up;simp only[bA]at hw;have d4:(decide (s="class") || decide (s="house"))=true:=by rw[s4];rfl
  rcases(by lia:a=1\/a=2\/a=3)with rfl|rfl|rfl
  .obtain⟨x,hx⟩:=field_str h h0 1 ha c (k+1) (CH hw.1);exact up hx λq=>by rw[Cy ha,q];rfl
  .obtain⟨x,hx⟩:=field_str h h0 2 ha c (k+1) (CH hw.2.1);exact up hx λq=>by rw[Cy ha,q,Bool.false_and,Bool.and_false]
  .obtain⟨x,hx⟩:=Iu h h0 3 ha c (k+2) (Hv hw.2.2) d1 d3 d4;exact up hx λq=>by rw[Cy ha,q.1,Bool.and_false,Bool.and_false]
 have d4:(decide (s="class") || decide (s="house"))=false:=by rw[dF s2,dF s4];rfl
 rw[iN s4]at hw;simp only[iN s4]at up
 by_cases s5:s="ask"
 .have hn:ps.length=2:=Cf hl s5 (Bw _);rw[iP s5]at hw;simp only[iP s5]at up;obtain rfl:a=1:=by lia
  obtain⟨x,hx⟩:=Hs h h0 1 ha c k (NA hw) d1 d3 d4 (by rw[hn];rfl);exact up hx λq=>by rw[Cy ha,q]
 rw[iN s5]at hw;simp only[iN s5]at up
 have hn:3<=ps.length:=by
  unfold BK at hl;rw[decide_eq_true_eq,Bw,iN s1,iN s2,iN s3,iN s4,iN s5]at hl
  repeat' split at hl
  all_goals first|cases hl|(have:=P.int.inj hl;lia)
 unfold La at hw up;simp only[bA]at hw;simp only[length_set]at up
 by_cases e1:a=ps.length-1
 .obtain⟨x,hx⟩:=Hs h h0 a ha c k (by rw[e1];exact NA hw.2.2) d1 d3 d4 (dZ (by lia));exact up hx λq=>by rw[<-e1,Cy ha,q,Bool.and_false,Bool.and_false]
 by_cases e2:a=ps.length-2
 .obtain⟨x,hx⟩:=KN h h0 a ha c (k+1) (by rw[e2];exact WL hw.2.1) d1 d3 d4 (dF (by lia));exact up hx λq=>by rw[<-e2,Cy ha,q,Bool.false_and,Bool.and_false]
 .have hm:∀(qs:List P),qs.length=ps.length->qs.getD a .A8∈(qs.drop 1).take (qs.length - 3):=λqs hq=>by
   rw[List.mem_iff_getElem?];refine⟨a-1,?_⟩;rw[List.getElem?_take_of_lt (by lia),List.getElem?_drop,show 1+(a-1)=a from by lia,getD_eq_getElem?_getD,List.getElem?_eq_getElem (by lia)];rfl
  have hna:=all_eq_true.mp hw.1 _ (hm ps rfl);obtain⟨x,hx⟩:=field_str h h0 a ha c (k+1) (CH hna)
  exact up hx λq=>by
   have h5:=hm (ps.set a x) (by simp);rw[Cy ha,length_set]at h5
   have h6:(((ps.set a x).drop 1).take (ps.length - 3)).all A4=false:=by
    cases e:(((ps.set a x).drop 1).take (ps.length-3)).all A4 with
    |false=>rfl
    |true=>have:=all_eq_true.mp e x h5;rw[q]at this;cases this
   rw[h6,Bool.false_and]
theorem RR(ps:List P)(a:Nat)(h:a<=ps.length):cut ps none (some (a:Int))=ps.take a:=by
 have e1:Cd ps.length 0 none=0:=rfl
 have e2:Cd ps.length ps.length (some (a:Int))=a:=by
  show(if(a:Int) < 0 then((a:Int)+ps.length).toNat else min (Int.toNat a) ps.length)=a;rw[iN (by lia),Int.toNat_natCast]
  lia
 unfold cut;rw[e1,e2];simp
theorem Z9(ps:List P):cut ps none (some (-1))=ps.take (ps.length - 1):=by
 have e1:Cd ps.length 0 none=0:=rfl
 have e2:Cd ps.length ps.length (some (-1))=ps.length - 1:=by
  show(if(-1:Int) < 0 then((-1:Int)+ps.length).toNat else min (Int.toNat (-1)) ps.length)=_;rw[iP (by decide)]
  lia
 unfold cut;rw[e1,e2];simp
theorem RQ(ps:List P)(a:Nat)(h:a<=ps.length):cut ps (some (a:Int)) none=ps.drop a:=by
 have e1:Cd ps.length 0 (some (a:Int))=a:=by
  show(if(a:Int) < 0 then((a:Int)+ps.length).toNat else min (Int.toNat a) ps.length)=a;rw[iN (by lia),Int.toNat_natCast]
  lia
 have e2:Cd ps.length ps.length none=ps.length:=rfl;unfold cut;rw[e1,e2,take_of_length_le (by simp)]
theorem IW(ps:List P)(a:Nat)(h:a<=ps.length):DC (.p (.tup ps)) (.p (.int a))=some (.p (.tup (ps.take a))):=by
 show some (C.p (.tup (cut ps none (some (a:Int)))))=_;rw[RR ps a h]
theorem Xj(ps:List P):DC (.p (.tup ps)) (.p (.int (-1)))=some (.p (.tup (ps.take (ps.length - 1)))):=by
 show some (C.p (.tup (cut ps none (some (-1)))))=_;rw[Z9 ps]
theorem MT(ps:List P)(a:Nat)(h:a<=ps.length):Fu (.p (.tup ps)) (.p (.int a))=some (.p (.tup (ps.drop a))):=by
 show some (C.p (.tup (cut ps (some (a:Int)) none)))=_;rw[RQ ps a h]
theorem GC(a b:List P)(h0:a≠[])(h:(a++b).length<=big):A5 (.p (.tup a)) (.p (.tup b))=some (.p (.tup (a++b))):=by
 cases a with
 |nil=>exact absurd rfl h0
 |cons x a=>
   show(((GI (x::a++b)).map λz=>C.p (.tup z)) <|> _)=_;unfold GI;rw[iP h];rfl
theorem Ni{ps:List P}(h:Bd (.tup ps)=true):2<=ps.length/\ps.length<=6:=by
 obtain⟨_,hl,_⟩:=E3 h;unfold BK at hl;rw[decide_eq_true_eq,Bw]at hl
 repeat' split at hl
 all_goals first|cases hl|(have:=P.int.inj hl;lia)
theorem MX{ps qs:List P}(h:Bd (.tup ps)=true)(h0:qs.getD 0 .A8=ps.getD 0 .A8)(hl:qs.length≠ps.length):Bd (.tup qs)=false:=by
 cases hq:Bd (.tup qs)with
 |false=>rfl
 |true=>
   have h1:=(E3 h).2.1;have h2:=(E3 hq).2.1;rw[h0]at h2;unfold BK at h1 h2;rw[decide_eq_true_eq]at h1 h2;rw[h1]at h2;have:=P.int.inj h2
   lia
theorem E6{ps:List P}(h:∀x∈ps,Ay x=true):Ay (.tup ps)=true:=by rw[Ay];exact(DM ps).mpr h
def dD(ps:List P):List P:=[.box 0 ps,.tup (ps++[.A8]),.tup (ps.take (ps.length-1)),.tup [],.A8,.tup (.str "kinds"::ps.drop 1),.str "kind"]
theorem Xb{ps:List P}(h:Ay (.tup ps)=true)(hr:Bd (.tup ps)=true):∀y∈dD ps,Ay y=true/\Bd y=false:=by
 have hn:=Ni hr;intro y hy;simp only[dD,mem_cons,not_mem_nil,or_false]at hy;rcases hy with rfl|rfl|rfl|rfl|rfl|rfl|rfl
 .exact⟨by show EL ps=true;exact(DM ps).mpr (Cp h),rfl⟩
 .refine⟨E6 λx hx=>?_,MX hr ?_ (by simp)⟩
  .rcases mZ hx with hx|hx
   .exact Cp h x hx
   .rw[mem_singleton]at hx;subst hx;rfl
  .rw[getD_eq_getElem?_getD,List.getElem?_append_left (by lia),getD_eq_getElem?_getD]
 .refine⟨E6 λx hx=>Cp h x (mem_of_mem_take hx),MX hr ?_ (by simp;lia)⟩;rw[getD_eq_getElem?_getD,List.getElem?_take_of_lt (by lia),getD_eq_getElem?_getD]
 .exact⟨by rw[Ay,EL],rfl⟩
 .exact⟨rfl,rfl⟩
 .refine⟨E6 λx hx=>?_,?_⟩
  .rcases mK hx with rfl|hx
   .kernel_rfl
   .exact Cp h x (mem_of_mem_drop hx)
  .have:∀n,BK "kinds" n=false:=λn=>by
    unfold BK;rw[show M0 "kinds"= .A8 from by kernel_rfl];simp
   have e:Bd (.tup (.str "kinds"::ps.drop 1))=(BV (.tup (.str "kinds"::ps.drop 1)) && (BK "kinds" (.str "kinds"::ps.drop 1:List P).length && HL "kinds" (.str "kinds"::ps.drop 1))):=rfl;rw[e,this,Bool.false_and,Bool.and_false]
 .exact⟨by kernel_rfl,rfl⟩
theorem TK{ps:List P}{a:Nat}(ha:a < ps.length)(x:P):ps.take a++[x]++ps.drop (a + 1)=ps.set a x:=by
 rw[List.set_eq_take_append_cons_drop,iP ha];simp
theorem O6(k:Nat)(c:Int)(hc:0<=c){ps:List P}(h:Ay (.tup ps)=true)(hr:Bd (.tup ps)=true):∃y,(Ay y=true/\Bd y=false)/\~~~(k + 4) 48 [.p (.tup ps),.p (.int c)]= .ok (.p y):=by
 have hn:=Ni hr;have g0:=Int.emod_nonneg c (by decide:(13:Int)≠0);have hb:∀n:Nat,n<=1000->n<=big:=λn h=>by unfold big;lia
 by_cases hw:c%13 < 7
 .obtain⟨y,hy,e⟩:=IT true (ps:=dD ps) g0 hw;refine⟨y,Xb h hr y hy,call_of (r:=.ret (.p y)) jh rfl ?_⟩;show execs _ _ dw [sP (.tup ps),sI c,none,none]=_;unfold dw;have e1:CL (.p (.tup ps))=some (.lst true ps):=rfl;have e2:DD EM (.p (.int 1))=some (.p (.int (-1))):=rfl;have e3:A5 (.p (.tup ps)) (.p (.tup [.A8]))=_:=GC ps [.A8] (by intro e;rw[e]at hn;simp at hn) (by simp;apply hb;lia);have e4:A5 (.p (.tup [.str "kinds"])) (.p (.tup (ps.drop 1)))=_:=GC [.str "kinds"] (ps.drop 1) (by simp) (by simp;apply hb;lia);have e5:Fu (.p (.tup ps)) (.p (.int 1))=_:=MT ps 1 (by lia)
  have el:∀y z w:Option C,(k + 3)|||(.lst [(.Ai CL {0}),(.A1 A5 {0} (.tup [(.cst (.p .A8))])),(.A1 DC {0} (.Ai (DD EM) {1,0})),(.tup []),(.cst (.p .A8)),(.A1 A5 (.tup [{"kinds"}]) (.A1 Fu {0} {1,0})),{"kind"}])&&&[sP (.tup ps),y,z,w]= .ok (.lst true (dD ps)):=λy z w=>by
   simp! [e1,e2,e3,e4,e5,Xj,show ∀p:P,([p]:List P).length<=1000 from λp=>by simp,show([]:List P).length<=1000 from by simp,show C.Dz (.lst true ps)=some (.box 0 ps)from rfl];rfl
  simp! [md c 13,lt_int,dZ hw,↓el,e]
 .have h91:0<=c/91:=Int.ediv_nonneg hc (by decide);obtain⟨a,ea⟩:=Int.eq_ofNat_of_zero_le (Int.emod_nonneg (c/13) (by lia:((ps.length:Int)-1)≠0));have hal:=Int.emod_lt_of_pos (c/13) (by lia:0 < ((ps.length:Int)-1));rw[ea]at hal;have ha:a+1 < ps.length:=by lia
  obtain⟨x,hx,hrx,ex⟩:=OO k (c/91) h91 h hr (a+1) (by lia) ha;refine⟨.tup (ps.set (a+1) x),⟨E6 λy hy=>?_,hrx⟩,call_of (r:=.ret (.p (.tup (ps.set (a+1) x)))) jh rfl ?_⟩
  .rcases List.mem_or_eq_of_mem_set hy with hy|rfl
   .exact Cp h y hy
   .exact hx
  show execs _ _ dw [sP (.tup ps),sI c,none,none]=_;unfold dw;have m1:A3 Ab (.p (.int (c/13))) (.p (.int ((ps.length:Int)-1)))=some (.p (.int (a:Int))):=by rw[md _ _ (by lia),ea]
  have a1:(1:Int)+(a:Int)=((a+1:Nat):Int):=by lia
  have a2:((a+1:Nat):Int)+1=((a+2:Nat):Int):=by lia
  have l1:ps.take (a+1)≠[]:=by intro e;have:=congrArg List.length e;rw[length_take,List.length_nil]at this;lia
  have e3:=GC (ps.take (a+1)) [x] l1 (by simp;apply hb;lia);have e4:=GC (ps.take (a+1)++[x]) (ps.drop (a+2)) (by simp) (by simp;apply hb;lia);have e5:ps.take (a+1)++[x]++ps.drop (a+2)=ps.set (a+1) x:=TK ha x;simp! [md c 13,lt_int,dF hw,fd c 13,fd c 91,AG,sb,m1,add_int,a1,a2,IW ps (a+1) (by lia),MT ps (a+2) (by lia),ex,show([x]:List P).length<=1000 from by simp,e3,e4,e5]
theorem GS(k:Nat){c:C}(hb:c.bor=c)(e: ~~~k 26 [c]= .err 1 p): ~~~(k + 1) 49 [c]= .ok (.p p):=by
 refine call_of (r:=.ret (.p p)) kq rfl ?_;show execs _ _ gF [some c,none,none]=_;unfold gF;rw[Ak,show k^^^(S.asg (.nm 1) _)&&&[some c,none,none]= .nx [some c,sP (.tup [.int 0,.int 0,.int 0]),none]from rfl,Bc,Ak]
 have e1:k<<<[.expr (.call 26 [{0}])]>>>[some c,sP (.tup [.int 0,.int 0,.int 0]),none]= .err 1 p [some c,sP (.tup [.int 0,.int 0,.int 0]),none]:=by
  simp! [hb,e]
 have e2:k^^^(.WV [.expr (.call 26 [{0}])] [([1],some 2,[.asg (.nm 1) (.Ai EK {2})])])&&&[some c,sP (.tup [.int 0,.int 0,.int 0]),none]= .nx [some c,sP p,none]:=by
  show(match execs (~~~k) AW [.expr (.call 26 [{0}])] [some c,sP (.tup [.int 0,.int 0,.int 0]),none]with
   |.err x p ρ'=>hand (~~~k) AW x p [([1],some 2,[.asg (.nm 1) (.Ai EK {2})])] ρ'
   |r=>r)=_
  rw[e1];rfl
 rw[e2];rfl
theorem LG(k:Nat){l r:List P}(hl:∀y∈l,Ay y=true/\Bd y=true)(hx:Ay x=true/\Bd x=false)(hr:∀y∈r,Ay y=true)(hn:(l++x::r).length<=40): ~~~(k + 12) 49 [.lst false (l++x::r)]= .ok (.p (.tup [.int l.length,.int 0])):=by
 refine GS (k+11) rfl ?_
 have ho:∀y∈l++x::r,Ay y=true:=λy hy=>by
  rcases mZ hy with hy|hy
  .exact(hl y hy).1
  rcases mK hy with rfl|hy
  .exact hx.1
  .exact hr y hy
 have h1:(l++x::r).all Bd=false:=by simp[hx.2]
 have h2:(l++x::r).findIdx (λy=>!Bd y)=l.length:=by
  rw[List.findIdx_append,iN,findIdx_cons]
  .simp[hx.2]
  .intro hc;obtain⟨y,hy,hb⟩:=List.findIdx_lt_length.mp hc;rw[(hl y hy).2]at hb;cases hb
 rw[G8 k ho hn,h1,h2];rfl
theorem Ca(k:Nat){x:P}(ho:Ay x=true)(hb:x.Il.isSome=true->∃ps,x= .box 0 ps/\40 < ps.length): ~~~(k+2) 49 [.p x]= .ok (.p .A8):=GS (k+1) rfl (My k ⟨x,rfl,ho,hb⟩)
def Lf(m:Int)(x:P):Prop:=(∃n,A4 n=true/\x= .tup [n])\/∃i,0<=i/\i < m/\x= .int i
theorem Nf(h:Lf m x):tl x=[]:=by rcases h with⟨n,_,rfl⟩|⟨i,_,_,rfl⟩<;>rfl
theorem Nh(h:Lf m x)(n:Nat)(r:List P):kl (n + 1) (x::r)=kl n r:=by
 rcases h with⟨a,ha,rfl⟩|⟨i,h0,_,rfl⟩
 .show(if CJ (.tup [a])then kl n r else _)=_;rw[show CJ (.tup [a])=(true && A4 a)from rfl,ha];rfl
 .show(if CJ (.int i)then _ else decide (0<=i) && kl n r)=_;rw[dZ h0];rfl
theorem Ng(h:Lf m x):ltB m x=true:=by
 rcases h with⟨a,ha,rfl⟩|⟨i,_,h1,rfl⟩
 .rfl
 .exact dZ h1
inductive Kg(m:Int):P->Prop
 |lf {x:P}:Lf m x->Kg m x
 |one {n a:P}:A4 n=true->Lf m a->Kg m (.tup [n,a])
 |two {n a b:P}:A4 n=true->Lf m a->Lf m b->Kg m (.tup [n,a,b])
theorem Hl(h:Kg m x):An m x=true:=by
 unfold An kindB;cases h with
 |lf h=>
   have e:kw 24 [x]=[x]:=by show x::kw 23 (tl x++[])=_;rw[Nf h];rfl
   rw[Nh h,e,all_cons,Ng h];rfl
 |@one n a hn ha=>
   have e:kw 24 [.tup [n,a]]=[.tup [n,a],a]:=by show P.tup [n,a]::a::kw 22 (tl a++[])=_;rw[Nf ha];rfl
   have e2:kl 24 [.tup [n,a]]=true:=by
    show(if(true && A4 n)then kl 23 [a]else _)=true;rw[hn,Nh ha];rfl
   rw[e,e2,all_cons,all_cons,Ng ha];rfl
 |@two n a b hn ha hb=>
   have e:kw 24 [.tup [n,a,b]]=[.tup [n,a,b],a,b]:=by
    show P.tup [n,a,b]::a::kw 22 (tl a++[b])=_;rw[Nf ha];show P.tup [n,a,b]::a::b::kw 21 (tl b++[])=_;rw[Nf hb];rfl
   have e2:kl 24 [.tup [n,a,b]]=true:=by
    show(if(true && A4 n)then kl 23 [b,a]else _)=true;rw[hn,Nh hb,Nh ha];rfl
   rw[e,e2,all_cons,all_cons,all_cons,Ng ha,Ng hb];rfl
theorem UB{n:P}(h:A4 n=true):Ay n=true:=by
 cases n with
 |str x=>
   have h1:(decide (1<=x.length) && decide (x.length<=8) && x.cps.all small)=true:=h;simp only[bA,decide_eq_true_eq]at h1;rw[Ay,bA,decide_eq_true_eq];refine⟨by unfold big;lia,?_⟩;unfold asc;rw[<-Array.all_toList,all_eq_true]at h1 ⊢;intro c hc;have:=h1.2 c hc;simp[small]at this ⊢
   lia
 |_=>cases h
def El(d:Nat)(x:P):Prop:=Ay x=true/\CM x x=true/\x.depth<=d
theorem Az{n:P}(h:A4 n=true)(d:Nat):El d n:=by
 refine⟨UB h,?_,?_⟩
 .cases n<;>first|rfl|cases h
 .cases n<;>first|exact Nat.zero_le _|cases h
theorem Ax{d:Nat}{ps:List P}(h:∀x∈ps,El d x):El (d + 1) (.tup ps):=by
 refine⟨E6 λx hx=>(h x hx).1,?_,?_⟩
 .have:C9 ps ps=true:=by
   induction ps with
   |nil=>rfl
   |cons p ps ih=>
     rw[C9];show(CM p p && C9 ps ps)=true;rw[(h p (.head _)).2.1,ih λx hx=>h x (.tail _ hx)];rfl
  rw[CM];show(_ || C9 ps ps)=true;rw[this,Bool.or_true]
 .rw [P.depth]
  have:P.AO ps<=d:=by
   induction ps with
   |nil=>rw[P.AO];exact Nat.zero_le _
   |cons p ps ih=>
     rw[P.AO];have:=(h p (.head _)).2.2;have:=ih λx hx=>h x (.tail _ hx)
     lia
  lia
theorem C0{d e:Nat}(h:El d x)(hd:d<=e):El e x:=⟨h.1,h.2.1,Nat.le_trans h.2.2 hd⟩
def I9(m:Nat)(n:P):List P:=[.tup [.str "whole"],.tup [.str "truth"],.tup [n]]++BP 0 m++BP 0 m
theorem HZ(m:Nat)(n:P):(I9 m n).length=3+2*m:=by simp[I9,BP];lia
theorem K5{m:Nat}{n:P}(hn:A4 n=true):∀x∈I9 m n,Lf m x:=by
 intro x hx
 have hr:∀y∈BP 0 (m:Int),Lf m y:=λy hy=>by
  obtain⟨i,hi,rfl⟩:=mem_map.mp hy;rw[mem_range]at hi;exact .inr ⟨0+(i:Nat),by lia,by lia,rfl⟩
 rcases mZ hx with hx|hx
 .rcases mZ hx with hx|hx
  .simp only[mem_cons,not_mem_nil,or_false]at hx;rcases hx with rfl|rfl|rfl
   .exact .inl ⟨_,by kernel_rfl,rfl⟩
   .exact .inl ⟨_,by kernel_rfl,rfl⟩
   .exact .inl ⟨n,hn,rfl⟩
  .exact hr x hx
 .exact hr x hx
theorem Gn(k:Nat)(m:Nat)(hm:m<=2)(c d:Option C)(o:Bool)(n:P)(ns:List P)(y z w:Option C):k^^^(.asg (.nm 4) (.A1 A5 (.A1 A5 (.lst [(.tup [{"whole"}]),(.tup [{"truth"}]),(.tup [(.A1 A2 {1} {0,0})])]) (.Ai E8 {2})) (.Ai E8 {2})))&&&[c,sL o (n::ns),sI m,d,y,z,w]= .nx [c,sL o (n::ns),sI m,d,sL true (I9 m n),z,w]:=by
 have e:A2 (.lst false (n::ns)) (.p (.int 0))=some (.p n):=DW false (k:=0) rfl;rcases(by lia:m=0\/m=1\/m=2)with rfl|rfl|rfl<;>(simp! [e,show ∀p:P,([p]:List P).length<=1000 from λp=>by simp,show ∀p q r:P,([p,q,r]:List P).length<=1000 from λp q r=>by simp];rfl)
theorem Kw(k:Nat)(c:Int)(m:Nat)(hm:m<=2){n1 n2:P}(h0:A4 n0=true):∃x,Lf m x/\~~~(k + 1) 30 [.p (.int c),.lst false [n0,n1,n2],.p (.int m),.p (.int 0)]= .ok (.p x):=by
 have hl:=HZ m n0;obtain⟨x,hx,e⟩:=AJ false (ps:=I9 m n0) (c%((3+2*m+2:Nat):Int)) (3+2*m) hl (by lia);refine⟨x,K5 h0 x hx,call_of (r:=.ret (.p x)) ji rfl ?_⟩;show execs _ _ ZI [sI c,sL false [n0,n1,n2],sI m,sI 0,none,none,none]=_;unfold ZI;rw[Ak,Gn k m hm,Bc];have e1:(((3+2*m:Nat):Int)+2)=((3+2*m+2:Nat):Int):=by lia
 simp! [AK,hl,add_int,e1,md c ((3+2*m+2:Nat):Int) (by lia),lt_int,eq_int,decide_true,md (c%((3+2*m+2:Nat):Int)) ((3+2*m:Nat):Int) (by lia),e]
theorem Hj(k:Nat)(c:Int)(m:Nat)(hm:m<=2)(h0:A4 n0=true)(h1:A4 n1=true)(h2:A4 n2=true):∃x,Kg m x/\~~~(k + 2) 30 [.p (.int c),.lst false [n0,n1,n2],.p (.int m),.p (.int 1)]= .ok (.p x):=by
 have hl:=HZ m n0;have fin:∀{x:P},Kg m x->(k+1)<<<ZI>>>[sI c,sL false [n0,n1,n2],sI m,sI 1,none,none,none]= .ret (.p x)->∃x,Kg m x/\~~~(k+2) 30 [.p (.int c),.lst false [n0,n1,n2],.p (.int m),.p (.int 1)]= .ok (.p x):=λ{x} h e=>⟨x,h,call_of (r:=.ret (.p x)) ji rfl e⟩
 have e1:(((3+2*m:Nat):Int)+2)=((3+2*m+2:Nat):Int):=by lia
 have e2:decide ((1:Int)=0)=false:=rfl;have m1:=md c ((3+2*m+2:Nat):Int) (by lia);have g1:A2 (.lst false [n0,n1,n2]) (.p (.int 1))=some (.p n1):=rfl;have g2:A2 (.lst false [n0,n1,n2]) (.p (.int 2))=some (.p n2):=rfl;have z1:((1:Int)-1)=0:=rfl
 by_cases w1:c%((3+2*m+2:Nat):Int) < ((3+2*m:Nat):Int)
 .obtain⟨x,hx,e⟩:=AJ false (ps:=I9 m n0) (c%((3+2*m+2:Nat):Int)) (3+2*m) hl (by lia);refine fin (.lf (K5 h0 x hx)) ?_;unfold ZI;rw[Ak,Gn (k+1) m hm,Bc];simp! [AK,hl,add_int,e1,m1,lt_int,eq_int,dZ w1,md (c%((3+2*m+2:Nat):Int)) ((3+2*m:Nat):Int) (by lia),e]
 obtain⟨x,hx,ex⟩:=Kw k (c/13) m hm (n1:=n1) (n2:=n2) h0
 by_cases w2:c%((3+2*m+2:Nat):Int)=((3+2*m:Nat):Int)
 .refine fin (.one h1 hx) ?_;unfold ZI;rw[Ak,Gn (k+1) m hm,Bc];simp! [AK,hl,add_int,e1,m1,lt_int,eq_int,dF w1,e2];simp! [AK,hl,eq_int,dZ w2,g1,fd c 13,sb,z1,ex,show([n1,x]:List P).length<=1000 from by simp]
 .obtain⟨y,hy,ey⟩:=Kw k (c/177) m hm (n1:=n1) (n2:=n2) h0;refine fin (.two h2 hx hy) ?_;unfold ZI;rw[Ak,Gn (k+1) m hm,Bc];simp! [AK,hl,add_int,e1,m1,lt_int,eq_int,dF w1,e2];simp! [AK,hl,eq_int,dF w2,g2,fd c 13,fd c 177,sb,z1,ex,ey,show([n2,x,y]:List P).length<=1000 from by simp]
theorem Gy(h:C8 x=true)(hp:el 39 (((BQ x).map λy=>(y,0 + 1)).reverse++[])=true):Bm x=true:=by
 show(decide (0<=11) && C8 x && el 39 (((BQ x).map λy=>(y,0+1)).reverse++[]))=true;rw[h,hp];rfl
theorem Z0(h:Kh (.int i)=true):Bm (.tup [.str "number",.int i])=true:=by
 refine Gy ?_ rfl;show(true && (true && Kh (.int i)))=true;rw[h];rfl
theorem V7{n:P}(h:A4 n=true):Bm (.tup [.str "name",n])=true:=by
 refine Gy ?_ rfl;show(true && (true && A4 n))=true;rw[h];rfl
theorem V8(h:Bi f=true):Bm (.tup [.str "form",f,.tup []])=true:=by
 refine Gy ?_ rfl;show(true && (true && (Bi f && true)))=true;rw[h];rfl
theorem V9{n:P}(h:A4 n=true):Bm (.tup [.str "call",n,.tup [.tup [.str "number",.int 1]]])=true:=by
 refine Gy ?_ (by kernel_rfl);show(true && (true && (A4 n && true)))=true;rw[h];rfl
theorem Rw{n:P}(h:Bi n=true):Ay n=true:=by
 cases n with
 |str x=>
   have h1:Iq x.cps.toList=true:=h;have hl:=BU x;rw[Ay,bA,decide_eq_true_eq];unfold asc;rw[<-Array.all_toList,all_eq_true];cases e:x.cps.toList with
   |nil=>rw[e]at h1;cases h1
   |cons c r=>
     rw[e]at h1 hl;simp only[Iq,bA,decide_eq_true_eq,great,all_eq_true]at h1;refine⟨by simp at hl;unfold big;lia,λd hd=>?_⟩;rcases mK hd with rfl|hd
     .simp;lia
     .have:=h1.2.2 d hd;simp[small]at this ⊢
      lia
 |_=>cases h
theorem KJ{n:P}(h:Bi n=true)(d:Nat):El d n:=by
 refine⟨Rw h,?_,?_⟩
 .cases n<;>first|rfl|cases h
 .cases n<;>first|exact Nat.zero_le _|cases h
theorem Gv(i:Int)(d:Nat):El d (.int i):=⟨rfl,rfl,Nat.zero_le _⟩
theorem Uu(d:Nat):El d .A8:=⟨rfl,rfl,Nat.zero_le _⟩
theorem Jn(h:Lf m x):El 1 x:=by
 rcases h with⟨a,ha,rfl⟩|⟨i,_,_,rfl⟩
 .exact Ax (d:=0) λy hy=>by rw[mem_singleton]at hy;subst hy;exact Az ha 0
 .exact Gv i 1
theorem M7(h:Kg m x):El 2 x:=by
 cases h with
 |lf h=>exact C0 (Jn h) (by decide)
 |one hn ha=>
   exact Ax (d:=1) λy hy=>by
    simp only[mem_cons,not_mem_nil,or_false]at hy;rcases hy with rfl|rfl
    .exact Az hn 1
    .exact Jn ha
 |two hn ha hb=>
   exact Ax (d:=1) λy hy=>by
    simp only[mem_cons,not_mem_nil,or_false]at hy;rcases hy with rfl|rfl|rfl
    .exact Az hn 1
    .exact Jn ha
    .exact Jn hb
inductive Eg:P->Prop
 |num {i:Int}:Kh (.int i)=true->Eg (.tup [.str "number",.int i])
 |name {n:P}:A4 n=true->Eg (.tup [.str "name",n])
 |YV {f:P}:Bi f=true->Eg (.tup [.str "form",f,.tup []])
 |call {n:P}:A4 n=true->Eg (.tup [.str "call",n,.tup [.tup [.str "number",.int 1]]])
theorem JC(h:Eg x):Bm x=true:=by
 cases h with
 |num h=>exact Z0 h
 |name h=>exact V7 h
 |YV h=>exact V8 h
 |call h=>exact V9 h
theorem Bv(h:Ay (.str x)=true)(d:Nat):El d (.str x):=⟨h,rfl,Nat.zero_le _⟩
theorem Z2(h:Eg x):El 3 x:=by
 have two:∀{a b:P},El 2 a->El 2 b->El 3 (.tup [a,b]):=λ{a b} ha hb=>Ax (d:=2) λy hy=>by
  simp only[mem_cons,not_mem_nil,or_false]at hy;rcases hy with rfl|rfl
  .exact ha
  .exact hb
 have three:∀{a b c:P},El 2 a->El 2 b->El 2 c->El 3 (.tup [a,b,c]):=λ{a b c} ha hb hc=>Ax (d:=2) λy hy=>by
  simp only[mem_cons,not_mem_nil,or_false]at hy;rcases hy with rfl|rfl|rfl
  .exact ha
  .exact hb
  .exact hc
 cases h with
 |num h=>exact two (Bv (by kernel_rfl) 2) (Gv _ 2)
 |name h=>exact two (Bv (by kernel_rfl) 2) (Az h 2)
 |YV h=>exact three (Bv (by kernel_rfl) 2) (KJ h 2) (C0 (Ax (d:=0) λy hy=>by cases hy) (by decide))
 |call h=>
   exact three (Bv (by kernel_rfl) 2) (Az h 2) (Ax (d:=1) λy hy=>by
    rw[mem_singleton]at hy;subst hy
    exact Ax (d:=0) λy hy=>by
     simp only[mem_cons,not_mem_nil,or_false]at hy;rcases hy with rfl|rfl
     .exact Bv (by kernel_rfl) 0
     .exact Gv 1 0)
noncomputable abbrev dW (k:Nat):Env->Fl:=execs (~~~k) AW [(.Bu 4 true (BY AL) [(.tup [{"name"},{6}])])]
theorem NP(k:Nat)(a b c d e:Option C):∀(vs ws:List P) (y:Option C),ws.length + vs.length<=1000->∃y',forL (.nm 6) (dW k) vs [a,b,c,d,sL true ws,e,y]= .nx [a,b,c,d,sL true (ws++vs.map λv=>P.tup [.str "name",v]),e,y']
 |[],ws,y,_=>⟨y,by rw[bY];simp⟩
 | v ::vs,ws,y,hl=>by
   have hw:ws.length < big:=by simp at hl;unfold big;lia
   have e1:dW k [a,b,c,d,sL true ws,e,sP v]= .nx [a,b,c,d,sL true (ws++[.tup [.str "name",v]]),e,sP v]:=by
    unfold dW;simp! [Bf ws _ hw,Option.any_some,C.Ew,cond_true,show ∀p q:P,([p,q]:List P).length<=1000 from λp q=>by simp]
   obtain⟨y',e2⟩:=NP k a b c d e vs (ws++[.tup [.str "name",v]]) (some (.p v)) (by simp at hl ⊢;lia);refine⟨y',?_⟩;rw[Jr,AA,AA,AA,AA,AA,AA,HH,e1,HJ,e2];simp
theorem FL(k:Nat)(c:Int)(hc:0<=c){vs fs ds:List P}(hv:∀x∈vs,A4 x=true)(hf:∀x∈fs,Bi x=true)(hd:∀x∈ds,A4 x=true)(lv:vs.length<=3)(lf:0 < fs.length)(ld:ds.length<=100)(o:Bool:=false):∃x,Eg x/\~~~(k + 1) 31 [.p (.int c),.p (.tup vs),.lst false fs,.lst o ds]= .ok (.p x):=by
 have p9:A3 Ge (.p (.int 10)) (.p (.int 9))=some (.p (.int (10 ^ 9))):=rfl;have p8:A3 Ge (.p (.int 10)) (.p (.int 8))=some (.p (.int (10 ^ 8))):=rfl;have q9:(0:Int) < 10 ^ 9:=by decide
 generalize hN9:(10 ^ 9:Int)=N9 at p9 q9;generalize hN8:(10 ^ 8:Int)=N8 at p8
 have i1:Kh (.int (c / 5 % N9 - 5 * N8))=true:=by
  have g1:=Int.emod_nonneg (c/5) (by lia:N9≠0);have g2:=Int.emod_lt_of_pos (c/5) q9;show decide (_ < _)=true;rw[decide_eq_true_eq];have h9:N9=1000000000:=by rw[<-hN9];rfl
  have h8:N8=100000000:=by rw[<-hN8];rfl
  have:(1000000000000:Int) < 10 ^ 60:=by decide
  split<;>lia
 obtain⟨f,hf1,ef⟩:=AJ false (ps:=fs) (c/5) fs.length rfl lf;obtain⟨n,hn1,en⟩:=AJ true (ps:=ds++[.str "plus"]) (c/5) (ds.length+1) (by simp) (by lia)
 have hn2:A4 n=true:=by
  rcases mZ hn1 with h|h
  .exact hd n h
  .rw[mem_singleton]at h;subst h;kernel_rfl
 have en':A2 (.lst true (ds++[.str "plus"])) (.p (.int (c/5%((ds.length:Int)+1))))=some (.p n):=by rw[<-en];congr 4
 have ws3:∀w:List P,w=[.tup [.str "number",.int (c / 5 % N9 - 5 * N8)],.tup [.str "form",f,.tup []],.tup [.str "call",n,.tup [.tup [.str "number",.int 1]]]]->∀x∈w++vs.map λv=>P.tup [.str "name",v],Eg x:=λw hw x hx=>by
  subst hw;rcases mZ hx with hx|hx
  .simp only[mem_cons,not_mem_nil,or_false]at hx;rcases hx with rfl|rfl|rfl
   .exact .num i1
   .exact .YV (hf f hf1)
   .exact .call hn2
  .obtain⟨v,hv1,rfl⟩:=mem_map.mp hx;exact .name (hv v hv1)
 generalize hw:([.tup [.str "number",.int (c/5%N9-5*N8)],.tup [.str "form",f,.tup []],.tup [.str "call",n,.tup [.tup [.str "number",.int 1]]]]:List P)=w at ws3;obtain⟨y',e5⟩:=NP k (some (.p (.int c))) (some (.p (.tup vs))) (some (.lst false fs)) (some (.lst o ds)) (some (.p n)) vs w none (by rw[<-hw];simp;lia);obtain⟨x,hx,ex⟩:=AJ false (ps:=w++vs.map λv=>P.tup [.str "name",v]) c (w++vs.map λv=>P.tup [.str "name",v]).length rfl (by rw[<-hw];simp);refine⟨x,ws3 w rfl x hx,call_of (r:=.ret (.p x)) kR rfl ?_⟩;show execs _ _ gW [sI c,sP (.tup vs),sL false fs,sL o ds,none,none,none]=_;unfold gW;have l1:∀p:P,([p]:List P).length<=1000:=λp=>by simp
 have l2:∀p q:P,([p,q]:List P).length<=1000:=λp q=>by simp
 have l3:∀p q r:P,([p,q,r]:List P).length<=1000:=λp q r=>by simp
 have l0:([]:List P).length<=1000:=by simp
 have ap1:∀p q:P,BY AL (.lst true [p]) [.p q]=some (nw [p,q]):=λp q=>Bf [p] q (by unfold big;simp)
 have ap2:∀p q r:P,BY AL (.lst true [p,q]) [.p r]=some (nw [p,q,r]):=λp q r=>Bf [p,q] r (by unfold big;simp)
 have al:=C6 false true ds [.str "plus"] (by simp;unfold big;lia);have m5:=D5 5 N8 (by decide);have ewalk:Ar (.p (.tup vs))=some vs:=rfl;have hpos:(0:Int) < (w++vs.map λv=>P.tup [.str "name",v]).length:=by rw[<-hw];simp;lia
 simp! [p9,p8,fd c 5,md (c/5) N9 q9,m5,sb,AK,md (c/5) fs.length (by lia),ef,l0,l1,l2,l3,ap1,ap2,al,add_int,md (c/5) ((ds.length:Int)+1) (by lia),en',Option.any_some,C.Ew,cond_true,hw];have e7:(Tg.slots (.nm 6)++CT [(.Bu 4 true (BY AL) [(.tup [{"name"},{6}])])]).contains 1=false:=rfl;simp! [Fm,ewalk,e7];show((forL (.nm 6) (dW k) vs [sI c,sP (.tup vs),sL false fs,sL o ds,sL true w,sP n,none]).fin _).then _=_;rw[e5,Hf,Bc];show execs _ _ _ [sI c,sP (.tup vs),sL false fs,sL o ds,sL true (w++vs.map λv=>P.tup [.str "name",v]),sP n,y']=_;simp! [AK,md c _ hpos,ex]
abbrev Mx(n:P)(l:List P):P:=.tup [.str "class",n,.tup l]
theorem Ze{n:P}{l:List P}(h:A4 n=true)(hl:l.length<=3)(ha:∀x∈l,A4 x=true):Bd (Mx n l)=true:=by
 have h1:l.all A4=true:=all_eq_true.mpr ha;show(true && (BK "class" 3 && (A4 n && (decide (l.length<=3) && l.all A4))))=true;rw[h,h1,dZ hl,show BK "class" 3=true from by kernel_rfl];rfl
theorem Zf{n:P}{l:List P}(h:A4 n=true)(ha:∀x∈l,A4 x=true):El 2 (Mx n l):=Ax (d:=1) λy hy=>by
 simp only[mem_cons,not_mem_nil,or_false]at hy;rcases hy with rfl|rfl|rfl
 .exact Bv (by kernel_rfl) 1
 .exact Az h 1
 .exact Ax (d:=0) λy hy=>Az (ha y hy) 0
theorem S0(k:Nat)(c:Int){a b d:P}:∃l1 l2,(l1.length<=2/\∀x∈l1,x=a\/x=b)/\(l2.length<=2/\∀x∈l2,x=a\/x=b)/\~~~(k + 1) 33 [.p (.int c),.lst false [a,b,d]]= .ok (.lst true [Mx a [],Mx b l1,Mx d l2]):=by
 obtain⟨x,hx,ex⟩:=AJ true (ps:=[.tup [],.tup [a]]) c 2 rfl (by decide);obtain⟨y,hy,ey⟩:=AJ true (ps:=[.tup [],.tup [a],.tup [b],.tup [a,b],.tup [b,a]]) (c/2) 5 rfl (by decide)
 have hx':∃l,x= .tup l/\l.length<=2/\∀z∈l,z=a\/z=b:=by
  simp only[mem_cons,not_mem_nil,or_false]at hx;rcases hx with rfl|rfl<;>exact⟨_,rfl,by simp,by simp⟩
 have hy':∃l,y= .tup l/\l.length<=2/\∀z∈l,z=a\/z=b:=by
  simp only[mem_cons,not_mem_nil,or_false]at hy;rcases hy with rfl|rfl|rfl|rfl|rfl<;>exact⟨_,rfl,by simp,by simp;try grind⟩
 obtain⟨l1,rfl,h1⟩:=hx';obtain⟨l2,rfl,h2⟩:=hy';refine⟨l1,l2,h1,h2,call_of (r:=.ret (.lst true [Mx a [],Mx b l1,Mx d l2])) kP rfl ?_⟩;show execs _ _ gU [sI c,sL false [a,b,d],none,none,none,none,none]=_;unfold gU;rw[Ak,show k^^^(S.asg (.tup [2,3,4]) _)&&&[sI c,sL false [a,b,d],none,none,none,none,none]= .nx [sI c,sL false [a,b,d],sP a,sP b,sP d,none,none]from rfl,Bc];have z0:([]:List P).length<=1000:=by simp
 have z1:∀p:P,([p]:List P).length<=1000:=λp=>by simp
 have z2:∀p q:P,([p,q]:List P).length<=1000:=λp q=>by simp
 have z3:∀p q r:P,([p,q,r]:List P).length<=1000:=λp q r=>by simp
 have z5:∀p q r s t:P,([p,q,r,s,t]:List P).length<=1000:=λp q r s t=>by simp
 simp! [z0,z1,z2,z3,z5,md c 2,fd c 2,md (c/2) 5,show A2 (.lst true [.tup [],.tup [a]]) (.p (.int (c%2)))=_ from ex,show A2 (.lst true [.tup [],.tup [a],.tup [b],.tup [a,b],.tup [b,a]]) (.p (.int (c/2%5)))=_ from ey]
theorem eq_nil(l:List P)(h:P.AO l<=80):∃b,Bq (.p (.tup l)) (.p (.tup []))=some (bC b):=by
 refine⟨decide (P.tup l= .tup []),?_⟩;have h1:CM (.tup l) (.tup [])=true:=by cases l<;>simp[CM,C9,P.tag,P.CV]
 have h2:(P.tup l).depth<=90:=by rw[P.depth];lia
 have e:Z1 (.tup l) (.tup [])=some (decide (P.tup l= .tup [])):=by unfold Z1;rw[iP ⟨h1,h2⟩]
 show((SS (.p (.tup l)) (.p (.tup []))).map bC)=_;rw[show SS (.p (.tup l)) (.p (.tup []))=(Z1 (.tup l) (.tup []) <|> _)from rfl,e];rfl
noncomputable abbrev dS (k:Nat):Env->Fl:=execs (~~~k) AW [(.asg (.nm 7) (.A1 (A3 Ab) (.A1 (A3 A7) {0} (.A1 A5 (.A1 mulC {3,0} {6}) {1,0})) {5,0})),(.asg (.nm 8) {2}),(.ifs (.A1 Bq {7} {1,0}) [(.asg (.nm 8) (.A1 A2 {4} {2,0}))] []),(.ifs (.or (.A1 Bq {7} {2,0}) (.and (.A1 Bq {7} {3,0}) (.A1 Bq {3} (.tup [])))) [(.asg (.nm 8) (.cst (.p .A8)))] []),(.Bu 5 true (BY AL) [{8}])]
theorem Zt(k:Nat)(c:Int)(m:Option C)(n a b d:P)(l:List P)(hl:P.AO l<=80)(ws:List P)(hw:ws.length < big)(i:Nat)(hi:i<=100)(y z:Option C):∃x y',(x=n\/x=d\/x= .A8)/\dS k [sI c,m,sP n,sP (.tup l),sL false [a,b,d],sL true ws,sI i,y,z]= .nx [sI c,m,sP n,sP (.tup l),sL false [a,b,d],sL true (ws++[x]),sI i,y',sP x]:=by
 obtain⟨q,eq⟩:=eq_nil l hl;have f1:=fd c (3*(i:Int)+1) ⟨by lia,by lia⟩;have m3:=D5 3 (i:Int) (by decide);have g2:A2 (.lst false [a,b,d]) (.p (.int 2))=some (.p d):=rfl;have z0:([]:List P).length<=1000:=by simp
 unfold dS;generalize hmo:c/(3*(i:Int)+1)%5=mo;have ap:=λx=>Bf ws x hw
 by_cases h1:mo=1
 .refine⟨d,sI mo,.inr (.inl rfl),?_⟩;have d1:=dZ h1;have d2:decide (mo=2)=false:=by rw[h1];rfl
  have d3:decide (mo=3)=false:=by rw[h1];rfl
  simp! [m3,add_int,f1,md (c/(3*(i:Int)+1)) 5,hmo,eq_int,d1,d2,d3,g2,ap,Option.any_some,C.Ew,cond_true]
 have d1:=dF h1
 by_cases h2:(decide (mo=2) || (decide (mo=3) && q))=true
 .refine⟨.A8,sI mo,.inr (.inr rfl),?_⟩;simp! [m3,add_int,f1,md (c/(3*(i:Int)+1)) 5,hmo,eq_int,d1,z0,eq,h2,ap,Option.any_some,C.Ew,cond_true]
 .rw[Bool.not_eq_true]at h2;refine⟨n,sI mo,.inl rfl,?_⟩;simp! [m3,add_int,f1,md (c/(3*(i:Int)+1)) 5,hmo,eq_int,d1,z0,eq,h2,ap,Option.any_some,C.Ew,cond_true]
theorem NO(k:Nat)(c:Int)(m:Option C)(n a b d:P)(l:List P)(hl:P.AO l<=80):∀(is:List Nat) (ws:List P) (u y z:Option C),ws.length + is.length<=1000->(∀i∈is,i<=100)->∃xs u' y' z',(xs.length=is.length/\∀x∈xs,x=n\/x=d\/x= .A8)/\forL (.nm 6) (dS k) (is.map λi=>P.int ((i:Nat):Int)) [sI c,m,sP n,sP (.tup l),sL false [a,b,d],sL true ws,u,y,z]= .nx [sI c,m,sP n,sP (.tup l),sL false [a,b,d],sL true (ws++xs),u',y',z']
 |[],ws,u,y,z,_,_=>⟨[],u,y,z,⟨rfl,λx hx=>by cases hx⟩,by rw[append_nil];rfl⟩
 | i ::is,ws,u,y,z,hw,hi=>by
   obtain⟨x,y1,hx,e⟩:=Zt k c m n a b d l hl ws (by simp at hw;unfold big;lia) i (hi i (.head _)) y z;obtain⟨xs,u',y',z',⟨h1,h2⟩,e2⟩:=NO k c m n a b d l hl is (ws++[x]) (some (.p (.int i))) y1 (some (.p x)) (by simp at hw ⊢;lia) (λj hj=>hi j (.tail _ hj));refine⟨x::xs,u',y',z',⟨by simp[h1],λw hw=>?_⟩,?_⟩
   .rcases mK hw with rfl|hw
    .exact hx
    .exact h2 w hw
   .rw[map_cons,Jr,AA,AA,AA,AA,AA,AA,HH,e,HJ,e2];simp
theorem QG(k:Nat)(c:Int)(m:Nat)(hm:m<=3)(n a b d:P)(l:List P)(hl:P.AO l<=80):∃xs,(xs.length=m/\∀x∈xs,x=n\/x=d\/x= .A8)/\~~~(k + 1) 35 [.p (.int c),.p (.int m),.p n,.p (.tup l),.lst false [a,b,d]]= .ok (.p (.tup xs)):=by
 obtain⟨xs,u',y',z',⟨h1,h2⟩,e⟩:=NO k c (some (.p (.int m))) n a b d l hl (List.range m) [] none none none (by simp;lia) (λi hi=>by rw[mem_range]at hi;lia);refine⟨xs,⟨by rw[h1,length_range],h2⟩,call_of (r:=.ret (.p (.tup xs))) kM rfl ?_⟩;show execs _ _ gR [sI c,sI m,sP n,sP (.tup l),sL false [a,b,d],none,none,none,none]=_;unfold gR
 have er:AM (.p (.int m))=some ((List.range m).map λi=>P.int ((i:Nat):Int)):=by
  rcases(by lia:m=0\/m=1\/m=2\/m=3)with rfl|rfl|rfl|rfl<;>rfl
 have e7:(Tg.slots (.nm 6)++CT [(.asg (.nm 7) (.A1 (A3 Ab) (.A1 (A3 A7) {0} (.A1 A5 (.A1 mulC {3,0} {6}) {1,0})) {5,0})),(.asg (.nm 8) {2}),(.ifs (.A1 Bq {7} {1,0}) [(.asg (.nm 8) (.A1 A2 {4} {2,0}))] []),(.ifs (.or (.A1 Bq {7} {2,0}) (.and (.A1 Bq {7} {3,0}) (.A1 Bq {3} (.tup [])))) [(.asg (.nm 8) (.cst (.p .A8)))] []),(.Bu 5 true (BY AL) [{8}])]).contains 1=false:=rfl;simp! [show([]:List P).length<=1000 from by simp,Fm,er,e7];show((forL (.nm 6) (dS k) ((List.range m).map λi=>P.int ((i:Nat):Int)) [sI c,sI m,sP n,sP (.tup l),sL false [a,b,d],sL true [],none,none,none]).fin _).then _=_;rw[e,Hf,Bc];rfl
noncomputable abbrev dQ (k:Nat):Env->Fl:=execs (~~~k) AW [(.asg (.nm 1) (.A1 (A3 Ab) (.A1 A5 (.A1 mulC {1} {48271,0}) {3,0}) {2147483647,0})),(.Bu 2 true (G1 KA) [(.A1 (A3 Ab) {1} (.A1 A5 (.Ai Av {2}) {1,0})),{3}])]
theorem Np(ps:List P)(i:Int)(x:P)(h0:0<=i)(h1:i<=ps.length)(hl:ps.length < big):G1 KA (.lst true ps) [.p (.int i),.p x]=some (nw (ps.take i.toNat++x::ps.drop i.toNat)):=by
 show(if 0<=i/\i<=ps.length/\ps.length < big then some (nw (ps.take i.toNat++x::ps.drop i.toNat))else none)=_;rw[iP ⟨h0,h1,hl⟩]
theorem NN(k:Nat)(a:Option C):∀(l ws:List P) (c:Int) (y:Option C),ws.length + l.length<=1000->∃rs c' y',(rs.length=ws.length + l.length/\∀x∈rs,x∈ws\/x∈l)/\forL (.nm 3) (dQ k) l [a,sI c,sL true ws,y]= .nx [a,sI c',sL true rs,y']
 |[],ws,c,y,_=>⟨ws,c,y,⟨rfl,λx hx=>.inl hx⟩,rfl⟩
 | v :: l,ws,c,y,hl=>by
   have hw:ws.length < big:=by simp at hl;unfold big;lia
   generalize hQ:(c*48271+3)%2147483647=c1;have g0:=Int.emod_nonneg c1 (by lia:((ws.length:Int)+1)≠0);have g1:=Int.emod_lt_of_pos c1 (by lia:0 < ((ws.length:Int)+1))
   have e1:dQ k [a,sI c,sL true ws,sP v]= .nx [a,sI c1,sL true (ws.take (c1 % ((ws.length:Int) + 1)).toNat++v::ws.drop (c1 % ((ws.length:Int) + 1)).toNat),sP v]:=by
    unfold dQ;have m1:=mul_r c 48271 (by decide);have m2:=md (c*48271+3) 2147483647 bT;rw[hQ]at m2;simp! [m1,add_int,m2,AK,md c1 ((ws.length:Int)+1) (by lia),Np ws _ v g0 (by lia) hw,Option.any_some,C.Ew,cond_true]
   generalize hj:(c1%((ws.length:Int)+1)).toNat=j at e1;have hj1:j<=ws.length:=by lia
   obtain⟨rs,c',y',⟨h1,h2⟩,e2⟩:=NN k a l (ws.take j++v::ws.drop j) c1 (some (.p v)) (by simp at hl ⊢;lia);refine⟨rs,c',y',⟨by rw[h1];simp;lia,λx hx=>?_⟩,?_⟩
   .rcases h2 x hx with hx|hx
    .rcases mZ hx with hx|hx
     .exact .inl (mem_of_mem_take hx)
     .rcases mK hx with rfl|hx
      .exact .inr (.head _)
      .exact .inl (mem_of_mem_drop hx)
    .exact .inr (.tail _ hx)
   .rw[Jr,AA,AA,AA,HH,e1,HJ,e2]
theorem O1(k:Nat)(l:List P)(hl:l.length<=900)(c:Int):∃rs,(rs.length=l.length/\∀x∈rs,x∈l)/\~~~(k + 1) 38 [.lst false l,.p (.int c)]= .ok (.lst true rs):=by
 obtain⟨rs,c',y',⟨h1,h2⟩,e⟩:=NN k (some (.lst false l)) l [] c none (by simp;lia);refine⟨rs,⟨by simpa using h1,λx hx=>by rcases h2 x hx with h|h;cases h;exact h⟩,call_of (r:=.ret (.lst true rs)) kH rfl ?_⟩;show execs _ _ gN [sL false l,sI c,none,none]=_;unfold gN;rw[Ak,show k^^^(S.asg (.nm 2) _)&&&[sL false l,sI c,none,none]= .nx [sL false l,sI c,sL true [],none]from rfl,Bc,Ak,Fm];show((forL (.nm 3) (dQ k) l [sL false l,sI c,sL true [],none]).fin _).then _=_;rw[e,Hf,Bc];rfl
theorem YO{n q:P}{l:List P}(hn:A4 n=true)(hq:A4 q=true)(hl:l.length<=3)(ha:∀x∈l,Dx x=true):Bd (.tup [.str "house",n,q,.tup l])=true:=by
 have h1:l.all Dx=true:=all_eq_true.mpr ha;show(true && (BK "house" 4 && (A4 n && (A4 q && (decide (l.length<=3) && l.all Dx)))))=true;rw[hn,hq,h1,dZ hl,show BK "house" 4=true from by kernel_rfl];rfl
theorem Z7{n q r:P}{l:List P}(hn:A4 n=true)(hq:A4 q=true)(hl:l.length<=3)(ha:∀x∈l,An 1 x=true)(hr:An 1 r=true):Bd (.tup [.str "deed",n,q,.tup l,r])=true:=by
 have h1:l.all (An 1)=true:=all_eq_true.mpr ha;show(true && (BK "deed" 5 && (A4 n && (A4 q && ((decide (l.length<=3) && l.all (An 1)) && An 1 r)))))=true;rw[hn,hq,h1,hr,dZ hl,show BK "deed" 5=true from by kernel_rfl];rfl
theorem Vx(h:Bm x=true):Bd (.tup [.str "ask",x])=true:=by
 show(true && (BK "ask" 2 && Bm x))=true;rw[h,show BK "ask" 2=true from by kernel_rfl];rfl
variable{vs:P}
theorem Yd{n x:P}(hn:A4 n=true)(hv:Cn vs=true)(h:Bm x=true):Bd (.tup [.str "once",n,vs,x])=true:=by
 show(true && (BK "once" 4 && ((A4 n && true) && (Cn vs && Bm x))))=true;rw[hn,hv,h,show BK "once" 4=true from by kernel_rfl];rfl
theorem Z4{n x:P}(hn:A4 n=true)(hv:Cn vs=true)(h:Bm x=true):Bd (.tup [.str "def",n,vs,x])=true:=by
 show(true && (BK "def" 4 && ((A4 n && true) && (Cn vs && Bm x))))=true;rw[hn,hv,h,show BK "def" 4=true from by kernel_rfl];rfl
theorem Z3(ha:A4 a=true)(hb:A4 b=true)(hd:A4 d=true)(hv:Cn vs=true)(h:Bm x=true):Bd (.tup [.str "does",a,b,d,vs,x])=true:=by
 show(true && (BK "does" 6 && ((A4 a && (A4 b && (A4 d && true))) && (Cn vs && Bm x))))=true;rw[ha,hb,hd,hv,h,show BK "does" 6=true from by kernel_rfl];rfl
theorem Yx{n:P}{m:Int}{l:List P}(hn:A4 n=true)(h0:0<=m)(h3:m<=3)(h1:1<=l.length)(h4:l.length<=4)(ha:∀x∈l,C3 m x=true):Bd (.tup [.str "kind",n,.int m,.tup l])=true:=by
 have hx:l.all (C3 m)=true:=all_eq_true.mpr ha;show(true && (BK "kind" 4 && (A4 n && (decide (0<=m) && decide (m<=3) && ((decide (1<=l.length) && decide (l.length<=4)) && l.all (C3 m))))))=true;rw[hn,hx,dZ h0,dZ h3,dZ h1,dZ h4,show BK "kind" 4=true from by kernel_rfl];rfl
theorem bZ{l:List P}(hf:Bi f=true)(hl:l.length<=3)(ha:∀x∈l,An m x=true):C3 m (.tup [f,.tup l])=true:=by
 have hx:l.all (An m)=true:=all_eq_true.mpr ha;show(true && (Bi f && (decide (l.length<=3) && l.all (An m))))=true;rw[hf,hx,dZ hl];rfl
def Ce:Str:="abcdefghijklmnopqrstuvwxyz"
theorem ZA:∀i:Fin 26,A2 (.p (.str Ce)) (.p (.int (i.val:Int)))=some (.p (sign (97 + i.val))):=by
 intro i
 have h:(signs Ce)[i.val]? =some (sign (97 + i.val)):=by
  revert i
  decide
 show((if Ce.length<=big then some (signs Ce)else none).bind λps=>(G5 ps.length (i.val:Int)).bind λk=>(ps[k]?).map C.p)=_;rw[iP (by decide),Option.bind_some];have hl:(signs Ce).length=26:=by decide
 unfold G5;rw[hl,iP (by lia),iP (by have:=i.isLt;lia),Option.bind_some,Int.toNat_natCast,h];rfl
theorem MN{i:Int}(h0:0<=i)(h1:i < 26):A2 (.p (.str Ce)) (.p (.int i))=some (.p (sign (97 + i.toNat))):=by
 obtain⟨k,rfl⟩:=Int.eq_ofNat_of_zero_le h0;have hk:k < 26:=by lia
 have:=ZA ⟨k,hk⟩;exact this
theorem add_str(a b:Str)(h:a.length + b.length<=big):A5 (.p (.str a)) (.p (.str b))=some (.p (.str (a++b))):=by
 show((if a.length+b.length<=big then some (C.p (.str (a++b)))else none) <|> _)=_;rw[iP h];rfl
def VY(x:Str):Prop:=x.cps.toList.all small=true
theorem Xf(ha:VY a)(hb:VY b):VY (a++b):=by
 unfold VY at *
 have e:(a++b).cps.toList=a.cps.toList++b.cps.toList:=by
  show(a.cps++b.cps).toList=_;simp
 rw[e,all_append,ha,hb];rfl
theorem len_app(a b:Str):(a++b).length=a.length + b.length:=by
 rw[<-BU,<-BU,<-BU];show(a.cps++b.cps).toList.length=_;simp
theorem TB{i:Nat}(h:i < 26):VY ⟨#[97 + i]⟩:=by
 unfold VY;simp[small]
 lia
noncomputable abbrev dY (k:Nat):Env->Fl:=execs (~~~k) AW [(.asg (.nm 4) (.A1 A5 {4} (.A1 A2 {2} (.A1 (A3 Ab) (.A1 (A3 A7) (.A1 mulC {0} (.A1 A5 {5} {3,0})) {7,0}) {26,0}))))]
theorem NQ(k:Nat)(c:Int)(b d u v w:Option C):∀(is:List Nat) (x:Str) (y:Option C),VY x->x.length + is.length<=100->(∀i∈is,i<=100)->∃x' y',(VY x'/\x'.length=x.length + is.length)/\forL (.nm 5) (dY k) (is.map λi=>P.int ((i:Nat):Int)) [sI c,b,sP (.str Ce),d,sP (.str x),y,u,v,w]= .nx [sI c,b,sP (.str Ce),d,sP (.str x'),y',u,v,w]
 |[],x,y,hx,_,_=>⟨x,y,⟨hx,rfl⟩,rfl⟩
 | i ::is,x,y,hx,hl,hi=>by
   have hi1:=hi i (.head _);generalize hj:c*((i:Int)+3)/7%26=j;have g0:0<=j:=by rw[<-hj];exact Int.emod_nonneg _ (by decide)
   have g1:j < 26:=by rw[<-hj];exact Int.emod_lt_of_pos _ (by decide)
   have e1:dY k [sI c,b,sP (.str Ce),d,sP (.str x),sI i,u,v,w]= .nx [sI c,b,sP (.str Ce),d,sP (.str (x++⟨#[97 + j.toNat]⟩)),sI i,u,v,w]:=by
    unfold dY;simp! [add_int,mul_r c ((i:Int)+3) ⟨by lia,by lia⟩,fd (c*((i:Int)+3)) 7,md (c*((i:Int)+3)/7) 26,hj,MN g0 g1,sign,add_str x ⟨#[97+j.toNat]⟩ (by show x.length+1<=big;simp at hl;unfold big;lia)]
   obtain⟨x',y',⟨h1,h2⟩,e2⟩:=NQ k c b d u v w is (x++⟨#[97+j.toNat]⟩) (some (.p (.int i))) (Xf hx (TB (by lia))) (by rw[len_app];simp at hl;show x.length+1+is.length<=100;lia) (λq hq=>hi q (.tail _ hq));refine⟨x',y',⟨h1,by rw[h2,len_app];show x.length+1+is.length=x.length+(is.length+1);lia⟩,?_⟩;rw[map_cons,Jr,AA,AA,AA,AA,AA,HH,e1,HJ,e2]
variable{α:Type}
theorem Vj(ps:List α)(a:Nat)(h:a<=ps.length):cut ps none (some (a:Int))=ps.take a:=by
 have e1:Cd ps.length 0 none=0:=rfl
 have e2:Cd ps.length ps.length (some (a:Int))=a:=by
  show(if(a:Int) < 0 then((a:Int)+ps.length).toNat else min (Int.toNat a) ps.length)=a;rw[iN (by lia),Int.toNat_natCast]
  lia
 unfold cut;rw[e1,e2];simp
theorem Vi(ps:List α)(a:Nat)(h:a<=ps.length):cut ps (some (a:Int)) none=ps.drop a:=by
 have e1:Cd ps.length 0 (some (a:Int))=a:=by
  show(if(a:Int) < 0 then((a:Int)+ps.length).toNat else min (Int.toNat a) ps.length)=a;rw[iN (by lia),Int.toNat_natCast]
  lia
 have e2:Cd ps.length ps.length none=ps.length:=rfl;unfold cut;rw[e1,e2,take_of_length_le (by simp)]
abbrev sT(l:List Nat):Str:=⟨l.toArray⟩
theorem aP(x:Str):x=sT x.cps.toList:=by cases x;simp
theorem W2(l:List Nat)(a:Nat)(h:a<=l.length)(hb:l.length<=100):DC (.p (.str (sT l))) (.p (.int a))=some (.p (.str (sT (l.take a)))):=by
 show(if((none:Option Int).all (0<=·) && (some (a:Int)).all (0<=·))/\(sT l).length<=big then some (C.p (.str ⟨(cut (sT l).cps.toList none (some (a:Int))).toArray⟩))else none)=_;rw[iP ⟨by simp,by show l.toArray.size<=big;simp;unfold big;lia⟩,Vj _ a (by simpa using h)]
theorem W3(l:List Nat)(a:Nat)(h:a<=l.length)(hb:l.length<=100):Fu (.p (.str (sT l))) (.p (.int a))=some (.p (.str (sT (l.drop a)))):=by
 show(if((some (a:Int)).all (0<=·) && (none:Option Int).all (0<=·))/\(sT l).length<=big then some (C.p (.str ⟨(cut (sT l).cps.toList (some (a:Int)) none).toArray⟩))else none)=_;rw[iP ⟨by simp,by show l.toArray.size<=big;simp;unfold big;lia⟩,Vi _ a (by simpa using h)]
theorem Ga(a b:List Nat)(h:a.length + b.length<=100):A5 (.p (.str (sT a))) (.p (.str (sT b)))=some (.p (.str (sT (a++b)))):=by
 have:=add_str (sT a) (sT b) (by show a.toArray.size+b.toArray.size<=big;simp;unfold big;lia);rw[this]
 congr 3
 show(⟨a.toArray++b.toArray⟩:Str)=_;simp
theorem Wm(l:List Nat)(h:l.length<=100):Av (.p (.str (sT l)))=some (.p (.int l.length)):=by
 show((if(sT l).length<=big then some (signs (sT l))else none).map λps=>C.p (.int ps.length))=_;rw[iP (by show l.toArray.size<=big;simp;unfold big;lia)];simp[signs]
theorem EB{i:Nat}(h1:i < 26):A2 (.p (.str Ce)) (.p (.int (i:Int)))=some (.p (.str (sT [97 + i]))):=by
 rw[MN (by lia) (by lia)];rfl
def Ji(l r:List Nat)(j:Nat):P:=.str (sT (l++(97+j)::r))
variable{j:Nat}
theorem Yn{l r:List Nat}{i:Nat}(h:Ji l r i=Ji l r j):i=j:=by
 have h1:=congrArg Array.toList (congrArg Str.cps (P.str.inj h));simp at h1;exact h1
theorem Uw{l r:List Nat}(hl:l.all small=true)(hr:r.all small=true)(hn:l.length + r.length<=7)(hj:j < 26):A4 (Ji l r j)=true:=by
 show(decide (1<=(sT (l++(97+j)::r)).length) && decide ((sT (l++(97+j)::r)).length<=8) && (l++(97+j)::r).toArray.all small)=true
 have e:(sT (l++(97 + j)::r)).length=l.length + (r.length + 1):=by
  show(l++(97+j)::r).toArray.size=_;simp
 rw[e,<-Array.all_toList,all_append,all_cons,hl,hr,show small (97+j)=true from by simp[small];lia,dZ (by lia),dZ (by lia)];rfl
noncomputable abbrev Vw (k:Nat):Env->Fl:=execs (~~~k) AW [(.Bu 7 true (BY AL) [(.A1 A5 (.A1 A5 (.A1 DC {4} {6}) (.A1 A2 {2} (.A1 A5 {3} {5}))) (.A1 Fu {4} {6}))])]
theorem Lg(k:Nat)(c b w:Option C)(o:Nat)(l:List Nat)(a:Nat)(ha:a<=l.length)(hl:l.length<=7):∀(is:List Nat) (ws:List P) (y:Option C),ws.length + is.length<=100->(∀i∈is,o + i < 26)->∃y',forL (.nm 5) (Vw k) (is.map λi=>P.int ((i:Nat):Int)) [c,b,sP (.str Ce),sI (o:Nat),sP (.str (sT l)),y,sI (a:Nat),sL true ws,w]= .nx [c,b,sP (.str Ce),sI (o:Nat),sP (.str (sT l)),y',sI (a:Nat),sL true (ws++is.map λi=>Ji (l.take a) (l.drop a) (o + i)),w]
 |[],ws,y,_,_=>⟨y,by simp;rfl⟩
 | i ::is,ws,y,hw,hi=>by
   have e0:((o:Int)+(i:Int))=((o+i:Nat):Int):=by lia
   have e1:Vw k [c,b,sP (.str Ce),sI (o:Nat),sP (.str (sT l)),sI (i:Nat),sI (a:Nat),sL true ws,w]= .nx [c,b,sP (.str Ce),sI (o:Nat),sP (.str (sT l)),sI (i:Nat),sI (a:Nat),sL true (ws++[Ji (l.take a) (l.drop a) (o + i)]),w]:=by
    unfold Vw;have t1:=List.length_take_le a l;have t2:(l.drop a).length<=l.length:=by simp
    simp! [W2 l a ha (by lia),W3 l a ha (by lia),add_int,e0,EB (hi i (.head _)),Ga (l.take a) [97+(o+i)] (by simp;lia),Ga (l.take a++[97+(o+i)]) (l.drop a) (by simp;lia),Bf ws (.str (sT (l.take a++[97+(o+i)]++l.drop a))) (by simp at hw;unfold big;lia),Option.any_some,C.Ew,cond_true];simp[Ji]
   obtain⟨y',e2⟩:=Lg k c b w o l a ha hl is (ws++[Ji (l.take a) (l.drop a) (o+i)]) (some (.p (.int (i:Nat)))) (by simp at hw ⊢;lia) (λq hq=>hi q (.tail _ hq));refine⟨y',?_⟩;rw[map_cons,Jr,AA,AA,AA,AA,AA,HH,e1,HJ,e2];simp
theorem Ju(s:Str)(o:Bool):∀{ps:List P},(∀x∈ps,∃z,x= .str z)->∃b,Rl (.p (.str s)) (.lst o ps)=some (bC b):=by
 intro ps h
 have:∃xs,DT P.BZ ps=some xs:=by
  induction ps with
  |nil=>exact⟨[],rfl⟩
  |cons p ps ih=>
    obtain⟨z,rfl⟩:=h p (.head _);obtain⟨xs,e⟩:=ih λx hx=>h x (.tail _ hx)
    exact⟨z::xs,by show((DT P.BZ ps).map _)=_;rw[e];rfl⟩
 obtain⟨xs,e⟩:=this;refine⟨xs.contains s,?_⟩;show(((DT P.BZ ps).map λxs=>xs.contains s).map bC)=_;rw[e];rfl
def Kl(l r:List Nat)(o:Nat):List P:=(List.range 9).map λi=>Ji l r (o+i)
theorem Ux(l r:List Nat)(o:Nat):∀x∈Kl l r o,∃z,x= .str z:=λx hx=>by
 obtain⟨i,_,rfl⟩:=mem_map.mp hx;exact⟨_,rfl⟩
theorem Kk{l r:List Nat}{o:Nat}(hl:l.all small=true)(hr:r.all small=true)(hn:l.length + r.length<=7)(ho:o < 18):∀x∈Kl l r o,A4 x=true:=λx hx=>by
 obtain⟨i,hi,rfl⟩:=mem_map.mp hx;rw[mem_range]at hi;exact Uw hl hr hn (by lia)
theorem Ij(l r:List Nat)(o:Nat):(Kl l r o).Nodup:=by
 unfold Kl;exact List.pairwise_map.mpr (List.nodup_range.imp λh e=>h (by have:=Yn e;lia))
theorem N7(l r:List Nat)(o:Nat):(Kl l r o).length=9:=by simp[Kl]
theorem VC:∀o:Fin 18,cut Ce.cps.toList (some (o.val:Int)) (some ((o.val:Int)+9))=(List.range 9).map λi=>97+(o.val+i):=by decide
theorem SD{o:Nat}(h:o < 18):∃y,SO (.p (.str Ce)) (.p (.int (o:Nat))) (.p (.int ((o:Int) + 9)))=some (.p y)/\CL (.p y)=some (.lst true (Kl [] [] o)):=by
 have hc:cut Ce.cps.toList (some (o:Int)) (some ((o:Int)+9))=(List.range 9).map λi=>97+(o+i):=VC ⟨o,h⟩
 refine⟨.str (sT ((List.range 9).map λi=>97+(o+i))),?_,?_⟩
 .show(if((some (o:Int)).all (0<=·) && (some ((o:Int)+9)).all (0<=·))/\Ce.length<=big then some (C.p (.str ⟨(cut Ce.cps.toList (some (o:Int)) (some ((o:Int)+9))).toArray⟩))else none)=_;rw[iP ⟨by simp;lia,by decide⟩,hc]
 .have e1:C.O0 (.p (.str (sT ((List.range 9).map λi=>97 + (o + i)))))=some (Kl [] [] o):=by
   show(if(sT ((List.range 9).map λi=>97+(o+i))).length<=big then some (signs (sT ((List.range 9).map λi=>97+(o+i))))else none)=_;rw[iP (by show(List.toArray _).size<=big;simp;decide)];simp[signs,Kl,Ji,sign]
  have e2:((List.range 9).map λi=>97 + (o + i)).toArray.all (λk=>decide (k < 128))=true:=by
   rw[<-Array.all_toList,all_eq_true];intro x hx;simp at hx;obtain⟨i,hi,rfl⟩:=hx;simp
   lia
  show((none:Option C) <|> (C.O0 (.p (.str (sT ((List.range 9).map λi=>97+(o+i))))) |>.bind λps=>if((((List.range 9).map λi=>97+(o+i)).toArray.all (λk=>decide (k < 128)))=true)then some (nw ps)else none) <|> _)=_;rw[e1,e2];rfl
noncomputable abbrev Su (k:Nat):Env->Fl:=execs (~~~k) AW [(.ifs (.A1 Rl {8} {7}) [(.ret (.Ai CL (.Wi SO {2} {3} (.A1 A5 {3} {1}))))] [])]
theorem Le(k:Nat)(c d e f:Option C){o:Nat}(ho:o < 18){ps:List P}(hp:∀x∈ps,∃z,x= .str z):∀(ss:List Str) (y:Option C),(forL (.nm 8) (Su k) (ss.map .str) [c,sI 9,sP (.str Ce),sI (o:Nat),d,e,f,sL true ps,y]= .ret (.lst true (Kl [] [] o)))\/∃y',forL (.nm 8) (Su k) (ss.map .str) [c,sI 9,sP (.str Ce),sI (o:Nat),d,e,f,sL true ps,y]= .nx [c,sI 9,sP (.str Ce),sI (o:Nat),d,e,f,sL true ps,y']
 |[],y=>.inr ⟨y,rfl⟩
 | s ::ss,y=>by
   obtain⟨b,eb⟩:=Ju s false hp;obtain⟨q,e1,e2⟩:=SD ho
   have h1:∀g:Env->Fl,(Su k [c,sI 9,sP (.str Ce),sI (o:Nat),d,e,f,sL true ps,sP (.str s)]).turn g=if b then .ret (.lst true (Kl [] [] o))else g [c,sI 9,sP (.str Ce),sI (o:Nat),d,e,f,sL true ps,sP (.str s)]:=by
    intro g;unfold Su;simp! [eb];cases b
    .simp! []
    .simp! [add_int,e1,e2]
   rw[map_cons,Jr,AA,AA,AA,AA,AA,AA,AA,AA,HH,h1];cases b with
   |true=>exact .inl rfl
   |false=>exact Le k c d e f ho hp ss _
theorem Bn(m:Nat)(h:m<=1000):AM (.p (.int (m:Nat)))=some ((List.range m).map λi=>P.int ((i:Nat):Int)):=by
 show(if((m:Nat):Int).natAbs < 2 ^ 61 then some (BP 0 ((m:Nat):Int))else none)=_;rw[iP (by simp;lia)];unfold BP;rw[show(((m:Nat):Int)-0).toNat=m from by lia]
 congr 2
 funext i
 simp
theorem QH(k:Nat)(c:Int):∃ps,(ps.length=9/\(∀x∈ps,A4 x=true)/\ps.Nodup)/\~~~(k + 1) 28 [.p (.int c),.p (.int 9)]= .ok (.lst true ps):=by
 obtain⟨o,ho,eo⟩:∃o:Nat,o < 18/\c%18=(o:Nat):=⟨(c%18).toNat,by lia,by lia⟩;obtain⟨n,hn,en⟩:∃n:Nat,n < 8/\c/27%8=(n:Nat):=⟨(c/27%8).toNat,by lia,by lia⟩;obtain⟨x,y1,⟨hx,hl⟩,e1⟩:=NQ k (c/27) (some (.p (.int 9))) (some (.p (.int (o:Nat)))) none none none (List.range n) "" none rfl (by show 0+(List.range n).length<=100;simp;lia) (λi hi=>by rw[mem_range]at hi;lia);rw[length_range]at hl;have hl2:=BU x;have hl3:x.length=n:=by rw[hl];show 0+n=n;lia
 have hsm:x.cps.toList.all small=true:=hx;rw[aP x]at e1;generalize x.cps.toList=l at *
 obtain⟨a,ha,ea⟩:∃a:Nat,a<=l.length/\c / 27 / 8 % ((l.length:Int) + 1)=(a:Nat):=by
  have g0:=Int.emod_nonneg (c/27/8) (by lia:((l.length:Int)+1)≠0);have g1:=Int.emod_lt_of_pos (c/27/8) (by lia:0 < ((l.length:Int)+1));exact⟨(c/27/8%((l.length:Int)+1)).toNat,by lia,by lia⟩
 obtain⟨y2,e2⟩:=Lg k (some (.p (.int (c/27)))) (some (.p (.int 9))) none o l a ha (by lia) (List.range 9) [] y1 (by simp) (λi hi=>by rw[mem_range]at hi;lia);rw[nil_append]at e2;have e3:=Le k (some (.p (.int (c/27)))) (some (.p (.str (sT l)))) y2 (some (.p (.int (a:Nat)))) ho (Ux (l.take a) (l.drop a) o) ["whole","truth","plus","minus","under"] none;have s0:(27:Int)-9=18:=rfl;have l5:∀p q r s t:P,([p,q,r,s,t]:List P).length<=1000:=λp q r s t=>by simp
 have l0:([]:List P).length<=1000:=by simp
 have ew:∀l:List P,Ar (.lst true l)=some l:=λl=>rfl
 have e9:=Bn 9 (by decide)
 have main:∀r:(Env->Fl)->Fl,(∀Q:Env->Fl,((forL (.nm 8) (Su k) ((["whole","truth","plus","minus","under"]:List Str).map P.str) [sI (c / 27),sI 9,sP (.str Ce),sI (o:Nat),sP (.str (sT l)),y2,sI (a:Nat),sL true (Kl (l.take a) (l.drop a) o),none]).fin id).then Q=r Q)->~~~(k + 1) 28 [.p (.int c),.p (.int 9)]=(r (execs (~~~k) AW [.DI 7])).out:=by
  intro r hr;refine call_of kU rfl ?_;show execs _ _ gY [sI c,sI 9,none,none,none,none,none,none,none]=_;unfold gY;simp! [sb,s0,md c 18,eo,fd c 27];rw[BN _ _ _ _ _ _ _ rfl];simp! [md (c/27) 8,en,Bn n (by lia)]
  have q1:((forL (.nm 5) (dY k) ((List.range n).map λi=>P.int ((i:Nat):Int)) [sI (c / 27),sI 9,sP (.str Ce),sI (o:Nat),sP (.str ""),none,none,none,none]).fin id)= .nx [sI (c / 27),sI 9,sP (.str Ce),sI (o:Nat),sP (.str (sT l)),y1,none,none,none]:=by
   rw[e1];rfl
  refine(congrArg (λz:Fl=>z.then _) q1).trans ?_;simp! [fd (c/27) 8,Wm l (by lia),add_int,md (c/27/8) ((l.length:Int)+1) (by lia),ea,l0];rw[Fm];simp! [e9]
  have q2:((forL (.nm 5) (Vw k) ((List.range 9).map λi=>P.int ((i:Nat):Int)) [sI (c / 27),sI 9,sP (.str Ce),sI (o:Nat),sP (.str (sT l)),y1,sI (a:Nat),sL true [],none]).fin (VN (some (.p (.int 9))) 1))= .nx [sI (c / 27),sI 9,sP (.str Ce),sI (o:Nat),sP (.str (sT l)),y2,sI (a:Nat),sL true (Kl (l.take a) (l.drop a) o),none]:=by
   rw[e2];rfl
  refine(congrArg (λz:Fl=>z.then _) q2).trans ?_;rw[Bc,Ak,BN _ _ _ _ _ _ _ rfl];simp! [l5,ew];exact hr _
 rcases e3 with e3|⟨y3,e3⟩
 .refine⟨Kl [] [] o,⟨N7 _ _ _,Kk rfl rfl (by simp) ho,Ij _ _ _⟩,(main (λ_=>.ret (.lst true (Kl [] [] o))) λQ=>by rw[e3];rfl).trans rfl⟩
 .refine⟨Kl (l.take a) (l.drop a) o,⟨N7 _ _ _,Kk ?_ ?_ ?_ ho,Ij _ _ _⟩,(main (λQ=>Q [sI (c/27),sI 9,sP (.str Ce),sI (o:Nat),sP (.str (sT l)),y2,sI (a:Nat),sL true (Kl (l.take a) (l.drop a) o),y3]) λQ=>by rw[e3];rfl).trans rfl⟩
  .rw[all_eq_true]at hsm ⊢;exact λz hz=>hsm z (mem_of_mem_take hz)
  .rw[all_eq_true]at hsm ⊢;exact λz hz=>hsm z (mem_of_mem_drop hz)
  .simp;lia
theorem KL{i:Nat}{b:Env->Fl}{Q:Nat->Env->Prop}{m:Nat}(hs:∀j,j < m->∀ρ,Q j ρ->∃ρ',Q (j + 1) ρ'/\b (ρ.set i (some (.p (.int ((j:Nat):Int)))))= .nx ρ'):∀(n s:Nat) (ρ:Env),s + n=m->Q s ρ->∃ρ',Q m ρ'/\forL (.nm i) b ((List.range' s n).map λi=>P.int ((i:Nat):Int)) ρ= .nx ρ'
 | 0,s,ρ,h,hq=>by
   have:s=m:=by lia
   subst this;exact⟨ρ,hq,rfl⟩
 | n + 1,s,ρ,h,hq=>by
   obtain⟨ρ1,h1,e1⟩:=hs s (by lia) ρ hq;obtain⟨ρ2,h2,e2⟩:=KL hs n (s+1) ρ1 (by lia) h1;refine⟨ρ2,h2,?_⟩;rw[List.range'_succ,map_cons,Jr,e1,HJ,e2]
variable{ρ:Env}
theorem C5{i:Nat}{b:Env->Fl}{m:Nat}(Q:Nat->Env->Prop)(h0:Q 0 ρ)(hs:∀j,j < m->∀ρ,Q j ρ->∃ρ',Q (j + 1) ρ'/\b (ρ.set i (some (.p (.int ((j:Nat):Int)))))= .nx ρ'):∃ρ',Q m ρ'/\forL (.nm i) b ((List.range m).map λi=>P.int ((i:Nat):Int)) ρ= .nx ρ':=by
 rw[List.range_eq_range'];exact KL hs m 0 ρ (by lia) h0
theorem Ec{β:Env}{i:Nat}{Q:P->Prop}:∀{xs:List P},(∀x∈xs,∃y,Q y/\(den cf e).v (β.set i (some (.p x)))= .ok (.p y))->∃ys,(ys.length=xs.length/\∀y∈ys,Q y)/\Bj (.nm i) (λ_=>.ok true) (den cf e).v β xs= .ok ys
 |[],_=>⟨[],⟨rfl,λy hy=>by cases hy⟩,rfl⟩
 | x ::xs,h=>by
   obtain⟨y,hy,e1⟩:=h x (.head _);obtain⟨ys,⟨hl,hq⟩,e2⟩:=Ec λz hz=>h z (.tail _ hz)
   refine⟨y::ys,⟨by simp[hl],λz hz=>?_⟩,?_⟩
   .rcases mK hz with rfl|hz
    .exact hy
    .exact hq z hz
   .show((den cf e).v (β.set i (some (.p x)))).ne.bind _=_;rw[e1];show(Bj (.nm i) (λ_=>.ok true) (den cf e).v β xs).bind _=_;rw[e2];rfl
def GD:Str:="ABCDEFGHIJKLMNOPQRSTUVWXYZ"
theorem WK:GJ (.p (.str Ce))=some (.p (.str GD)):=by
 show(if Ce="abcdefghijklmnopqrstuvwxyz" then some (C.p (.str "ABCDEFGHIJKLMNOPQRSTUVWXYZ"))else none)=_;rw[iP (show Ce="abcdefghijklmnopqrstuvwxyz" from rfl)];rfl
theorem ZK:∀i:Fin 26,(signs GD)[i.val]? =some (sign (65+i.val)):=by decide
theorem MO{i:Nat}(h1:i < 26):A2 (.p (.str GD)) (.p (.int (i:Int)))=some (.p (.str (sT [65 + i]))):=by
 have h:(signs GD)[i]? =some (sign (65+i)):=ZK ⟨i,h1⟩;show((if GD.length<=big then some (signs GD)else none).bind λps=>(G5 ps.length (i:Int)).bind λk=>(ps[k]?).map C.p)=_;rw[iP (by decide),Option.bind_some];have hl:(signs GD).length=26:=by decide
 unfold G5;rw[hl,iP (by lia),iP (by lia),Option.bind_some,Int.toNat_natCast,h];rfl
theorem Jz{l:List Nat}(h:l.all small=true)(hl:l.length<=7)(hj:j < 26):Bi (.str (sT ((65 + j)::l)))=true:=by
 show(decide (l.length<=7) && (great (65+j) && l.all small))=true;rw[h,dZ hl,show great (65+j)=true from by simp[great];lia];rfl
noncomputable abbrev dX (k:Nat):Env->Fl:=execs (~~~k) AW [(.asg (.nm 5) (.A1 A5 {5} (.A1 A2 {2} (.A1 (A3 Ab) (.A1 (A3 A7) (.A1 mulC {0} (.A1 A5 {6} {5,0})) {11,0}) {26,0}))))]
noncomputable abbrev Vu (k:Nat):Env->Fl:=execs (~~~k) AW [(.asg (.nm 9) (.A1 A5 (.A1 A2 {3} {4}) (.A1 DC {5} {8}))),(.Bu 7 true (BY AL) [(.A1 A5 (.A1 A5 {9} (.A1 A2 {2} (.A1 A5 {4} {6}))) (.A1 Fu {5} {8}))])]
theorem Vv(k:Nat)(c:Int)(b d e u v w z:Option C){m:Nat}(hm:m<=6):∃l y,(l.all small=true/\l.length=m)/\forL (.nm 6) (dX k) ((List.range m).map λi=>P.int ((i:Nat):Int)) [sI c,b,sP (.str Ce),d,e,sP (.str ""),u,v,w,z]= .nx [sI c,b,sP (.str Ce),d,e,sP (.str (sT l)),y,v,w,z]:=by
 obtain⟨ρ,⟨l,y,h1,h2,rfl⟩,e⟩:=C5 (i:=6) (b:=dX k) (m:=m) (ρ:=[sI c,b,sP (.str Ce),d,e,sP (.str ""),u,v,w,z]) (λn ρ=>∃(l:List Nat) (y:Option C),l.all small=true/\l.length=n/\ρ=[sI c,b,sP (.str Ce),d,e,sP (.str (sT l)),y,v,w,z]) ⟨[],u,rfl,rfl,rfl⟩ (by
  rintro i hi _ ⟨l,y,hl,hn,rfl⟩
  generalize hj:c*((i:Int)+5)/11%26=j;have g0:0<=j:=by rw[<-hj];exact Int.emod_nonneg _ (by decide)
  have g1:j < 26:=by rw[<-hj];exact Int.emod_lt_of_pos _ (by decide)
  obtain⟨n,rfl⟩:=Int.eq_ofNat_of_zero_le g0;have hn26:n < 26:=by lia
  refine⟨_,⟨l++[97+n],sI i,?_,by simp[hn],rfl⟩,?_⟩
  .rw[all_append,hl];simp[small]
   lia
  .rw[AA,AA,AA,AA,AA,AA,HH];unfold dX
   simp! [add_int,mul_r c ((i:Int)+5) ⟨by lia,by lia⟩,fd (c*((i:Int)+5)) 11,md (c*((i:Int)+5)/11) 26,hj,EB hn26,Ga l [97+n] (by simp;lia)])
 exact⟨l,y,⟨h1,h2⟩,e⟩
theorem Ss(k:Nat)(c b x:Option C){o:Nat}(ho:o < 21){l:List Nat}{a:Nat}(ha:a<=l.length)(hs:l.all small=true)(hl:l.length<=6)(y z:Option C):∃ws y' z',(ws.length=6/\∀x∈ws,Bi x=true)/\forL (.nm 6) (Vu k) ((List.range 6).map λi=>P.int ((i:Nat):Int)) [c,b,sP (.str Ce),sP (.str GD),sI (o:Nat),sP (.str (sT l)),y,sL true [],sI (a:Nat),z]= .nx [c,b,sP (.str Ce),sP (.str GD),sI (o:Nat),sP (.str (sT l)),y',sL true ws,sI (a:Nat),z']:=by
 obtain ⟨ρ,⟨ws,y',z',h1,h2,rfl⟩,e⟩:=C5 (i:=6) (b:=Vu k) (m:=6) (ρ:=[c,b,sP (.str Ce),sP (.str GD),sI (o:Nat),sP (.str (sT l)),y,sL true [],sI (a:Nat),z]) (λn ρ=>∃(ws:List P) (y z:Option C),ws.length=n/\(∀x∈ws,Bi x=true)/\ρ=[c,b,sP (.str Ce),sP (.str GD),sI (o:Nat),sP (.str (sT l)),y,sL true ws,sI (a:Nat),z]) ⟨[],y,z,rfl,λx hx=>(by cases hx),rfl⟩ (by
  rintro i hi _ ⟨ws,y,z,hw,hf,rfl⟩
  have e0:((o:Int)+(i:Int))=((o+i:Nat):Int):=by lia
  have t1:(l.take a).length=a:=by simp;lia
  have t2:(l.drop a).length=l.length-a:=by simp
  refine⟨_,⟨ws++[.str (sT ([65+o]++l.take a++[97+(o+i)]++l.drop a))],sI i,sP (.str (sT ([65+o]++l.take a))),by simp[hw],?_,rfl⟩,?_⟩
  .intro x hx;rcases mZ hx with hx|hx
   .exact hf x hx
   .rw [mem_singleton]at hx;subst hx;have:[65+o]++l.take a++[97+(o+i)]++l.drop a=(65+o)::(l.take a++[97+(o+i)]++l.drop a):=by simp
    rw[this];rw[all_eq_true]at hs;refine Jz ?_ (by simp;lia) (by lia);rw[all_eq_true];intro q hq;rcases mZ hq with hq|hq
    .rcases mZ hq with hq|hq
     .exact hs q (mem_of_mem_take hq)
     .rw[mem_singleton]at hq;subst hq;simp[small]
      lia
    .exact hs q (mem_of_mem_drop hq)
  .rw[AA,AA,AA,AA,AA,AA,HH];unfold Vu
   simp! [MO (i:=o) (by lia),W2 l a ha (by lia),W3 l a ha (by lia),Ga [65+o] (l.take a) (by simp;lia),add_int,e0,EB (i:=o+i) (by lia),Ga ([65+o]++l.take a) [97+(o+i)] (by simp;lia),Ga ([65+o]++l.take a++[97+(o+i)]) (l.drop a) (by simp;lia),Bf ws (.str (sT ([65+o]++l.take a++[97+(o+i)]++l.drop a))) (by unfold big;lia),Option.any_some,C.Ew,cond_true])
 exact⟨ws,y',z',⟨h1,h2⟩,e⟩
theorem KI(h:Bi x=true):∃z,x= .str z:=by
 cases x with
 |str z=>exact⟨z,rfl⟩
 |_=>cases h
theorem Rv(k:Nat)(c:Int):∃ps,(ps.length=6/\∀x∈ps,Bi x=true)/\~~~(k + 1) 29 [.p (.int c),.p (.int 6)]= .ok (.lst true ps):=by
 obtain⟨o,ho,eo⟩:∃o:Nat,o < 21/\c%21=(o:Nat):=⟨(c%21).toNat,by lia,by lia⟩;obtain⟨n,hn,en⟩:∃n:Nat,n < 7/\c/27%7=(n:Nat):=⟨(c/27%7).toNat,by lia,by lia⟩;obtain⟨l,y1,⟨hs,hl⟩,e1⟩:=Vv k c (some (.p (.int 6))) (some (.p (.str GD))) (some (.p (.int (o:Nat)))) none none none none (m:=n) (by lia)
 obtain⟨ws,⟨hw,hf⟩,e2⟩:=Ec (cf:= ~~~k) (e:=.A1 A5 (.A1 A2 {3} (.A1 A5 {4} {1})) {2}) (β:=[none,none,sP (.str (sT l)),sP (.str GD),sI (o:Nat)]) (i:=1) (Q:=λx=>Bi x=true) (xs:=(List.range 6).map λi=>P.int ((i:Nat):Int)) (λx hx=>by
  obtain⟨i,hi,rfl⟩:=mem_map.mp hx;rw[mem_range]at hi;have e0:((o:Int)+(i:Int))=((o+i:Nat):Int):=by lia
  refine⟨_,Jz (j:=o+i) hs (by lia) (by lia),?_⟩;rw[AA,HH];simp! [add_int,e0,MO (i:=o+i) (by lia),Ga [65+(o+i)] l (by simp;lia)]
  rfl)
 obtain⟨a,ha,ea⟩:∃a:Nat,a<=l.length/\c / 400 % ((l.length:Int) + 1)=(a:Nat):=by
  have g0:=Int.emod_nonneg (c/400) (by lia:((l.length:Int)+1)≠0);have g1:=Int.emod_lt_of_pos (c/400) (by lia:0 < ((l.length:Int)+1));exact⟨(c/400%((l.length:Int)+1)).toNat,by lia,by lia⟩
 obtain⟨vs,y2,z2,⟨hv,hg⟩,e3⟩:=Ss k (some (.p (.int c))) (some (.p (.int 6))) none ho ha hs (by lia) y1 none;have s0:(27:Int)-6=21:=rfl;have l0:([]:List P).length<=1000:=by simp
 have e9:AM (.p (.int 6))=some ((List.range 6).map λi=>P.int ((i:Nat):Int)):=Bn 6 (by decide);have lr:((List.range 6).map λi=>P.int ((i:Nat):Int)).length<=big:=by decide
 have fin:∀(ws:List P) (y z w:Option C),ws.length=6->(∀x∈ws,Bi x=true)->∃ps,(ps.length=6/\∀x∈ps,Bi x=true)/\k<<<[(.ifs (.or (.A1 Rl {"No"} {7}) (.A1 Rl {"Yes"} {7})) [(.ret (.comp (.nm 1) AM {1} [] (.A1 A5 {"X"} (.A1 A2 {3} (.A1 A5 {2} {1}))) [none,none,some 4,some 2]))] []),(.DI 7)]>>>[sI c,sI 6,sP (.str Ce),sP (.str GD),sI (o:Nat),sP (.str (sT l)),y,sL true ws,z,w]= .ret (.lst true ps):=by
  intro ws y z w hw hf;obtain⟨b1,eb1⟩:=Ju "No" false λx hx=>KI (hf x hx)
  obtain⟨b2,eb2⟩:=Ju "Yes" false λx hx=>KI (hf x hx)
  cases hb:(b1 || b2)with
  |false=>
    refine⟨ws,⟨hw,hf⟩,?_⟩;simp! [eb1,eb2,hb]
  |true=>
    obtain⟨us,⟨hu,hg⟩,e4⟩:=Ec (cf:= ~~~k) (e:=.A1 A5 {"X"} (.A1 A2 {3} (.A1 A5 {2} {1}))) (β:=[none,none,sI (o:Nat),sP (.str Ce)]) (i:=1) (Q:=λx=>Bi x=true) (xs:=(List.range 6).map λi=>P.int ((i:Nat):Int)) (λx hx=>by
     obtain⟨i,hi,rfl⟩:=mem_map.mp hx;rw[mem_range]at hi;have e0:((o:Int)+(i:Int))=((o+i:Nat):Int):=by lia
     refine⟨_,Jz (j:=23) (l:=[97+(o+i)]) (by simp[small];lia) (by simp) (by lia),?_⟩;rw[AA,HH];simp! [add_int,e0,EB (i:=o+i) (by lia)]
     exact congrArg Res.of (Ga [65+23] [97+(o+i)] (by simp)))
    refine⟨us,⟨by rw[hu];rfl,hg⟩,?_⟩;simp! [eb1,eb2,hb,e9,lr];show(((Res.bind (Bj (.nm 1) (λ_=>.ok true) (den (~~~k) (.A1 A5 {"X"} (.A1 A2 {3} (.A1 A5 {2} {1})))).v [none,none,sI (o:Nat),sP (.str Ce)] ((List.range 6).map λi=>P.int ((i:Nat):Int))) _).fl _ _).then _).then _=_;rw[e4];rfl
 have main:∀r,(∀Q,((k^^^(.ifs (.A1 Bq (.A1 (A3 Ab) (.A1 (A3 A7) {0} {200,0}) {2,0}) {1,0}) [(.asg (.nm 8) (.A1 (A3 Ab) (.A1 (A3 A7) {0} {400,0}) (.A1 A5 (.Ai Av {5}) {1,0}))),(.asg (.nm 7) (.lst [])),(.Be (.nm 6) AM {1} [(.asg (.nm 9) (.A1 A5 (.A1 A2 {3} {4}) (.A1 DC {5} {8}))),(.Bu 7 true (BY AL) [(.A1 A5 (.A1 A5 {9} (.A1 A2 {2} (.A1 A5 {4} {6}))) (.A1 Fu {5} {8}))])])] [])&&&[sI c,sI 6,sP (.str Ce),sP (.str GD),sI (o:Nat),sP (.str (sT l)),y1,sL true ws,none,none]).then Q)=Q r)->~~~(k + 1) 29 [.p (.int c),.p (.int 6)]=(k<<<[(.ifs (.or (.A1 Rl {"No"} {7}) (.A1 Rl {"Yes"} {7})) [(.ret (.comp (.nm 1) AM {1} [] (.A1 A5 {"X"} (.A1 A2 {3} (.A1 A5 {2} {1}))) [none,none,some 4,some 2]))] []),(.DI 7)]>>>r).out:=by
  intro r hr;refine call_of kT rfl ?_;show execs _ _ gX [sI c,sI 6,none,none,none,none,none,none,none,none]=_;unfold gX;rw[Ak,show k^^^(.asg (.nm 2) {"abcdefghijklmnopqrstuvwxyz"})&&&[sI c,sI 6,none,none,none,none,none,none,none,none]= .nx [sI c,sI 6,sP (.str Ce),none,none,none,none,none,none,none]from rfl,Bc];simp! [WK,sb,s0,md c 21,eo];rw[BN _ _ _ _ _ _ _ rfl];simp! [fd c 27,md (c/27) 7,en,Bn n (by lia)]
  have q1:((forL (.nm 6) (dX k) ((List.range n).map λi=>P.int ((i:Nat):Int)) [sI c,sI 6,sP (.str Ce),sP (.str GD),sI (o:Nat),sP (.str ""),none,none,none,none]).fin id)= .nx [sI c,sI 6,sP (.str Ce),sP (.str GD),sI (o:Nat),sP (.str (sT l)),y1,none,none,none]:=by
   rw[e1];rfl
  refine(congrArg (λz:Fl=>z.then _) q1).trans ?_;rw[Bc]
  have q2:k^^^(.asg (.nm 7) (.comp (.nm 1) AM {1} [] (.A1 A5 (.A1 A2 {3} (.A1 A5 {4} {1})) {2}) [none,none,some 5,some 3,some 4]))&&&[sI c,sI 6,sP (.str Ce),sP (.str GD),sI (o:Nat),sP (.str (sT l)),y1,none,none,none]= .nx [sI c,sI 6,sP (.str Ce),sP (.str GD),sI (o:Nat),sP (.str (sT l)),y1,sL true ws,none,none]:=by
   simp! [e9,lr];show((Res.bind (Bj (.nm 1) (λ_=>.ok true) (den (~~~k) (.A1 A5 (.A1 A2 {3} (.A1 A5 {4} {1})) {2})).v [none,none,sP (.str (sT l)),sP (.str GD),sI (o:Nat)] ((List.range 6).map λi=>P.int ((i:Nat):Int))) _).fl _ _)=_;rw[e2];rfl
  refine(congrArg (λz:Fl=>z.then _) q2).trans ?_;rw[Bc];exact hr _
 by_cases hb:c/200%2=1
 .obtain⟨ps,hp,e⟩:=fin vs y2 (some (.p (.int (a:Nat)))) z2 hv hg;refine⟨ps,hp,(main [sI c,sI 6,sP (.str Ce),sP (.str GD),sI (o:Nat),sP (.str (sT l)),y2,sL true vs,sI (a:Nat),z2] λQ=>?_).trans (by rw[e];rfl)⟩;simp! [fd c 200,md (c/200) 2,eq_int,dZ hb,fd c 400,Wm l (by lia),add_int,md (c/400) ((l.length:Int)+1) (by lia),ea,l0];rw[Fm];simp! [e9]
  have q3:((forL (.nm 6) (Vu k) ((List.range 6).map λi=>P.int ((i:Nat):Int)) [sI c,sI 6,sP (.str Ce),sP (.str GD),sI (o:Nat),sP (.str (sT l)),y1,sL true [],sI (a:Nat),none]).fin (VN (some (.p (.int 6))) 1))= .nx [sI c,sI 6,sP (.str Ce),sP (.str GD),sI (o:Nat),sP (.str (sT l)),y2,sL true vs,sI (a:Nat),z2]:=by
   rw[e3];rfl
  refine(congrArg (λz:Fl=>(z.then _).then _) q3).trans ?_;rfl
 .have hw6:ws.length=6:=by rw[hw];rfl
  obtain⟨ps,hp,e⟩:=fin ws y1 none none hw6 hf;refine⟨ps,hp,(main [sI c,sI 6,sP (.str Ce),sP (.str GD),sI (o:Nat),sP (.str (sT l)),y1,sL true ws,none,none] λQ=>?_).trans (by rw[e];rfl)⟩;simp! [fd c 200,md (c/200) 2,eq_int,dF hb]
def Rg(x:P):Prop:=Bd x=true/\El 20 x
theorem Ad{d:Nat}{ps:List P}(h:El d p)(hs:∀x∈ps,El d x):∀x∈p::ps,El d x:=λx hx=>by
 rcases mK hx with rfl|hx
 .exact h
 .exact hs x hx
theorem CP{d:Nat}:∀x∈([]:List P),El d x:=λx hx=>by cases hx
theorem Du{Q:P->Prop}{ws:List P}{x:P}(h:∀x∈ws,Q x)(hx:Q x):∀y∈ws++[x],Q y:=λy hy=>by
 rcases mZ hy with hy|hy
 .exact h y hy
 .rw[mem_singleton]at hy;subst hy;exact hx
theorem GN(o:Bool){ps:List P}{k:Nat}(h:k < ps.length):∃x∈ps,A2 (.lst o ps) (.p (.int (k:Nat)))=some (.p x):=IT o (by lia) (by lia)
theorem Ey(o:Bool)(ps:List P):Eh (.lst o ps)=some (.p (.tup ps)):=rfl
theorem SN(h:n<=1000):n < big:=by unfold big;lia
section
variable (k:Nat)(c:Int)(n0 n1 n2:P)(fs:List P)
noncomputable abbrev Zw:Env->Fl:=execs (~~~k) AW [(.Bu 7 true (BY AL) [(.call 30 [(.A1 (A3 A7) {0} (.A1 A5 (.A1 A5 (.A1 A5 (.A1 mulC {5,0} {4}) (.A1 mulC {7,0} {6})) (.A1 mulC {11,0} {8})) {2,0})),{1},{4},{1,0}])])]
noncomputable abbrev Zv:Env->Fl:=execs (~~~k) AW [(.asg (.nm 7) (.lst [])),(.Be (.nm 8) AM (.A1 (A3 Ab) (.A1 (A3 A7) {0} (.A1 A5 (.A1 A5 {4} {6}) {2,0})) {4,0}) [(.Bu 7 true (BY AL) [(.call 30 [(.A1 (A3 A7) {0} (.A1 A5 (.A1 A5 (.A1 A5 (.A1 mulC {5,0} {4}) (.A1 mulC {7,0} {6})) (.A1 mulC {11,0} {8})) {2,0})),{1},{4},{1,0}])])]),(.Bu 5 true (BY AL) [(.tup [(.A1 A2 {2} (.A1 A5 (.A1 mulC {2,0} {4}) {6})),(.Ai Eh {7})])])]
noncomputable abbrev j8:Env->Fl:=execs (~~~k) AW [(.asg (.nm 5) (.lst [])),(.Be (.nm 6) AM (.A1 A5 {1,0} (.A1 (A3 Ab) (.A1 (A3 A7) {0} (.A1 A5 {4} {3,0})) {2,0})) [(.asg (.nm 7) (.lst [])),(.Be (.nm 8) AM (.A1 (A3 Ab) (.A1 (A3 A7) {0} (.A1 A5 (.A1 A5 {4} {6}) {2,0})) {4,0}) [(.Bu 7 true (BY AL) [(.call 30 [(.A1 (A3 A7) {0} (.A1 A5 (.A1 A5 (.A1 A5 (.A1 mulC {5,0} {4}) (.A1 mulC {7,0} {6})) (.A1 mulC {11,0} {8})) {2,0})),{1},{4},{1,0}])])]),(.Bu 5 true (BY AL) [(.tup [(.A1 A2 {2} (.A1 A5 (.A1 mulC {2,0} {4}) {6})),(.Ai Eh {7})])])]),(.Bu 3 true (BY AL) [(.tup [{"kind"},(.A1 A2 {1} {4}),{4},(.Ai Eh {5})])])]
variable {n0 n1 n2}(h0:A4 n0=true)(h1:A4 n1=true)(h2:A4 n2=true)
include h0 h1 h2
theorem Sr(a:Nat)(ha:a<=2)(j:Nat)(hj:j<=1)(u v w:Option C){m:Nat}(hm:m<=3)(y:Option C):∃ws y',(ws.length=m/\∀x∈ws,Kg a x)/\forL (.nm 8) (Zw (k + 2)) ((List.range m).map λi=>P.int ((i:Nat):Int)) [sI c,sL false [n0,n1,n2],u,v,sI (a:Nat),w,sI (j:Nat),sL true [],y]= .nx [sI c,sL false [n0,n1,n2],u,v,sI (a:Nat),w,sI (j:Nat),sL true ws,y']:=by
 obtain⟨ρ,⟨ws,y',g1,g2,rfl⟩,e⟩:=C5 (i:=8) (b:=Zw (k + 2)) (m:=m) (ρ:=[sI c,sL false [n0,n1,n2],u,v,sI (a:Nat),w,sI (j:Nat),sL true [],y]) (λn ρ=>∃(ws:List P) (y:Option C),ws.length=n/\(∀x∈ws,Kg a x)/\ρ=[sI c,sL false [n0,n1,n2],u,v,sI (a:Nat),w,sI (j:Nat),sL true ws,y]) ⟨[],y,rfl,λx hx=>(by cases hx),rfl⟩ (by
  rintro i hi _ ⟨ws,y,hw,hk,rfl⟩
  obtain⟨x,hx,e⟩:=Hj k (c/(5*(a:Int)+7*(j:Int)+11*(i:Int)+2)) a ha h0 h1 h2;refine⟨_,⟨ws++[x],sI i,by simp[hw],Du hk hx,rfl⟩,?_⟩;rw[AA,AA,AA,AA,AA,AA,AA,AA,HH];unfold Zw
  simp! [D5 5 (a:Int) (by decide),D5 7 (j:Int) (by decide),D5 11 (i:Int) (by decide),add_int,fd c (5*(a:Int)+7*(j:Int)+11*(i:Int)+2) ⟨by lia,by lia⟩,e,Bf ws x (SN (by lia)),Option.any_some,C.Ew,cond_true])
 exact⟨ws,y',⟨g1,g2⟩,e⟩
theorem So(hf:∀x∈fs,Bi x=true)(hl:fs.length=6)(a:Nat)(ha:a<=2)(v:Option C){m:Nat}(hm:m<=2)(y z u:Option C):∃ws y' z' u',(ws.length=m/\∀x∈ws,C3 a x=true/\El 4 x)/\forL (.nm 6) (Zv (k + 2)) ((List.range m).map λi=>P.int ((i:Nat):Int)) [sI c,sL false [n0,n1,n2],sL false fs,v,sI (a:Nat),sL true [],y,z,u]= .nx [sI c,sL false [n0,n1,n2],sL false fs,v,sI (a:Nat),sL true ws,y',z',u']:=by
 obtain⟨ρ,⟨ws,y',z',u',g1,g2,rfl⟩,e⟩:=C5 (i:=6) (b:=Zv (k + 2)) (m:=m) (ρ:=[sI c,sL false [n0,n1,n2],sL false fs,v,sI (a:Nat),sL true [],y,z,u]) (λn ρ=>∃(ws:List P) (y z u:Option C),ws.length=n/\(∀x∈ws,C3 a x=true/\El 4 x)/\ρ=[sI c,sL false [n0,n1,n2],sL false fs,v,sI (a:Nat),sL true ws,y,z,u]) ⟨[],y,z,u,rfl,λx hx=>(by cases hx),rfl⟩ (by
  rintro j hj _ ⟨ws,y,z,u,hw,hk,rfl⟩
  obtain⟨q,hq,eq⟩:∃q:Nat,q<=3/\c/((a:Int)+(j:Int)+2)%4=(q:Nat):=⟨(c/((a:Int)+(j:Int)+2)%4).toNat,by lia,by lia⟩;obtain⟨vs,u',⟨hv,hg⟩,e1⟩:=Sr k c h0 h1 h2 a ha j (by lia) (some (.lst false fs)) v (some (.lst true ws)) hq u;obtain⟨f,hf1,ef⟩:=GN false (ps:=fs) (k:=2*a+j) (by lia);have e0:(2*(a:Int)+(j:Int))=((2*a+j:Nat):Int):=by lia
  refine⟨_,⟨ws++[.tup [f,.tup vs]],sI j,sL true vs,u',by simp[hw],Du hk ⟨bZ (hf f hf1) (by lia) λx hx=>Hl (hg x hx),?_⟩,rfl⟩,?_⟩
  .refine Ax (Ad (KJ (hf f hf1) 3) (Ad (Ax λx hx=>M7 (hg x hx)) CP))
  .rw[AA,AA,AA,AA,AA,AA,HH];unfold Zv;simp! [show([]:List P).length<=1000 from by simp];rw[BN _ _ _ _ _ _ _ rfl];simp! [add_int,fd c ((a:Int)+(j:Int)+2) ⟨by lia,by lia⟩,md (c/((a:Int)+(j:Int)+2)) 4,eq,Bn q (by lia)];refine(congrArg (λz:Fl=>(z.fin id).then _) e1).trans ?_;rw[Hf,Bc]
   simp! [id_eq,D5 2 (a:Int) (by decide),add_int,e0,ef,Ey,show ∀p q:P,([p,q]:List P).length<=1000 from λp q=>by simp,Bf ws (.tup [f,.tup vs]) (SN (by lia)),Option.any_some,C.Ew,cond_true])
 exact⟨ws,y',z',u',⟨g1,g2⟩,e⟩
theorem Ku(hf:∀x∈fs,Bi x=true)(hl:fs.length=6):∃ws,(ws.length=3/\∀x∈ws,Rg x)/\~~~(k + 3) 32 [.p (.int c),.lst false [n0,n1,n2],.lst false fs]= .ok (.lst true ws):=by
 obtain⟨ρ,⟨ws,y',z',u',v',w',g1,g2,rfl⟩,e⟩:=C5 (i:=4) (b:=j8 (k + 2)) (m:=3) (ρ:=[sI c,sL false [n0,n1,n2],sL false fs,sL true [],none,none,none,none,none]) (λn ρ=>∃(ws:List P) (y z u v w:Option C),ws.length=n/\(∀x∈ws,Rg x)/\ρ=[sI c,sL false [n0,n1,n2],sL false fs,sL true ws,y,z,u,v,w]) ⟨[],none,none,none,none,none,rfl,λx hx=>(by cases hx),rfl⟩ (by
  rintro a ha _ ⟨ws,y,z,u,v,w,hw,hk,rfl⟩
  obtain⟨q,⟨hq0,hq⟩,eq⟩:∃q:Nat,(1<=q/\q<=2)/\1+c/((a:Int)+3)%2=(q:Nat):=⟨(1+c/((a:Int)+3)%2).toNat,by lia,by lia⟩;obtain⟨vs,y',z',u',⟨hv,hg⟩,e1⟩:=So k c fs h0 h1 h2 hf hl a (by lia) (some (.lst true ws)) hq u v w
  obtain⟨n,hn,en⟩:∃n,A4 n=true/\A2 (.lst false [n0,n1,n2]) (.p (.int (a:Nat)))=some (.p n):=by
   obtain⟨n,hn,en⟩:=GN false (ps:=[n0,n1,n2]) (k:=a) ha;refine⟨n,?_,en⟩;simp only[mem_cons,not_mem_nil,or_false]at hn;rcases hn with rfl|rfl|rfl<;>assumption
  refine⟨_,⟨ws++[.tup [.str "kind",n,.int (a:Nat),.tup vs]],sI a,sL true vs,y',z',u',by simp[hw],Du hk ⟨Yx hn (by lia) (by lia) (by lia) (by lia) λx hx=>(hg x hx).1,?_⟩,rfl⟩,?_⟩
  .refine C0 (Ax (d:=5) (Ad (Bv (by kernel_rfl) 5) (Ad (Az hn 5) (Ad (Gv _ 5) (Ad (Ax λx hx=>(hg x hx).2) CP))))) (by decide)
  .rw[AA,AA,AA,AA,HH];unfold j8;simp! [show([]:List P).length<=1000 from by simp];rw[BN _ _ _ _ _ _ _ rfl];simp! [add_int,fd c ((a:Int)+3) ⟨by lia,by lia⟩,md (c/((a:Int)+3)) 2,eq,Bn q (by lia)];refine(congrArg (λz:Fl=>(z.fin id).then _) e1).trans ?_;rw[Hf,Bc]
   simp! [id_eq,en,Ey,show ∀p q r s:P,([p,q,r,s]:List P).length<=1000 from λp q r s=>by simp,Bf ws (.tup [.str "kind",n,.int (a:Nat),.tup vs]) (SN (by lia)),Option.any_some,C.Ew,cond_true])
 refine⟨ws,⟨g1,g2⟩,call_of (r:=.ret (.lst true ws)) kQ rfl ?_⟩;show execs _ _ gV [sI c,sL false [n0,n1,n2],sL false fs,none,none,none,none,none,none]=_;unfold gV;simp! [show([]:List P).length<=1000 from by simp];rw[BN _ _ _ _ _ _ _ rfl];simp! [show AM (.p (.int 3))=some ((List.range 3).map λi=>P.int ((i:Nat):Int))from Bn 3 (by decide)];refine(congrArg (λz:Fl=>(z.fin id).then _) e).trans ?_;rw[Hf,Bc];rfl
end
def Dg(cs:List P)(x:P):Prop:=∃n q l r,x= .tup [.str "deed",n,q,.tup l,r]/\A4 n=true/\q∈cs/\l.length<=3/\(∀y∈l,Kg 1 y)/\Kg 1 r
variable{cs:List P}
theorem cJ(hc:∀x∈cs,A4 x=true){x:P}(h:Dg cs x):Rg x:=by
 obtain⟨n,q,l,r,rfl,hn,hq,hl,hk,hr⟩:=h;refine⟨Z7 hn (hc q hq) hl (λy hy=>Hl (hk y hy)) (Hl hr),?_⟩;exact C0 (Ax (d:=3) (Ad (Bv (by kernel_rfl) 3) (Ad (Az hn 3) (Ad (Az (hc q hq) 3) (Ad (Ax λx hx=>M7 (hk x hx)) (Ad (C0 (M7 hr) (by decide)) CP)))))) (by decide)
theorem N1(ps:List P)(a:Nat)(x:P)(h:a < ps.length):G1 (λc x k=>Ei c k x) (.lst true ps) [.p x,.p (.int (a:Nat))]=some (nw (ps.set a x)):=by
 show(((G5 ps.length ((a:Nat):Int)).map λk=>nw (ps.set k x)) <|> _)=_;unfold G5;rw[iP (by lia),iP (by lia),Int.toNat_natCast];rfl
section
variable (k:Nat)(c:Int)(n0 n1 n2:P)
noncomputable abbrev dU:Env->Fl:=execs (~~~k) AW [(.asg (.nm 6) (.A1 (A3 A7) {0} (.A1 A5 {3,0} (.A1 mulC {4,0} {5})))),(.asg (.nm 7) (.comp (.nm 1) AM (.A1 (A3 Ab) {6} {4,0}) [] (.call 30 [(.A1 (A3 A7) {3} (.A1 A5 {1} {2,0})),{2},{1,0},{1,0}]) [none,none,some 3,some 6])),(.asg (.nm 8) (.call 30 [(.A1 (A3 A7) {6} {7,0}),{3},{1,0},{1,0}])),(.asg (.nm 9) (.A1 (A3 Ab) (.A1 (A3 A7) {6} {11,0}) (.A1 A5 (.Ai Av {7}) {1,0}))),(.ifs (.A1 Bq {9} (.Ai Av {7})) [(.asg (.nm 8) (.A1 A2 (.lst [{0,0},(.tup [(.A1 A2 {3} {1,0}),{0,0}])]) (.A1 (A3 Ab) (.A1 (A3 A7) {6} {50,0}) {2,0})))] [(.Bu 7 false (G1 λc x k=>Ei c k x) [(.A1 A2 (.lst [{0,0},(.tup [(.A1 A2 {3} {1,0}),{0,0}])]) (.A1 (A3 Ab) (.A1 (A3 A7) {6} {50,0}) {2,0})),{9}])]),(.Bu 4 true (BY AL) [(.tup [{"deed"},(.A1 A2 {1} {5}),(.A1 A2 {2} (.A1 (A3 Ab) (.A1 (A3 A7) {6} {100,0}) {3,0})),(.Ai Eh {7}),{8}])])]
variable {n0 n1 n2}(h0:A4 n0=true)(h1:A4 n1=true)(h2:A4 n2=true)
include h0 h1 h2
variable{cs:List P}
theorem Zu{ds:List P}(hd:∀x∈ds,A4 x=true)(hdl:ds.length=3)(Cw:cs.length=3)(a:Nat)(ha:a < 3)(ws:List P)(hw:ws.length<=100)(y z u v:Option C):∃x y' z' u' v',Dg cs x/\dU (k + 2) [sI c,sL false ds,sL false cs,sL false [n0,n1,n2],sL true ws,sI (a:Nat),y,z,u,v]= .nx [sI c,sL false ds,sL false cs,sL false [n0,n1,n2],sL true (ws++[x]),sI (a:Nat),y',z',u',v']:=by
 generalize hp:c/(3+4*(a:Int))=p;obtain⟨q,hq,eq⟩:∃q:Nat,q<=3/\p%4=(q:Nat):=⟨(p%4).toNat,by lia,by lia⟩
 obtain⟨vs,⟨hv,hk⟩,e1⟩:=Ec (cf:= ~~~(k + 2)) (e:=(.call 30 [(.A1 (A3 A7) {3} (.A1 A5 {1} {2,0})),{2},{1,0},{1,0}])) (β:=[none,none,sL false [n0,n1,n2],sI p]) (i:=1) (Q:=Kg 1) (xs:=(List.range q).map λi=>P.int ((i:Nat):Int)) (λx hx=>by
  obtain⟨i,hi,rfl⟩:=mem_map.mp hx;rw[mem_range]at hi;obtain⟨x,hx,e⟩:=Hj k (p/((i:Int)+2)) 1 (by decide) h0 h1 h2;refine⟨x,hx,?_⟩;rw[AA,HH];simp! [add_int,fd p ((i:Int)+2) ⟨by lia,by lia⟩]
  exact e)
 rw[lM,length_range]at hv;obtain⟨r,hr,er⟩:=Hj k (p/7) 1 (by decide) h0 h1 h2
 obtain⟨t,ht,et⟩:∃t:Nat,t<=vs.length/\p / 11 % ((vs.length:Int) + 1)=(t:Nat):=by
  have g0:=Int.emod_nonneg (p/11) (by lia:((vs.length:Int)+1)≠0);have g1:=Int.emod_lt_of_pos (p/11) (by lia:0 < ((vs.length:Int)+1));exact⟨(p/11%((vs.length:Int)+1)).toNat,by lia,by lia⟩
 obtain⟨s,hs,es⟩:=AJ true (ps:=[.int 0,.tup [n1,.int 0]]) (p/50) 2 rfl (by decide)
 have hs1:Kg 1 s:=by
  simp only[mem_cons,not_mem_nil,or_false]at hs;rcases hs with rfl|rfl
  .exact .lf (.inr ⟨0,by decide,by decide,rfl⟩)
  .exact .one h1 (.inr ⟨0,by decide,by decide,rfl⟩)
 obtain⟨d,hd1,ed⟩:=GN false (ps:=ds) (k:=a) (by lia);obtain⟨g,hg1,eg⟩:=AJ false (ps:=cs) (p/100) 3 Cw (by decide);have l2:∀p q:P,([p,q]:List P).length<=1000:=λp q=>by simp
 have l5:∀p q r s t:P,([p,q,r,s,t]:List P).length<=1000:=λp q r s t=>by simp
 have g1:A2 (.lst false [n0,n1,n2]) (.p (.int 1))=some (.p n1):=rfl;have lr:((List.range q).map λi=>P.int ((i:Nat):Int)).length<=big:=by simp;unfold big;lia
 have es':A2 (.lst true [.int 0,.tup [n1,.int 0]]) (.p (.int (p/50%2)))=some (.p s):=es;have eg':A2 (.lst false cs) (.p (.int (p/100%3)))=some (.p g):=eg;have eb:∀a b c d e f:Option C,AE [none,none,some 3,some 6] [a,b,c,sL false [n0,n1,n2],d,e,sI p,f,u,v]=[none,none,sL false [n0,n1,n2],sI p]:=λ_ _ _ _ _ _=>rfl
 have er': ~~~(k+2) 30 [.p (.int (p/7)),.lst false [n0,n1,n2],.p (.int 1),.p (.int 1)]= .ok (.p r):=er;have hap:=λx=>Bf ws x (SN (by lia))
 by_cases htl:t=vs.length
 .refine⟨.tup [.str "deed",d,g,.tup vs,s],sI p,sL true vs,sP s,sI (t:Nat),⟨d,g,vs,s,rfl,hd d hd1,hg1,by lia,hk,hs1⟩,?_⟩;unfold dU;simp! [D5 4 (a:Int) (by decide),add_int,fd c (3+4*(a:Int)) ⟨by lia,by lia⟩,hp,md p 4,eq,Bn q (by lia),lr,eb,e1,fd p 7,er',fd p 11,AK,md (p/11) ((vs.length:Int)+1) (by lia),et,eq_int,dZ (show(t:Int)=(vs.length:Int)from by lia),g1,l2,fd p 50,md (p/50) 2,es',ed,fd p 100,md (p/100) 3,eg',Ey,l5,hap,Option.any_some,C.Ew,cond_true]
 .refine⟨.tup [.str "deed",d,g,.tup (vs.set t s),r],sI p,sL true (vs.set t s),sP r,sI (t:Nat),⟨d,g,vs.set t s,r,rfl,hd d hd1,hg1,by rw[length_set];lia,λy hy=>?_,hr⟩,?_⟩
  .rcases List.mem_or_eq_of_mem_set hy with hy|rfl
   .exact hk y hy
   .exact hs1
  unfold dU;simp! [D5 4 (a:Int) (by decide),add_int,fd c (3+4*(a:Int)) ⟨by lia,by lia⟩,hp,md p 4,eq,Bn q (by lia),lr,eb,e1,fd p 7,er',fd p 11,AK,md (p/11) ((vs.length:Int)+1) (by lia),et,eq_int,dF (show ¬(t:Int)=(vs.length:Int)from by lia),g1,l2,fd p 50,md (p/50) 2,es',N1 vs t s (by lia),ed,fd p 100,md (p/100) 3,eg',Ey,l5,hap,Option.any_some,C.Ew,cond_true,cond_false]
theorem KW{ds:List P}(hd:∀x∈ds,A4 x=true)(hdl:ds.length=3)(Cw:cs.length=3):∃ws,((1<=ws.length/\ws.length<=3)/\∀x∈ws,Dg cs x)/\~~~(k + 3) 34 [.p (.int c),.lst false ds,.lst false cs,.lst false [n0,n1,n2]]= .ok (.lst true ws):=by
 obtain⟨m,hm,em⟩:∃m:Nat,(1<=m/\m<=3)/\1+c%3=(m:Nat):=⟨(1+c%3).toNat,by lia,by lia⟩
 obtain⟨ρ,⟨ws,y',z',u',v',w',g1,g2,rfl⟩,e⟩:=C5 (i:=5) (b:=dU (k + 2)) (m:=m) (ρ:=[sI c,sL false ds,sL false cs,sL false [n0,n1,n2],sL true [],none,none,none,none,none]) (λn ρ=>∃(ws:List P) (y z u v w:Option C),ws.length=n/\(∀x∈ws,Dg cs x)/\ρ=[sI c,sL false ds,sL false cs,sL false [n0,n1,n2],sL true ws,y,z,u,v,w]) ⟨[],none,none,none,none,none,rfl,λx hx=>(by cases hx),rfl⟩ (by
  rintro a ha _ ⟨ws,y,z,u,v,w,hw,hk,rfl⟩
  obtain⟨x,y',z',u',v',hx,e⟩:=Zu k c h0 h1 h2 hd hdl Cw a (by lia) ws (by lia) z u v w
  exact⟨_,⟨ws++[x],_,y',z',u',v',by simp[hw],Du hk hx,rfl⟩,e⟩)
 refine⟨ws,⟨by lia,g2⟩,call_of (r:=.ret (.lst true ws)) kN rfl ?_⟩;show execs _ _ gS [sI c,sL false ds,sL false cs,sL false [n0,n1,n2],none,none,none,none,none,none]=_;unfold gS;simp! [show([]:List P).length<=1000 from by simp];rw[BN _ _ _ _ _ _ _ rfl];simp! [md c 3,add_int,em,Bn m (by lia)];refine(congrArg (λz:Fl=>(z.fin id).then _) e).trans ?_;rw[Hf,Bc];rfl
end
theorem JA{i:Nat}{b:Env->Fl}{Q:Env->Prop}:∀{xs:List P} {ρ:Env},Q ρ->(∀x∈xs,∀ρ,Q ρ->∃ρ',Q ρ'/\b (ρ.set i (some (.p x)))= .nx ρ')->∃ρ',Q ρ'/\forL (.nm i) b xs ρ= .nx ρ'
 |[],ρ,h0,_=>⟨ρ,h0,rfl⟩
 | x::xs,ρ,h0,hs=>by
   obtain⟨ρ1,h1,e1⟩:=hs x (.head _) ρ h0;obtain⟨ρ2,h2,e2⟩:=JA (i:=i) (b:=b) (xs:=xs) h1 λy hy=>hs y (.tail _ hy)
   refine⟨ρ2,h2,?_⟩;rw[Jr,e1,HJ,e2]
def Dc:P->P
 |.tup ps=>ps.getD 1 .A8
 |_=>.A8
def Hg(cs:List P)(x:P):Prop:=∃n q l,x= .tup [.str "house",n,q,.tup l]/\n∈cs/\A4 q=true/\l.length<=3/\∀y∈l,y∈cs\/y= .A8
theorem Na(hc:∀x∈cs,A4 x=true){y:P}(h:y∈cs\/y= .A8):Dx y=true/\El 0 y:=by
 rcases h with h|rfl
 .have:=hc y h;refine⟨?_,Az this 0⟩;cases y with
  |str z=>exact this
  |_=>cases this
 .exact⟨rfl,Uu 0⟩
theorem cw(hc:∀x∈cs,A4 x=true){x:P}(h:Hg cs x):Rg x:=by
 obtain⟨n,q,l,rfl,hn,hq,hl,hk⟩:=h;refine⟨YO (hc n hn) hq hl λy hy=>(Na hc (hk y hy)).1,?_⟩;exact C0 (Ax (d:=1) (Ad (Bv (by kernel_rfl) 1) (Ad (Az (hc n hn) 1) (Ad (Az hq 1) (Ad (Ax λx hx=>(Na hc (hk x hx)).2) CP))))) (by decide)
theorem E7(h:A4 x=true):∃z,x= .str z:=by
 cases x with
 |str z=>exact⟨z,rfl⟩
 |_=>cases h
theorem cm{xs:List Str}{s:Str}(h:s∈xs):∃i,i < xs.length/\xs.idxOf? s=some i:=by
 obtain⟨i,e⟩:∃i,xs.idxOf? s=some i:=by
  cases e:xs.idxOf? s with
  |some i=>exact⟨i,rfl⟩
  |none=>exact absurd h (by rwa[List.idxOf?_eq_none_iff]at e)
 exact⟨i,by rw[List.idxOf?,List.findIdx?_eq_some_iff_findIdx_eq]at e;exact e.1,e⟩
theorem Rj(o:Bool){x:P}(ha:A4 a=true)(hb:A4 b=true)(hd:A4 d=true)(hx:x=a\/x=b):∃i:Nat,i < 3/\D2 (.lst o [a,b,d]) (.p x)=some (.p (.int (i:Nat))):=by
 obtain⟨a,rfl⟩:=E7 ha;obtain⟨b,rfl⟩:=E7 hb;obtain⟨d,rfl⟩:=E7 hd;obtain⟨s,rfl,hs⟩:∃s,x= .str s/\s∈[a,b,d]:=by rcases hx with rfl|rfl<;>exact⟨_,rfl,by simp⟩
 obtain⟨i,hi,e⟩:=cm hs;refine⟨i,hi,?_⟩;show((([a,b,d]:List Str).idxOf? s).map λ(k:Nat)=>C.p (.int (k:Int)))=_;rw[e];rfl
def Pi(ps:List P):Prop:=ps.length=3/\∀x∈ps,∃b,x= .bl b
theorem Wf{ps:List P}(h:Pi ps)(hj:j < 3):∃b,A2 (.lst false ps) (.p (.int (j:Nat)))=some (bC b):=by
 obtain⟨x,hx,e⟩:=GN false (ps:=ps) (k:=j) (by rw[h.1];exact hj);obtain⟨b,rfl⟩:=h.2 x hx;exact⟨b,e⟩
theorem XF{ps:List P}(h:Pi ps)(i:Nat):Pi (ps.set i (.bl true)):=⟨by rw[length_set];exact h.1,λx hx=>by
 rcases List.mem_or_eq_of_mem_set hx with hx|rfl
 .exact h.2 x hx
 .exact⟨true,rfl⟩⟩
section
variable (k:Nat)(c:Int)(n0 n1 n2 a b d:P)(l1 l2:List P)
abbrev Bz:List P:=[Mx a [],Mx b l1,Mx d l2]
variable{j:Nat}
theorem RX(h1:∀x∈l1,x=a\/x=b)(h2:∀x∈l2,x=a\/x=b)(hj:j < 3):∃n l,(n∈[a,b,d]/\∀x∈l,x=a\/x=b)/\[a,b,d].take (j + 1)=[a,b,d].take j++[n]/\A2 (.lst false [a,b,d]) (.p (.int (j:Nat)))=some (.p n)/\A2 (.lst false (Bz a b d l1 l2)) (.p (.int (j:Nat)))=some (.p (Mx n l)):=by
 rcases(by lia:j=0\/j=1\/j=2)with rfl|rfl|rfl
 .exact⟨a,[],⟨by simp,by simp⟩,rfl,rfl,rfl⟩
 .exact⟨b,l1,⟨by simp,h1⟩,rfl,rfl,rfl⟩
 .exact⟨d,l2,⟨by simp,h2⟩,rfl,rfl,rfl⟩
noncomputable abbrev Zr:Env->Fl:=execs (~~~k) AW [(.ifs (.A1 A2 {7} {6}) [(.Bu 7 false (G1 λc x k=>Ei c k x) [(.cst (.p (.bl true))),(.A1 D2 {2} {8})])] [])]
noncomputable abbrev Zp:Env->Fl:=execs (~~~k) AW [(.Be (.nm 8) Ar (.A1 A2 (.A1 A2 {3} {6}) {2,0}) [(.ifs (.A1 A2 {7} {6}) [(.Bu 7 false (G1 λc x k=>Ei c k x) [(.cst (.p (.bl true))),(.A1 D2 {2} {8})])] [])])]
noncomputable abbrev Zq:Env->Fl:=execs (~~~k) AW [(.ifs (.A1 A2 {7} {6}) [(.asg (.nm 10) (.call 35 [(.A1 (A3 A7) {0} (.A1 A5 {5} {2,0})),(.A1 (A3 Ab) {5} {3,0}),(.A1 A2 {2} {6}),(.A1 A2 (.A1 A2 {3} {6}) {2,0}),{2}])),(.Bu 4 true (BY AL) [(.tup [{"house"},(.A1 A2 {2} {6}),{9},{10}])])] [])]
variable {a b d l1 l2}(ha:A4 a=true)(hb:A4 b=true)(hd:A4 d=true)(h1:∀x∈l1,x=a\/x=b)(h2:∀x∈l2,x=a\/x=b)
include ha hb hd h1 h2
theorem Sn{l:List P}(hl:∀x∈l,x=a\/x=b)(hj:j < 3)(p q r s t u v:Option C){ps:List P}(hp:Pi ps)(y:Option C):∃ps' y',Pi ps'/\forL (.nm 8) (Zr k) l [p,q,sL false [a,b,d],r,s,t,sI (j:Nat),sL true ps,y,u,v]= .nx [p,q,sL false [a,b,d],r,s,t,sI (j:Nat),sL true ps',y',u,v]:=by
 obtain⟨ρ,⟨ps',y',g,rfl⟩,e⟩:=JA (i:=8) (b:=Zr k) (xs:=l) (ρ:=[p,q,sL false [a,b,d],r,s,t,sI (j:Nat),sL true ps,y,u,v]) (Q:=λρ=>∃(ps:List P) (y:Option C),Pi ps/\ρ=[p,q,sL false [a,b,d],r,s,t,sI (j:Nat),sL true ps,y,u,v]) ⟨ps,y,hp,rfl⟩ (by
  rintro x hx _ ⟨ps,y,hp,rfl⟩
  rw[AA,AA,AA,AA,AA,AA,AA,AA,HH];obtain⟨w,ew⟩:=Wf hp hj;obtain⟨i,hi,ei⟩:=Rj false ha hb hd (hl x hx);unfold Zr;cases w with
  |false=>
    refine⟨_,⟨ps,sP x,hp,rfl⟩,?_⟩;simp! [ew]
  |true=>
    refine⟨_,⟨ps.set i (.bl true),sP x,XF hp i,rfl⟩,?_⟩
    simp! [ew,ei,N1 ps i (.bl true) (by rw[hp.1];exact hi),Option.any_some,cond_false])
 exact⟨ps',y',g,e⟩
theorem Sk(p q s t u v:Option C){ps:List P}(hp:Pi ps)(y z:Option C):∃ps' y' z',Pi ps'/\forL (.nm 6) (Zp k) [.int 2,.int 1,.int 0] [p,q,sL false [a,b,d],sL false (Bz a b d l1 l2),s,t,z,sL true ps,y,u,v]= .nx [p,q,sL false [a,b,d],sL false (Bz a b d l1 l2),s,t,z',sL true ps',y',u,v]:=by
 obtain⟨ρ,⟨ps',y',z',g,rfl⟩,e⟩:=JA (i:=6) (b:=Zp k) (xs:=[.int 2,.int 1,.int 0]) (ρ:=[p,q,sL false [a,b,d],sL false (Bz a b d l1 l2),s,t,z,sL true ps,y,u,v]) (Q:=λρ=>∃(ps:List P) (y z:Option C),Pi ps/\ρ=[p,q,sL false [a,b,d],sL false (Bz a b d l1 l2),s,t,z,sL true ps,y,u,v]) ⟨ps,y,z,hp,rfl⟩ (by
  rintro x hx _ ⟨ps,y,z,hp,rfl⟩
  rw[AA,AA,AA,AA,AA,AA,HH]
  obtain⟨j,hj,rfl⟩:∃j:Nat,j < 3/\x= .int (j:Nat):=by
   simp only[mem_cons,not_mem_nil,or_false]at hx;rcases hx with rfl|rfl|rfl
   .exact⟨2,by decide,rfl⟩
   .exact⟨1,by decide,rfl⟩
   .exact⟨0,by decide,rfl⟩
  obtain⟨n,l,⟨hn,hl⟩,_,en,el⟩:=RX a b d l1 l2 h1 h2 hj;obtain⟨ps',y',g,e⟩:=Sn k ha hb hd h1 h2 hl hj p q (some (.lst false (Bz a b d l1 l2))) s t u v hp y;refine⟨_,⟨ps',y',sI j,g,rfl⟩,?_⟩;unfold Zp;rw[Ak,BN _ _ _ _ _ _ _ rfl];simp! [el,show A2 (.p (Mx n l)) (.p (.int 2))=some (.p (.tup l))from rfl,show Ar (.p (.tup l))=some l from rfl];refine(congrArg (λz:Fl=>(z.fin id).then _) e).trans ?_
  rfl)
 exact⟨ps',y',z',g,e⟩
theorem Km{l:List P}(hl:∀x∈l,x=a\/x=b):P.AO l<=80:=by
 induction l with
 |nil=>rw[P.AO];exact Nat.zero_le _
 |cons p l ih=>
   rw[P.AO];have i:=ih λx hx=>hl x (.tail _ hx)
   have:p.depth<=80:=by
    obtain⟨z,e⟩:∃z,p= .str z:=by rcases hl p (.head _)with h|h<;>rw[h]<;>exact E7 (by assumption)
    rw[e];exact Nat.zero_le _
   lia
theorem Sl(q:Option C)(hh:Nat)(hc:hh < 4){ws:List P}(hw:ws.length<=100){ps:List P}(hp:Pi ps){nm:P}(hn:A4 nm=true)(x y z:Option C):∃vs x' z',((∀x∈vs,Hg [a,b,d] x)/\(vs.map Dc).Sublist [a,b,d])/\forL (.nm 6) (Zq (k + 1)) ((List.range 3).map λi=>P.int ((i:Nat):Int)) [sI c,q,sL false [a,b,d],sL false (Bz a b d l1 l2),sL true ws,sI (hh:Nat),x,sL true ps,y,sP nm,z]= .nx [sI c,q,sL false [a,b,d],sL false (Bz a b d l1 l2),sL true (ws++vs),sI (hh:Nat),x',sL true ps,y,sP nm,z']:=by
 obtain⟨ρ,⟨vs,x',z',g1,g2,rfl⟩,e⟩:=C5 (i:=6) (b:=Zq (k + 1)) (m:=3) (ρ:=[sI c,q,sL false [a,b,d],sL false (Bz a b d l1 l2),sL true ws,sI (hh:Nat),x,sL true ps,y,sP nm,z]) (λn ρ=>∃(vs:List P) (x z:Option C),(∀x∈vs,Hg [a,b,d] x)/\(vs.map Dc).Sublist ([a,b,d].take n)/\ρ=[sI c,q,sL false [a,b,d],sL false (Bz a b d l1 l2),sL true (ws++vs),sI (hh:Nat),x,sL true ps,y,sP nm,z]) ⟨[],x,z,λx hx=>(by cases hx),(by simp),(by simp)⟩ (by
  rintro j hj _ ⟨vs,x,z,g1,g2,rfl⟩
  rw[AA,AA,AA,AA,AA,AA,HH];obtain⟨w,ew⟩:=Wf hp hj;obtain⟨n,l,⟨hn1,hl⟩,et,en,el⟩:=RX a b d l1 l2 h1 h2 hj;have lv:=g2.length_le;rw[lM]at lv;have lv3:vs.length<=3:=Nat.le_trans lv (by simp;lia);unfold Zq;cases w with
  |false=>
    refine⟨_,⟨vs,sI j,z,g1,?_,rfl⟩,?_⟩
    .rw[et];exact g2.trans (List.sublist_append_left _ _)
    .simp! [ew]
  |true=>
    obtain⟨m,hm,em⟩:∃m:Nat,m<=3/\(hh:Int)%3=(m:Nat):=⟨((hh:Int)%3).toNat,by lia,by lia⟩;obtain⟨xs,⟨hx1,hx2⟩,ex⟩:=QG k (c/((hh:Int)+2)) m hm n a b d l (Km ha hb hd h1 h2 hl);refine⟨_,⟨vs++[.tup [.str "house",n,nm,.tup xs]],sI j,sP (.tup xs),Du g1 ⟨n,nm,xs,rfl,hn1,hn,by lia,λy hy=>?_⟩,?_,rfl⟩,?_⟩
    .rcases hx2 y hy with rfl|rfl|rfl
     .exact .inl hn1
     .exact .inl (by simp)
     .exact .inr rfl
    .rw[et,map_append];exact g2.append (List.Sublist.refl _)
    .have ap:=Bf (ws++vs) (.tup [.str "house",n,nm,.tup xs]) (SN (by rw[lA];lia))
     simp! [ew,add_int,fd c ((hh:Int)+2) ⟨by lia,by lia⟩,md (hh:Int) 3,em,en,el,show A2 (.p (Mx n l)) (.p (.int 2))=some (.p (.tup l))from rfl,ex,show ∀p q r s:P,([p,q,r,s]:List P).length<=1000 from λp q r s=>by simp,ap,Option.any_some,C.Ew,cond_true,append_assoc])
 refine⟨vs,x',z',⟨g1,g2⟩,e⟩
end
variable{z:C}
theorem AV{f:C->C->Option C}(e1:(den cf a).v ρ= .ok x)(e2:(den cf b).v ρ= .ok y)(e3:f x y=some z):(den cf (.A1 f a b)).v ρ= .ok z:=by
 rw[Pj,e1,Co,e2,Co,e3];rfl
theorem Qg(k:Nat)(c Z:Int)(hh i:Nat)(hc:hh < 4)(hi:i < 3):k|||(.A1 Hq (.A1 (A3 Ab) (.A1 (A3 A7) {2} (.A1 A5 (.A1 A5 (.A1 mulC {7,0} {3}) (.A1 mulC {1} {1})) {1,0})) {3,0}) (.cst (.p (.int Z))))&&&[none,sI (i:Nat),sI c,sI (hh:Nat)]= .ok (bC (decide (Z < c / (7 * (hh:Int) + (i:Int) * (i:Int) + 1) % 3))):=by
 have q0:(0:Int)<=(i:Int)*(i:Int):=Int.mul_nonneg (by lia) (by lia);have q1:(i:Int)*(i:Int)<=3*3:=Int.mul_le_mul (by lia) (by lia) (by lia) (by lia);exact AV (AV (AV rfl (AV (AV (AV rfl rfl (D5 7 (hh:Int) (by decide))) (AV rfl rfl (D5 (i:Int) (i:Int) ⟨by lia,by lia⟩)) (add_int _ _)) rfl (add_int _ _)) (fd c _ ⟨by lia,by lia⟩)) rfl (md _ 3)) rfl (gt_int _ _)
theorem Ol(k:Nat)(c:Int)(hh:Nat)(hc:hh < 4):∃ps,Pi ps/\Bj (.nm 1) (λ_=>.ok true) (den (~~~k) (.A1 Hq (.A1 (A3 Ab) (.A1 (A3 A7) {2} (.A1 A5 (.A1 A5 (.A1 mulC {7,0} {3}) (.A1 mulC {1} {1})) {1,0})) {3,0}) {0,0})).v [none,none,sI c,sI (hh:Nat)] ((List.range 3).map λi=>P.int ((i:Nat):Int))= .ok ps:=by
 obtain⟨ps,⟨hp,hk⟩,e1⟩:=Ec (cf:= ~~~k) (e:=(.A1 Hq (.A1 (A3 Ab) (.A1 (A3 A7) {2} (.A1 A5 (.A1 A5 (.A1 mulC {7,0} {3}) (.A1 mulC {1} {1})) {1,0})) {3,0}) {0,0})) (β:=[none,none,sI c,sI (hh:Nat)]) (i:=1) (Q:=λx=>∃b,x= .bl b) (xs:=(List.range 3).map λi=>P.int ((i:Nat):Int)) (λx hx=>by
  obtain⟨i,hi,rfl⟩:=mem_map.mp hx;rw[mem_range]at hi
  exact⟨_,⟨_,rfl⟩,Qg k c 0 hh i hc hi⟩)
 exact⟨ps,⟨by rw[hp];rfl,hk⟩,e1⟩
section
variable (k:Nat)(c:Int)
noncomputable abbrev gi:Env->Fl:=execs (~~~k) AW [(.asg (.nm 7) (.comp (.nm 1) AM {3,0} [] (.A1 Hq (.A1 (A3 Ab) (.A1 (A3 A7) {2} (.A1 A5 (.A1 A5 (.A1 mulC {7,0} {3}) (.A1 mulC {1} {1})) {1,0})) {3,0}) {0,0}) [none,none,some 0,some 5])),(.Be (.nm 6) Ar (.lst [{2,0},{1,0},{0,0}]) [(.Be (.nm 8) Ar (.A1 A2 (.A1 A2 {3} {6}) {2,0}) [(.ifs (.A1 A2 {7} {6}) [(.Bu 7 false (G1 λc x k=>Ei c k x) [(.cst (.p (.bl true))),(.A1 D2 {2} {8})])] [])])]),(.asg (.nm 9) (.A1 A2 (.A1 A5 {1} (.lst [{"whole"}])) {5})),(.Be (.nm 6) AM {3,0} [(.ifs (.A1 A2 {7} {6}) [(.asg (.nm 10) (.call 35 [(.A1 (A3 A7) {0} (.A1 A5 {5} {2,0})),(.A1 (A3 Ab) {5} {3,0}),(.A1 A2 {2} {6}),(.A1 A2 (.A1 A2 {3} {6}) {2,0}),{2}])),(.Bu 4 true (BY AL) [(.tup [{"house"},(.A1 A2 {2} {6}),{9},{10}])])] [])])]
variable {a b d n0 n1 n2:P}{l1 l2:List P}(ha:A4 a=true)(hb:A4 b=true)(hd:A4 d=true)(h1:∀x∈l1,x=a\/x=b)(h2:∀x∈l2,x=a\/x=b)(m0:A4 n0=true)(m1:A4 n1=true)(m2:A4 n2=true)
include ha hb hd h1 h2 m0 m1 m2
theorem Zs(hh:Nat)(hc:hh < 4){ws:List P}(hw:ws.length<=100)(p q r s t:Option C):∃vs p' q' r' s' t',((∀x∈vs,Hg [a,b,d] x)/\(vs.map Dc).Sublist [a,b,d])/\gi (k + 1) [sI c,sL false [n0,n1,n2],sL false [a,b,d],sL false (Bz a b d l1 l2),sL true ws,sI (hh:Nat),p,q,r,s,t]= .nx [sI c,sL false [n0,n1,n2],sL false [a,b,d],sL false (Bz a b d l1 l2),sL true (ws++vs),sI (hh:Nat),p',q',r',s',t']:=by
 obtain⟨ps,hP,e1⟩:=Ol (k+1) c hh hc;obtain⟨ps',y',z',hP',e2⟩:=Sk (k+1) ha hb hd h1 h2 (some (.p (.int c))) (some (.lst false [n0,n1,n2])) (some (.lst true ws)) (some (.p (.int (hh:Nat)))) s t hP r p
 obtain⟨nm,hn,en⟩:∃n,A4 n=true/\A2 (.lst true [n0,n1,n2,.str "whole"]) (.p (.int (hh:Nat)))=some (.p n):=by
  obtain⟨n,hn,en⟩:=GN true (ps:=[n0,n1,n2,.str "whole"]) (k:=hh) hc;refine⟨n,?_,en⟩;simp only[mem_cons,not_mem_nil,or_false]at hn;rcases hn with rfl|rfl|rfl|rfl<;>first|assumption|kernel_rfl
 obtain⟨vs,x',w',hv,e3⟩:=Sl k c ha hb hd h1 h2 (some (.lst false [n0,n1,n2])) hh hc hw hP' hn z' y' t;refine⟨vs,x',sL true ps',y',sP nm,w',hv,?_⟩;have e9:AM (.p (.int 3))=some ((List.range 3).map λi=>P.int ((i:Nat):Int)):=Bn 3 (by decide);have lr:((List.range 3).map λi=>P.int ((i:Nat):Int)).length<=big:=by decide
 have eb:AE [none,none,some 0,some 5] [sI c,sL false [n0,n1,n2],sL false [a,b,d],sL false (Bz a b d l1 l2),sL true ws,sI (hh:Nat),p,q,r,s,t]=[none,none,sI c,sI (hh:Nat)]:=rfl;have al:A5 (.lst false [n0,n1,n2]) (.lst true [.str "whole"])=some (.lst true [n0,n1,n2,.str "whole"]):=C6 false true [n0,n1,n2] [.str "whole"] (by simp;decide);unfold gi;rw[Ak]
 have q1:(k + 1)^^^(.asg (.nm 7) (.comp (.nm 1) AM {3,0} [] (.A1 Hq (.A1 (A3 Ab) (.A1 (A3 A7) {2} (.A1 A5 (.A1 A5 (.A1 mulC {7,0} {3}) (.A1 mulC {1} {1})) {1,0})) {3,0}) {0,0}) [none,none,some 0,some 5]))&&&[sI c,sL false [n0,n1,n2],sL false [a,b,d],sL false (Bz a b d l1 l2),sL true ws,sI (hh:Nat),p,q,r,s,t]= .nx [sI c,sL false [n0,n1,n2],sL false [a,b,d],sL false (Bz a b d l1 l2),sL true ws,sI (hh:Nat),p,sL true ps,r,s,t]:=by
  simp! [e9,lr,eb,e1]
 rw[q1,Bc,Ak,BN _ _ _ _ _ _ _ rfl];simp! [show ∀p q r:P,([p,q,r]:List P).length<=1000 from λp q r=>by simp,show ∀l:List P,Ar (.lst true l)=some l from λl=>rfl];refine(congrArg (λz:Fl=>(z.fin id).then _) e2).trans ?_;rw[Hf,Bc];simp! [id_eq,show ∀p:P,([p]:List P).length<=1000 from λp=>by simp,al,en];rw[BN _ _ _ _ _ _ _ rfl];simp! [e9];refine(congrArg (λz:Fl=>(z.fin id).then _) e3).trans ?_;rfl
theorem Jv(hu:[a,b,d].Nodup):∃ws,(ws.length<=12/\(∀x∈ws,Hg [a,b,d] x)/\∀n,(ws.map Dc).count n<=4)/\~~~(k + 2) 36 [.p (.int c),.lst false [n0,n1,n2],.lst false [a,b,d],.lst false (Bz a b d l1 l2)]= .ok (.lst true ws):=by
 obtain⟨ρ,⟨ws,u',v',w',x',y',z',g1,g2,g3,rfl⟩,e⟩:=C5 (i:=5) (b:=gi (k + 1)) (m:=4) (ρ:=[sI c,sL false [n0,n1,n2],sL false [a,b,d],sL false (Bz a b d l1 l2),sL true [],none,none,none,none,none,none]) (λn ρ=>∃(ws:List P) (u v w x y z:Option C),ws.length<=3 * n/\(∀x∈ws,Hg [a,b,d] x)/\(∀q,(ws.map Dc).count q<=n)/\ρ=[sI c,sL false [n0,n1,n2],sL false [a,b,d],sL false (Bz a b d l1 l2),sL true ws,u,v,w,x,y,z]) ⟨[],none,none,none,none,none,none,lR,λx hx=>(by cases hx),λq=>lR,rfl⟩ (by
  rintro j hj _ ⟨ws,u,v,w,x,y,z,g1,g2,g3,rfl⟩
  rw[AA,AA,AA,AA,AA,HH];obtain⟨vs,p',q',r',s',t',⟨i1,i2⟩,e⟩:=Zs k c ha hb hd h1 h2 m0 m1 m2 j hj (ws:=ws) (by lia) v w x y z;refine⟨_,⟨ws++vs,sI j,p',q',r',s',t',?_,λx hx=>?_,λq=>?_,rfl⟩,e⟩
  .have:=i2.length_le;rw[lM]at this;rw[lA];have h3:[a,b,d].length=3:=rfl
   lia
  .rcases mZ hx with hx|hx
   .exact g2 x hx
   .exact i1 x hx
  .rw[map_append,List.count_append];have c1:=i2.count_le q;have c2:[a,b,d].count q<=1:=List.nodup_iff_count.mp hu q;have:=g3 q
   lia)
 refine⟨ws,⟨by lia,g2,g3⟩,call_of (r:=.ret (.lst true ws)) kK rfl ?_⟩;show execs _ _ gQ [sI c,sL false [n0,n1,n2],sL false [a,b,d],sL false (Bz a b d l1 l2),none,none,none,none,none,none,none]=_;unfold gQ;simp! [show([]:List P).length<=1000 from by simp];rw[BN _ _ _ _ _ _ _ rfl];simp! [show AM (.p (.int 4))=some ((List.range 4).map λi=>P.int ((i:Nat):Int))from Bn 4 (by decide)];refine(congrArg (λz:Fl=>(z.fin id).then _) e).trans ?_;rw[Hf,Bc];rfl
end
def HG(n:Nat):List P:=([.str "u",.str "v",.str "w"]:List P).take n
theorem Pm(h:n<=3):(∀x∈HG n,A4 x=true)/\(HG n).length<=3/\Cn (.tup (HG n))=true:=by
 have:((HG n).all A4 && decide ((HG n).length<=3) && Cn (.tup (HG n)))=true:=by
  rcases(by lia:n=0\/n=1\/n=2\/n=3)with rfl|rfl|rfl|rfl<;>kernel_rfl
 simp only[bA,decide_eq_true_eq,all_eq_true]at this;exact⟨this.1.1,this.1.2,this.2⟩
theorem Xg(h:n<=3):DC (.p (.tup [.str "u",.str "v",.str "w"])) (.p (.int (n:Nat)))=some (.p (.tup (HG n))):=IW _ n h
theorem RK(h:Eg x):El 5 x:=C0 (Z2 h) (by decide)
theorem Ik{l:List P}(h:∀x∈l,A4 x=true):El 5 (.tup l):=C0 (Ax (d:=0) λx hx=>Az (h x hx) 0) (by decide)
theorem Ul{n x:P}{l:List P}(hn:A4 n=true)(hl:∀x∈l,A4 x=true)(hu:Cn (.tup l)=true)(hx:Eg x):Rg (.tup [.str "once",n,.tup l,x]):=⟨Yd hn hu (JC hx),C0 (Ax (Ad (Bv (by kernel_rfl) 5) (Ad (Az hn 5) (Ad (Ik hl) (Ad (RK hx) CP))))) (by decide)⟩
theorem Ve{x:P}{l:List P}(ha:A4 a=true)(hb:A4 b=true)(hd:A4 d=true)(hl:∀x∈l,A4 x=true)(hu:Cn (.tup l)=true)(hx:Eg x):Rg (.tup [.str "does",a,b,d,.tup l,x]):=⟨Z3 ha hb hd hu (JC hx),C0 (Ax (Ad (Bv (by kernel_rfl) 5) (Ad (Az ha 5) (Ad (Az hb 5) (Ad (Az hd 5) (Ad (Ik hl) (Ad (RK hx) CP))))))) (by decide)⟩
theorem Pz(hs:List P)(hj:j < hs.length)(n:P):((hs.take (j + 1)).map Dc).count n=((hs.take j).map Dc).count n + if Dc hs[j]=n then 1 else 0:=by
 rw[take_add_one,List.getElem?_eq_getElem hj,map_append,List.count_append];simp[List.count_singleton]
section
variable (k:Nat)(c:Int)
noncomputable abbrev Zn:Env->Fl:=execs (~~~k) AW [(.asg (.nm 15) (.A1 A2 {2} {14})),(.ifs (.and (.A1 Bq (.A1 A2 {15} {1,0}) {9}) (.or (.not {13}) (.A1 Bq (.A1 (A3 Ab) (.A1 (A3 A7) {0} (.A1 A5 {14} {2,0})) {2,0}) {1,0}))) [(.asg (.nm 16) (.call 31 [(.A1 (A3 A7) {0} (.A1 A5 {14} {3,0})),{12},{3},{5}])),(.Bu 4 true (BY AL) [(.tup [{"does"},{9},(.A1 A2 {15} {2,0}),{8},{12},{16}])])] [])]
variable {cs hs fs ns:List P}(hcs:∀x∈cs,A4 x=true)(hh:∀x∈hs,Hg cs x)(hl:hs.length<=12)(hf:∀x∈fs,Bi x=true)(hfl:fs.length=6)(hns:∀x∈ns,A4 x=true)(hnl:ns.length<=3)(hc:0<=c)
include hcs hh hl hf hfl hns hnl hc
theorem Sj{n:Nat}(hn:n<=3)(dr q6 q7 q10 q11:Option C){dd cl:P}(hd:A4 dd=true)(Cw:A4 cl=true)(on:Bool){ws:List P}(hw:ws.length<=100)(x y z:Option C):∃vs x' y' z',(vs.length<=(hs.map Dc).count cl/\∀x∈vs,Rg x)/\forL (.nm 14) (Zn (k + 1)) ((List.range hs.length).map λi=>P.int ((i:Nat):Int)) [sI c,dr,sL false hs,sL false fs,sL true ws,sL true ns,q6,q7,sP dd,sP cl,q10,q11,sP (.tup (HG n)),sP (.bl on),x,y,z]= .nx [sI c,dr,sL false hs,sL false fs,sL true (ws++vs),sL true ns,q6,q7,sP dd,sP cl,q10,q11,sP (.tup (HG n)),sP (.bl on),x',y',z']:=by
 obtain⟨u1,u2,u3⟩:=Pm hn
 obtain⟨ρ,⟨vs,x',y',z',g1,g2,rfl⟩,e⟩:=C5 (i:=14) (b:=Zn (k + 1)) (m:=hs.length) (ρ:=[sI c,dr,sL false hs,sL false fs,sL true ws,sL true ns,q6,q7,sP dd,sP cl,q10,q11,sP (.tup (HG n)),sP (.bl on),x,y,z]) (λj ρ=>∃(vs:List P) (x y z:Option C),vs.length<=((hs.take j).map Dc).count cl/\(∀x∈vs,Rg x)/\ρ=[sI c,dr,sL false hs,sL false fs,sL true (ws++vs),sL true ns,q6,q7,sP dd,sP cl,q10,q11,sP (.tup (HG n)),sP (.bl on),x,y,z]) ⟨[],x,y,z,Nat.zero_le _,λx hx=>(by cases hx),by rw[append_nil]⟩ (by
  rintro j hj _ ⟨vs,x,y,z,g1,g2,rfl⟩
  rw[AA,AA,AA,AA,AA,AA,AA,AA,AA,AA,AA,AA,AA,AA,HH];have et:=Pz hs hj cl;have eh:A2 (.lst false hs) (.p (.int (j:Nat)))=some (.p hs[j]):=DW false (List.getElem?_eq_getElem hj);obtain⟨m,q,l,em,hm,hq,hl3,_⟩:=hh hs[j] (getElem_mem hj);rw[em]at et eh;rw[show Dc (.tup [.str "house",m,q,.tup l])=m from rfl]at et;obtain⟨sm,esm⟩:=E7 (hcs m hm);obtain⟨sc,esc⟩:=E7 Cw
  have eq1:Bq (.p m) (.p cl)=some (bC (decide (m=cl))):=by
   rw[esm,esc,eq_str]
   congr 3
   simp
  have s1:A2 (.p (.tup [.str "house",m,q,.tup l])) (.p (.int 1))=some (.p m):=rfl;have s2:A2 (.p (.tup [.str "house",m,q,.tup l])) (.p (.int 2))=some (.p q):=rfl;have bl:((hs.take j).map Dc).count cl<=12:=Nat.le_trans List.count_le_length (by rw[lM,length_take];lia);unfold Zn;have hcc:∀j:Nat,(j:Int)<=12->(0:Int) < (j:Int)+2/\(j:Int)+2 < 1073741824:=λj h=>⟨by lia,by lia⟩
  cases hb:(decide (m=cl) && (!on || decide (c/((j:Int)+2)%2=1)))with
  |false=>
    refine⟨_,⟨vs,sI j,sP (.tup [.str "house",m,q,.tup l]),z,by rw[et];lia,g2,rfl⟩,?_⟩;simp! [eh,s1,eq1,add_int,fd c ((j:Int)+2) (hcc j (by lia)),md (c/((j:Int)+2)) 2,eq_int,hb]
  |true=>
    obtain⟨e,he,ee⟩:=FL k (c/((j:Int)+3)) (Int.ediv_nonneg hc (by lia)) u1 hf hns u2 (by lia) (by lia);simp only[bA,decide_eq_true_eq]at hb;refine⟨_,⟨vs++[.tup [.str "does",cl,q,dd,.tup (HG n),e]],sI j,sP (.tup [.str "house",m,q,.tup l]),sP e,by rw[et,iP hb.1,lA,lS];lia,Du g2 (Ve Cw hq hd u1 u3 he),rfl⟩,?_⟩;have hb':(decide (m=cl) && (!on || decide (c/((j:Int)+2)%2=1)))=true:=by rw[dZ hb.1,hb.2];rfl
    have ap:=Bf (ws++vs) (.tup [.str "does",cl,q,dd,.tup (HG n),e]) (SN (by rw[lA];lia))
    simp! [eh,s1,s2,eq1,add_int,fd c ((j:Int)+2) (hcc j (by lia)),md (c/((j:Int)+2)) 2,eq_int,hb',fd c ((j:Int)+3) ⟨by lia,by lia⟩,ee,show ∀p q r s t u:P,([p,q,r,s,t,u]:List P).length<=1000 from λp q r s t u=>by simp,ap,Option.any_some,C.Ew,cond_true,append_assoc])
 refine⟨vs,x',y',z',⟨?_,g2⟩,e⟩;rwa[List.take_length]at g1
end
section
variable (k:Nat)(c:Int)
noncomputable abbrev dR:Env->Fl:=execs (~~~k) AW [(.asg (.tup [7,8,9,10,11]) (.A1 A2 {1} {6})),(.asg (.nm 12) (.A1 DC (.tup [{"u"},{"v"},{"w"}]) (.Ai Av {10}))),(.asg (.nm 13) (.A1 Bq (.A1 (A3 Ab) (.A1 (A3 A7) {0} (.A1 A5 {6} {1,0})) {2,0}) {1,0})),(.ifs {13} [(.Bu 4 true (BY AL) [(.tup [{"once"},{8},{12},(.call 31 [(.A1 (A3 A7) {0} {3,0}),{12},{3},{5}])])])] []),(.Be (.nm 14) AM (.Ai Av {2}) [(.asg (.nm 15) (.A1 A2 {2} {14})),(.ifs (.and (.A1 Bq (.A1 A2 {15} {1,0}) {9}) (.or (.not {13}) (.A1 Bq (.A1 (A3 Ab) (.A1 (A3 A7) {0} (.A1 A5 {14} {2,0})) {2,0}) {1,0}))) [(.asg (.nm 16) (.call 31 [(.A1 (A3 A7) {0} (.A1 A5 {14} {3,0})),{12},{3},{5}])),(.Bu 4 true (BY AL) [(.tup [{"does"},{9},(.A1 A2 {15} {2,0}),{8},{12},{16}])])] [])])]
variable {cs ds hs fs:List P}(hcs:∀x∈cs,A4 x=true)(hds:∀x∈ds,Dg cs x)(hdl:ds.length<=3)(hh:∀x∈hs,Hg cs x)(hl:hs.length<=12)(hc4:∀n,(hs.map Dc).count n<=4)(hf:∀x∈fs,Bi x=true)(hfl:fs.length=6)(hc:0<=c)
include hcs hds hdl hh hl hc4 hf hfl hc
theorem Zo{ns:List P}(hns:∀x∈ns,A4 x=true)(hnl:ns.length<=3){j:Nat}(hj:j < ds.length){ws:List P}(hw:ws.length<=90)(q7 q8 q9 q10 q11 q12 q13 x y z:Option C):∃vs q7' q8' q9' q10' q11' q12' q13' x' y' z',(vs.length<=5/\∀x∈vs,Rg x)/\dR (k + 1) [sI c,sL false ds,sL false hs,sL false fs,sL true ws,sL true ns,sI (j:Nat),q7,q8,q9,q10,q11,q12,q13,x,y,z]= .nx [sI c,sL false ds,sL false hs,sL false fs,sL true (ws++vs),sL true ns,sI (j:Nat),q7',q8',q9',q10',q11',q12',q13',x',y',z']:=by
 have ed:A2 (.lst false ds) (.p (.int (j:Nat)))=some (.p ds[j]):=DW false (List.getElem?_eq_getElem hj);obtain⟨dd,cl,ps,r,em,hd,Cw,hp,_,_⟩:=hds ds[j] (getElem_mem hj);rw[em]at ed;obtain⟨u1,u2,u3⟩:=Pm hp;obtain⟨e,he,ee⟩:=FL k (c/3) (Int.ediv_nonneg hc (by decide)) u1 hf hns u2 (by lia) (by lia);generalize hon:decide (c/((j:Int)+1)%2=1)=on
 have main:∀(ws1:List P),ws1.length<=91->(k + 1)^^^(.ifs {13} [(.Bu 4 true (BY AL) [(.tup [{"once"},{8},{12},(.call 31 [(.A1 (A3 A7) {0} {3,0}),{12},{3},{5}])])])] [])&&&[sI c,sL false ds,sL false hs,sL false fs,sL true ws,sL true ns,sI (j:Nat),sP (.str "deed"),sP dd,sP cl,sP (.tup ps),sP r,sP (.tup (HG ps.length)),sP (.bl on),x,y,z]= .nx [sI c,sL false ds,sL false hs,sL false fs,sL true ws1,sL true ns,sI (j:Nat),sP (.str "deed"),sP dd,sP cl,sP (.tup ps),sP r,sP (.tup (HG ps.length)),sP (.bl on),x,y,z]->∃vs x' y' z',(vs.length<=4/\∀x∈vs,Rg x)/\dR (k + 1) [sI c,sL false ds,sL false hs,sL false fs,sL true ws,sL true ns,sI (j:Nat),q7,q8,q9,q10,q11,q12,q13,x,y,z]= .nx [sI c,sL false ds,sL false hs,sL false fs,sL true (ws1++vs),sL true ns,sI (j:Nat),sP (.str "deed"),sP dd,sP cl,sP (.tup ps),sP r,sP (.tup (HG ps.length)),sP (.bl on),x',y',z']:=by
  intro ws1 hw1 e1;obtain⟨vs,x',y',z',⟨g1,g2⟩,e2⟩:=Sj k c hcs hh hl hf hfl hns hnl hc hp (some (.lst false ds)) (some (.p (.int (j:Nat)))) (some (.p (.str "deed"))) (some (.p (.tup ps))) (some (.p r)) hd (hcs cl Cw) on (ws:=ws1) (by lia) x y z;refine⟨vs,x',y',z',⟨Nat.le_trans g1 (hc4 cl),g2⟩,?_⟩;unfold dR
  have s1:(k + 1)^^^(.asg (.tup [7,8,9,10,11]) (.A1 A2 {1} {6}))&&&[sI c,sL false ds,sL false hs,sL false fs,sL true ws,sL true ns,sI (j:Nat),q7,q8,q9,q10,q11,q12,q13,x,y,z]= .nx [sI c,sL false ds,sL false hs,sL false fs,sL true ws,sL true ns,sI (j:Nat),sP (.str "deed"),sP dd,sP cl,sP (.tup ps),sP r,q12,q13,x,y,z]:=by
   simp! [ed];rfl
  have s2:(k + 1)^^^(.asg (.nm 12) (.A1 DC (.tup [{"u"},{"v"},{"w"}]) (.Ai Av {10})))&&&[sI c,sL false ds,sL false hs,sL false fs,sL true ws,sL true ns,sI (j:Nat),sP (.str "deed"),sP dd,sP cl,sP (.tup ps),sP r,q12,q13,x,y,z]= .nx [sI c,sL false ds,sL false hs,sL false fs,sL true ws,sL true ns,sI (j:Nat),sP (.str "deed"),sP dd,sP cl,sP (.tup ps),sP r,sP (.tup (HG ps.length)),q13,x,y,z]:=by
   simp! [show ∀p q r:P,([p,q,r]:List P).length<=1000 from λp q r=>by simp,AG,Xg hp]
  have s3:(k + 1)^^^(.asg (.nm 13) (.A1 Bq (.A1 (A3 Ab) (.A1 (A3 A7) {0} (.A1 A5 {6} {1,0})) {2,0}) {1,0}))&&&[sI c,sL false ds,sL false hs,sL false fs,sL true ws,sL true ns,sI (j:Nat),sP (.str "deed"),sP dd,sP cl,sP (.tup ps),sP r,sP (.tup (HG ps.length)),q13,x,y,z]= .nx [sI c,sL false ds,sL false hs,sL false fs,sL true ws,sL true ns,sI (j:Nat),sP (.str "deed"),sP dd,sP cl,sP (.tup ps),sP r,sP (.tup (HG ps.length)),sP (.bl on),x,y,z]:=by
   simp! [add_int,fd c ((j:Int)+1) ⟨by lia,by lia⟩,md (c/((j:Int)+1)) 2,eq_int,hon]
  rw[Ak,s1,Bc,Ak,s2,Bc,Ak,s3,Bc,Ak,e1,Bc,Ak,BN _ _ _ _ _ _ _ rfl];simp! [AK,Bn hs.length (by lia)];refine(congrArg (λz:Fl=>(z.fin id).then _) e2).trans ?_;rfl
 cases on with
 |false=>
   obtain⟨vs,x',y',z',⟨g1,g2⟩,e2⟩:=main ws (by lia) (by simp! []);exact⟨vs,_,_,_,_,_,_,_,x',y',z',⟨by lia,g2⟩,e2⟩
 |true=>
   have ap:=Bf ws (.tup [.str "once",dd,.tup (HG ps.length),e]) (SN (by lia));obtain⟨vs,x',y',z',⟨g1,g2⟩,e2⟩:=main (ws++[.tup [.str "once",dd,.tup (HG ps.length),e]]) (by simp;lia) (by simp! [fd c 3,ee,show ∀p q r s:P,([p,q,r,s]:List P).length<=1000 from λp q r s=>by simp,ap,Option.any_some,C.Ew,cond_true]);refine⟨.tup [.str "once",dd,.tup (HG ps.length),e]::vs,_,_,_,_,_,_,_,x',y',z',⟨by rw[lC];lia,λx hx=>?_⟩,by rw[append_assoc]at e2;exact e2⟩;rcases mK hx with rfl|hx
   .exact Ul hd u1 u3 he
   .exact g2 x hx
theorem L8:∃ws,(ws.length<=15/\∀x∈ws,Rg x)/\~~~(k + 2) 37 [.p (.int c),.lst false ds,.lst false hs,.lst false fs]= .ok (.lst true ws):=by
 obtain⟨ns,⟨hn,hk⟩,e1⟩:=Ec (cf:= ~~~(k + 1)) (e:=(.A1 A2 {1} {1,0})) (β:=[none,none]) (i:=1) (Q:=λx=>A4 x=true) (xs:=ds) (λx hx=>by
  obtain⟨dd,cl,ps,r,rfl,hd,_⟩:=hds x hx
  exact⟨dd,hd,rfl⟩)
 obtain⟨ρ,⟨ws,q6,q7,q8,q9,q10,q11,q12,q13,x',y',z',g1,g2,rfl⟩,e⟩:=C5 (i:=6) (b:=dR (k + 1)) (m:=ds.length) (ρ:=[sI c,sL false ds,sL false hs,sL false fs,sL true [],sL true ns,none,none,none,none,none,none,none,none,none,none,none]) (λn ρ=>∃(ws:List P) (q6 q7 q8 q9 q10 q11 q12 q13 x y z:Option C),ws.length<=5 * n/\(∀x∈ws,Rg x)/\ρ=[sI c,sL false ds,sL false hs,sL false fs,sL true ws,sL true ns,q6,q7,q8,q9,q10,q11,q12,q13,x,y,z]) ⟨[],none,none,none,none,none,none,none,none,none,none,none,lR,λx hx=>(by cases hx),rfl⟩ (by
  rintro j hj _ ⟨ws,q6,q7,q8,q9,q10,q11,q12,q13,x,y,z,g1,g2,rfl⟩
  rw[AA,AA,AA,AA,AA,AA,HH];obtain⟨vs,q7',q8',q9',q10',q11',q12',q13',x',y',z',⟨i1,i2⟩,e⟩:=Zo k c hcs hds hdl hh hl hc4 hf hfl hc hk (by lia) hj (ws:=ws) (by lia) q7 q8 q9 q10 q11 q12 q13 x y z;refine⟨_,⟨ws++vs,_,q7',q8',q9',q10',q11',q12',q13',x',y',z',by rw[lA];lia,λx hx=>?_,rfl⟩,e⟩;rcases mZ hx with hx|hx
  .exact g2 x hx
  .exact i2 x hx)
 refine⟨ws,⟨by lia,g2⟩,call_of (r:=.ret (.lst true ws)) kJ rfl ?_⟩;show execs _ _ gO [sI c,sL false ds,sL false hs,sL false fs,none,none,none,none,none,none,none,none,none,none,none,none,none]=_;unfold gO;have lb:ds.length<=big:=by unfold big;lia
 have eb:AE [none,none] [sI c,sL false ds,sL false hs,sL false fs,sL true [],none,none,none,none,none,none,none,none,none,none,none,none]=[none,none]:=rfl;simp! [show([]:List P).length<=1000 from by simp,show Ar (.lst false ds)=some ds from rfl,lb,eb,e1];rw[BN _ _ _ _ _ _ _ rfl];simp! [AK,Bn ds.length (by lia)];refine(congrArg (λz:Fl=>(z.fin id).then _) e).trans ?_;rw[Hf,Bc];rfl
end
theorem Sx(h:Eg x):Rg (.tup [.str "ask",x]):=⟨Vx (JC h),C0 (Ax (Ad (Bv (by kernel_rfl) 5) (Ad (RK h) CP))) (by decide)⟩
theorem S4{n:P}{l:List P}(hn:A4 n=true)(hl:l.length<=2)(ha:∀x∈l,A4 x=true):Rg (Mx n l):=⟨Ze hn (by lia) ha,C0 (Zf hn ha) (by decide)⟩
theorem CI(k:Nat)(ns:List Int)(j:Nat)(hj:j<=100){i:Int}(hi:i=(j:Int)):∃m,S5 m/\~~~(k + 1) 27 [.lst false (ns.map .int),.p (.int i)]= .ok (.p (.int m)):=by
 subst hi;exact QM k j hj
theorem MS(o:Bool)(ps:List P)(a:Nat)(h:a<=ps.length):DC (.lst o ps) (.p (.int (a:Nat)))=some (.lst true (ps.take a)):=by
 show some (nw (cut ps none (some (a:Int))))=_;rw[RR ps a h]
theorem W4(o:Bool)(ps:List P)(a:Nat)(h:a<=ps.length):Fu (.lst o ps) (.p (.int (a:Nat)))=some (.lst true (ps.drop a)):=by
 show some (nw (cut ps (some (a:Int)) none))=_;rw[RQ ps a h]
section
variable (k:Nat)(ns:List Int){w:Int}(hw:0<=w){n0 n1 n2 a b d:P}(m0:A4 n0=true)(m1:A4 n1=true)(m2:A4 n2=true)(ha:A4 a=true)(hb:A4 b=true)(hd:A4 d=true)(hu:[a,b,d].Nodup){ds:List P}(hds:∀x∈ds,A4 x=true)(hdl:ds.length=3)
include hw m0 m1 m2 ha hb hd hu hds hdl
noncomputable abbrev fk:List S:=[(.asg (.nm 6) (.call 29 [(.call 27 [{0},{2,0}]),{6,0}])),(.asg (.nm 7) (.call 33 [(.call 27 [{0},{3,0}]),{4}])),(.asg (.nm 8) (.call 34 [(.call 27 [{0},{4,0}]),{5},{4},{3}])),(.asg (.nm 9) (.call 36 [(.call 27 [{0},{5,0}]),{3},{4},{7}])),(.asg (.nm 10) (.A1 A5 (.A1 A5 (.A1 A5 (.call 32 [(.call 27 [{0},{6,0}]),{3},{6}]) {7}) {8}) {9})),(.asg (.nm 10) (.A1 A5 {10} (.call 37 [(.call 27 [{0},{7,0}]),{8},{9},{6}]))),(.ifs (.A1 Bq (.A1 (A3 Ab) (.A1 (A3 A7) {1} {3,0}) {2,0}) {1,0}) [(.Bu 10 true (BY AL) [(.tup [{"ask"},(.call 31 [(.A1 (A3 A7) {1} {6,0}),(.tup []),{6},(.A1 DC {5} {1,0})])])])] []),(.ret (.call 38 [{10},(.call 27 [{0},{8,0}])]))]
theorem Lq(y:Option C):∃rs,(rs.length<=37/\∀x∈rs,Rg x)/\(k + 3)<<<fk>>>[sL false (ns.map .int),sI w,y,sL true [n0,n1,n2],sL true [a,b,d],sL true ds,none,none,none,none,none]= .ret (.lst true rs):=by
 obtain⟨c2,_,g2⟩:=CI (k+2) ns 2 (by decide) (i:=2) rfl;obtain⟨c3,_,g3⟩:=CI (k+2) ns 3 (by decide) (i:=3) rfl;obtain⟨c4,_,g4⟩:=CI (k+2) ns 4 (by decide) (i:=4) rfl;obtain⟨c5,_,g5⟩:=CI (k+2) ns 5 (by decide) (i:=5) rfl;obtain⟨c6,_,g6⟩:=CI (k+2) ns 6 (by decide) (i:=6) rfl;obtain⟨c7,⟨hc7,_⟩,g7⟩:=CI (k+2) ns 7 (by decide) (i:=7) rfl;obtain⟨c8,_,g8⟩:=CI (k+2) ns 8 (by decide) (i:=8) rfl;obtain⟨fs,⟨fl,ff⟩,e6⟩:=Rv (k+2) c2;obtain⟨l1,l2,⟨l1l,l1m⟩,⟨l2l,l2m⟩,e7⟩:=S0 (k+2) c3 (a:=a) (b:=b) (d:=d);replace e7: ~~~(k+3) 33 [.p (.int c3),.lst false [a,b,d]]= .ok (.lst true (Bz a b d l1 l2)):=e7
 have hcs:∀x∈[a,b,d],A4 x=true:=λx hx=>by
  simp only[mem_cons,not_mem_nil,or_false]at hx;rcases hx with rfl|rfl|rfl<;>assumption
 obtain⟨dr,⟨⟨_,drl⟩,drg⟩,e8⟩:=KW k c4 m0 m1 m2 hds hdl (cs:=[a,b,d]) rfl;obtain⟨hr,⟨hrl,hrg,hr4⟩,e9⟩:=Jv (k+1) c5 ha hb hd l1m l2m m0 m1 m2 hu;obtain⟨kr,⟨krl,krg⟩,e10⟩:=Ku k c6 fs m0 m1 m2 ff fl;obtain⟨br,⟨brl,brg⟩,e11⟩:=L8 (k+1) c7 hcs drg drl hrg hrl hr4 ff fl hc7;obtain⟨x,hx,e12⟩:=FL (k+2) (w/6) (Int.ediv_nonneg hw (by decide)) (vs:=[]) (fs:=fs) (ds:=ds.take 1) (λx hx=>by cases hx) ff (λx hx=>hds x (mem_of_mem_take hx)) (by simp) (by lia) (by simp;lia) true
 have cr:∀x∈Bz a b d l1 l2,Rg x:=λx hx=>by
  simp only[mem_cons,not_mem_nil,or_false]at hx;rcases hx with rfl|rfl|rfl
  .exact S4 ha (by simp) (by simp)
  .exact S4 hb l1l λx hx=>by rcases l1m x hx with rfl|rfl<;>assumption
  .exact S4 hd l2l λx hx=>by rcases l2m x hx with rfl|rfl<;>assumption
 have crl:(Bz a b d l1 l2).length=3:=rfl;generalize hcr:Bz a b d l1 l2=crs at *;have a1:=C6 true false kr crs (by rw[lA];unfold big;lia);have a2:=C6 true false (kr++crs) dr (by rw[lA,lA];unfold big;lia);have a3:=C6 true false (kr++crs++dr) hr (by rw[lA,lA,lA];unfold big;lia);have a4:=C6 false true (kr++crs++dr++hr) br (by rw[lA,lA,lA,lA];unfold big;lia)
 have al:∀x∈kr++crs++dr++hr++br,Rg x:=λx hx=>by
  simp only[mem_append]at hx;rcases hx with(((hx|hx)|hx)|hx)|hx
  .exact krg x hx
  .exact cr x hx
  .exact cJ hcs (drg x hx)
  .exact cw hcs (hrg x hx)
  .exact brg x hx
 have all:(kr++crs++dr++hr++br).length<=36:=by
  simp only[lA]
  lia
 generalize kr++crs++dr++hr=q1 at *;generalize q1++br=q2 at *
 have main:∀(q3:List P),q3.length<=37->(∀x∈q3,Rg x)->(k + 3)^^^(.ifs (.A1 Bq (.A1 (A3 Ab) (.A1 (A3 A7) {1} {3,0}) {2,0}) {1,0}) [(.Bu 10 true (BY AL) [(.tup [{"ask"},(.call 31 [(.A1 (A3 A7) {1} {6,0}),(.tup []),{6},(.A1 DC {5} {1,0})])])])] [])&&&[sL false (ns.map .int),sI w,y,sL true [n0,n1,n2],sL true [a,b,d],sL true ds,sL true fs,sL true crs,sL true dr,sL true hr,sL true q2]= .nx [sL false (ns.map .int),sI w,y,sL true [n0,n1,n2],sL true [a,b,d],sL true ds,sL true fs,sL true crs,sL true dr,sL true hr,sL true q3]->∃rs,(rs.length<=37/\∀x∈rs,Rg x)/\(k + 3)<<<fk>>>[sL false (ns.map .int),sI w,y,sL true [n0,n1,n2],sL true [a,b,d],sL true ds,none,none,none,none,none]= .ret (.lst true rs):=by
  intro q3 hl hr3 e;obtain⟨rs,⟨i1,i2⟩,e13⟩:=O1 (k+2) q3 (by lia) c8;refine⟨rs,⟨by lia,λx hx=>hr3 x (i2 x hx)⟩,?_⟩;unfold fk;rw[Ak];simp! [g2,e6];simp! [g3,e7];simp! [g4,e8];simp! [g5,e9];simp! [g6,e10,a1,a2,a3];simp! [g7,e11,a4,↓e,g8,e13]
 by_cases hq:w/3%2=1
 .refine main (q2++[.tup [.str "ask",x]]) (by rw[lA,lS];lia) (Du al (Sx hx)) ?_;have sl:DC (.lst false ds) (.p (.int 1))=some (.lst true (ds.take 1)):=MS false ds 1 (by lia);have fz:([]:List P).length<=1000:=by simp
  have l2:∀p q:P,([p,q]:List P).length<=1000:=λp q=>by simp
  have ap:=Bf q2 (.tup [.str "ask",x]) (SN (by lia));simp! [fd w 3,md (w/3) 2,eq_int,dZ hq,fd w 6,fz,sl,e12,l2,ap,Option.any_some,C.Ew,cond_true]
 .refine main q2 (by lia) al ?_;simp! [fd w 3,md (w/3) 2,eq_int,dF hq]
end
variable{wh:WH}
theorem BI{i:Nat}{c:C}(e:(den cf t).v ρ= .ok c)(h:c.own=true):exec cf wh (.asg (.nm i) t) ρ= .nx (ρ.set i (some c)):=by
 rw[Pc,e,Q5,fm,iP h]
theorem Am{ss:List S}{r:Fl}(e:exec cf wh s ρ= .nx ρ')(e2:execs cf wh ss ρ'=r):execs cf wh (s::ss) ρ=r:=by
 rw[Ak,e,Bc,e2]
theorem BW{f:Nat}(e1:(den cf a).v ρ= .ok x)(e2:(den cf b).v ρ= .ok y)(e3:cf f [x,y]= .ok z):(den cf (.call f [a,b])).v ρ= .ok z:=by
 rw[Pl,MD,e1,Co,MD,e2,Co,WC,Co,Co,Co,e3]
theorem nine{ps:List P}(h:ps.length=9):∃a b c d e f g i j,ps=[a,b,c,d,e,f,g,i,j]:=by
 match ps,h with
 |[a,b,c,d,e,f,g,i,j],_=>exact⟨a,b,c,d,e,f,g,i,j,rfl⟩
theorem Pe(k:Nat)(ns:List Int):∃rs,(rs.length<=37/\∀x∈rs,Rg x)/\~~~(k + 4) 39 [.lst false (ns.map .int)]= .ok (.lst true rs):=by
 obtain⟨w,⟨hw,_⟩,g0⟩:=CI (k+2) ns 0 (by decide) (i:=0) rfl;obtain⟨c,_,g1⟩:=CI (k+2) ns 1 (by decide) (i:=1) rfl;obtain⟨ps,⟨pl,pn,pu⟩,e2⟩:=QH (k+2) c;obtain⟨p0,p1,p2,p3,p4,p5,p6,p7,p8,rfl⟩:=nine pl;have n0:=pn p0 (by simp);have n1:=pn p1 (by simp);have n2:=pn p2 (by simp);have n3:=pn p3 (by simp);have n4:=pn p4 (by simp);have n5:=pn p5 (by simp);have n6:=pn p6 (by simp);have n7:=pn p7 (by simp);have n8:=pn p8 (by simp)
 have fin:∀{a b d:P} {ds:List P},(k + 3)^^^(.ifs (.A1 Bq (.A1 (A3 Ab) {1} {3,0}) {1,0}) [(.asg (.nm 4) (.lst [(.A1 A2 {2} {2,0}),(.A1 A2 {2} {0,0}),(.A1 A2 {2} {1,0})])),(.asg (.nm 5) (.lst [(.A1 A2 {2} {1,0}),(.A1 A2 {2} {2,0}),(.A1 A2 {2} {0,0})]))] [])&&&[sL false (ns.map .int),sI w,sL true [p0,p1,p2,p3,p4,p5,p6,p7,p8],sL true [p0,p1,p2],sL true [p3,p4,p5],sL true [p6,p7,p8],none,none,none,none,none]= .nx [sL false (ns.map .int),sI w,sL true [p0,p1,p2,p3,p4,p5,p6,p7,p8],sL true [p0,p1,p2],sL true [a,b,d],sL true ds,none,none,none,none,none]->A4 a=true->A4 b=true->A4 d=true->[a,b,d].Nodup->(∀x∈ds,A4 x=true)->ds.length=3->∃rs,(rs.length<=37/\∀x∈rs,Rg x)/\~~~(k + 4) 39 [.lst false (ns.map .int)]= .ok (.lst true rs):=by
  intro a b d ds e ha hb hd hu hds hdl;obtain⟨rs,hr,er⟩:=Lq k ns hw n0 n1 n2 ha hb hd hu hds hdl (some (.lst true [p0,p1,p2,p3,p4,p5,p6,p7,p8]));refine⟨rs,hr,call_of (r:=.ret (.lst true rs)) kF rfl ?_⟩;show execs _ _ gM [sL false (ns.map .int),none,none,none,none,none,none,none,none,none,none]=_;unfold gM;exact Am (BI (BW rfl rfl g0) rfl) (Am (BI (BW (BW rfl rfl g1) rfl e2) rfl) (Am (BI (AV rfl rfl (MS false [p0,p1,p2,p3,p4,p5,p6,p7,p8] 3 (by simp))) rfl) (Am (BI (c:=.lst true [p3,p4,p5]) rfl rfl) (Am (BI (AV rfl rfl (W4 false [p0,p1,p2,p3,p4,p5,p6,p7,p8] 6 (by simp))) rfl) (Am e er)))))
 simp only[nodup_cons,mem_cons,not_mem_nil,or_false,not_or]at pu
 by_cases hq:w%3=1
 .refine fin (a:=p2) (b:=p0) (d:=p1) (ds:=[p1,p2,p0]) ?_ n2 n0 n1 ?_ ?_ rfl
  .have l3:∀p q r:P,([p,q,r]:List P).length<=1000:=λp q r=>by simp
   have i0:A2 (.lst false [p0,p1,p2,p3,p4,p5,p6,p7,p8]) (.p (.int 0))=some (.p p0):=rfl;have i1:A2 (.lst false [p0,p1,p2,p3,p4,p5,p6,p7,p8]) (.p (.int 1))=some (.p p1):=rfl;have i2:A2 (.lst false [p0,p1,p2,p3,p4,p5,p6,p7,p8]) (.p (.int 2))=some (.p p2):=rfl;simp! [md w 3,eq_int,dZ hq,i0,i1,i2,l3]
  .simp only[nodup_cons,mem_cons,not_mem_nil,or_false,not_or,not_false_eq_true,and_true,List.nodup_nil];exact⟨⟨λh=>pu.1.2.1 h.symm,λh=>pu.2.1.1 h.symm⟩,pu.1.1⟩
  .intro x hx;simp only[mem_cons,not_mem_nil,or_false]at hx;rcases hx with rfl|rfl|rfl<;>assumption
 .refine fin (a:=p3) (b:=p4) (d:=p5) (ds:=[p6,p7,p8]) ?_ n3 n4 n5 ?_ ?_ rfl
  .simp! [md w 3,eq_int,dF hq]
  .simp only[nodup_cons,mem_cons,not_mem_nil,or_false,not_or,not_false_eq_true,and_true,List.nodup_nil];exact⟨⟨pu.2.2.2.1.1,pu.2.2.2.1.2.1⟩,pu.2.2.2.2.1.1⟩
  .intro x hx;simp only[mem_cons,not_mem_nil,or_false]at hx;rcases hx with rfl|rfl|rfl<;>assumption
theorem RN{f:C->Option C}(e1:(den cf a).v ρ= .ok x)(e3:f x=some z):(den cf (.Ai f a)).v ρ= .ok z:=by
 rw[ZZ,e1,Co,e3];rfl
theorem FK{ts:List T}{c:C}{x:P}{xs:List P}(e:(den cf t).v ρ= .ok c)(h:c.Dz=some x)(e2:FN cf ts ρ= .ok xs):FN cf (t::ts) ρ= .ok (x::xs):=by
 rw[YZ,e,Co,h,TZ,Co,e2,Co]
theorem Hh{ts:List T}{xs:List P}(e:FN cf ts ρ= .ok xs)(h:xs.length<=1000):(den cf (.lst ts)).v ρ= .ok (.lst true xs):=by
 rw[a9,e,Co,iP h]
theorem Lw{ts:List T}{xs:List P}(e:FN cf ts ρ= .ok xs)(h:xs.length<=1000):(den cf (.tup ts)).v ρ= .ok (.p (.tup xs)):=by
 rw[ZY,e,Co,iP h]
theorem FR{f:Nat}(e1:(den cf a).v ρ= .ok x)(e3:cf f [x]= .ok z):(den cf (.call f [a])).v ρ= .ok z:=by
 rw[Pl,MD,e1,Co,WC,Co,Co,e3]
theorem P0{f:C->C->Option C}{c:Bool}(e:(den cf (.A1 f a b)).v ρ= .ok (bC c)):(den cf (.A1 f a b)).b ρ= .ok c:=by
 rw[cN,e];rfl
theorem band{c d:Bool}(e:(den cf a).b ρ= .ok c)(e2:(den cf b).b ρ= .ok d):(den cf (.and a b)).b ρ= .ok (c && d):=by
 rw[cO,e,Co];cases c
 .rfl
 .rw[iP rfl,e2];rfl
theorem cq{r:Fl}(e:(den cf t).b ρ= .ok true)(e2:execs cf wh a ρ=r):exec cf wh (.ifs t a b) ρ=r:=by
 rw[VJ,e,Q5,iP rfl,e2]
theorem YM{r:Fl}(e:(den cf t).b ρ= .ok false)(e2:execs cf wh b ρ=r):exec cf wh (.ifs t a b) ρ=r:=by
 rw[VJ,e,Q5,iN (by decide),e2]
theorem TU(h:Bd x=true):∃ps,x= .tup ps:=by
 cases x with
 |tup ps=>exact⟨ps,rfl⟩
 |_=>cases h
theorem UA(a b:Int):JU (.p (.tup [.int a,.int b])) (.p (.tup [.int a,.int b]))=some (bC false):=by
 have h1:CM (.tup [.int a,.int b]) (.tup [.int a,.int b])=true:=rfl;have h2:(P.tup [.int a,.int b]).depth<=90:=by show 1<=90;decide
 have e:Z1 (.tup [.int a,.int b]) (.tup [.int a,.int b])=some true:=by unfold Z1;rw[iP ⟨h1,h2⟩,dZ rfl]
 show((SS (.p (.tup [.int a,.int b])) (.p (.tup [.int a,.int b]))).map λk=>bC (!k))=_;rw[show SS (.p (.tup [.int a,.int b])) (.p (.tup [.int a,.int b]))=(Z1 (.tup [.int a,.int b]) (.tup [.int a,.int b]) <|> _)from rfl,e];rfl
section
variable (k:Nat)(ns:List Int)(w:Int)
noncomputable abbrev j7:Env->Fl:=execs (~~~k) AW [(.asg (.nm 8) (.call 27 [{0},(.A1 A5 {10,0} {7})])),(.asg (.nm 9) (.A1 (A3 Ab) {8} (.Ai Av {3}))),(.asg (.nm 10) (.A1 A5 (.A1 A5 (.A1 DC {3} {9}) (.lst [(.call 48 [(.A1 A2 {3} {9}),(.A1 (A3 A7) {8} {40,0})])])) (.A1 Fu {3} (.A1 A5 {9} {1,0})))),(.ifs (.and (.A1 Bq {7} {3,0}) (.and (.A1 Bq (.A1 (A3 Ab) (.A1 (A3 A7) {1} {800,0}) {2,0}) {1,0}) (.A1 Jm (.Ai Av {10}) {40,0}))) [(.Bu 10 true (BY AL) [(.cst (.p .A8))])] []),(.ifs (.A1 JU (.call 49 [{10}]) (.tup [{9},{0,0}])) [(.ret (.cst (.p (.bl false))))] [])]
theorem WS{rs:List P}(h1:1<=rs.length)(h4:rs.length<=40)(hr:∀x∈rs,Rg x)(j:Nat)(hj:j < 4)(q2 q4 q5 q6 q8 q9 q10 q11:Option C):∃q8' q9' q10',j7 (k + 12) [sL false (ns.map .int),sI w,q2,sL true rs,q4,q5,q6,sI (j:Nat),q8,q9,q10,q11]= .nx [sL false (ns.map .int),sI w,q2,sL true rs,q4,q5,q6,sI (j:Nat),q8',q9',q10',q11]:=by
 obtain⟨c,⟨hc,_⟩,ec⟩:=CI (k+11) ns (10+j) (by lia) (i:=10+(j:Int)) (by lia)
 obtain⟨a,ha,ea⟩:∃a:Nat,a < rs.length/\c % (rs.length:Int)=(a:Nat):=by
  have g0:=Int.emod_nonneg c (by lia:(rs.length:Int)≠0);have g1:=Int.emod_lt_of_pos c (by lia:0 < (rs.length:Int));exact⟨(c%(rs.length:Int)).toNat,by lia,by lia⟩
 have hx:=hr rs[a] (getElem_mem ha);have ex:A2 (.lst false rs) (.p (.int (a:Nat)))=some (.p rs[a]):=DW false (List.getElem?_eq_getElem ha);obtain⟨ps,ep⟩:=TU hx.1;rw[ep]at hx ex;obtain⟨y,hy,ey⟩:=O6 (k+8) (c/40) (Int.ediv_nonneg hc (by decide)) hx.2.1 hx.1;have tl:(rs.take a).length=a:=by rw[length_take];lia
 have dl:(rs.drop (a+1)).length=rs.length-(a+1):=by rw[length_drop]
 have a1:=C6 true true (rs.take a) [y] (by rw[lA,lS];unfold big;lia);have a2:=C6 true true (rs.take a++[y]) (rs.drop (a+1)) (by rw[lA,lA,lS];unfold big;lia);have hT:∀z∈rs.take a,Ay z=true/\Bd z=true:=λz hz=>have:=hr z (mem_of_mem_take hz);⟨this.2.1,this.1⟩
 have hD:∀z∈rs.drop (a+1),Ay z=true:=λz hz=>(hr z (mem_of_mem_drop hz)).2.1
 have bl:(rs.take a++[y]++rs.drop (a+1)).length=rs.length:=by rw[lA,lA,lS];lia
 have fin:∀(r:List P),(∀z∈r,Ay z=true)->(rs.take a++y::r).length<=40->(k + 12)<<<[(.ifs (.A1 JU (.call 49 [{10}]) (.tup [{9},{0,0}])) [(.ret (.cst (.p (.bl false))))] [])]>>>[sL false (ns.map .int),sI w,q2,sL true rs,q4,q5,q6,sI (j:Nat),sI c,sI (a:Nat),sL true (rs.take a++y::r),q11]= .nx [sL false (ns.map .int),sI w,q2,sL true rs,q4,q5,q6,sI (j:Nat),sI c,sI (a:Nat),sL true (rs.take a++y::r),q11]:=by
  intro r ho hl;have e:=LG k hT hy ho hl;rw[tl]at e;exact Am (YM (P0 (AV (FR rfl e) (Lw (xs:=[.int (a:Nat),.int 0]) rfl (by simp)) (UA (a:Nat) 0))) rfl) rfl
 have s1:(k+12)^^^(.asg (.nm 8) (.call 27 [{0},(.A1 A5 {10,0} {7})]))&&&[sL false (ns.map .int),sI w,q2,sL true rs,q4,q5,q6,sI (j:Nat),q8,q9,q10,q11]= .nx [sL false (ns.map .int),sI w,q2,sL true rs,q4,q5,q6,sI (j:Nat),sI c,q9,q10,q11]:=BI (BW rfl (AV rfl rfl (add_int 10 (j:Nat))) ec) rfl;have s2:(k+12)^^^(.asg (.nm 9) (.A1 (A3 Ab) {8} (.Ai Av {3})))&&&[sL false (ns.map .int),sI w,q2,sL true rs,q4,q5,q6,sI (j:Nat),sI c,q9,q10,q11]= .nx [sL false (ns.map .int),sI w,q2,sL true rs,q4,q5,q6,sI (j:Nat),sI c,sI (a:Nat),q10,q11]:=BI (AV rfl (RN rfl (AK false rs)) ((md c (rs.length:Int) (by lia)).trans (by rw[ea]))) rfl;have s3:(k+12)^^^(.asg (.nm 10) (.A1 A5 (.A1 A5 (.A1 DC {3} {9}) (.lst [(.call 48 [(.A1 A2 {3} {9}),(.A1 (A3 A7) {8} {40,0})])])) (.A1 Fu {3} (.A1 A5 {9} {1,0}))))&&&[sL false (ns.map .int),sI w,q2,sL true rs,q4,q5,q6,sI (j:Nat),sI c,sI (a:Nat),q10,q11]= .nx [sL false (ns.map .int),sI w,q2,sL true rs,q4,q5,q6,sI (j:Nat),sI c,sI (a:Nat),sL true (rs.take a++[y]++rs.drop (a+1)),q11]:=BI (AV (AV (AV rfl rfl (MS false rs a (by lia))) (Hh (FK (BW (AV rfl rfl ex) (AV rfl rfl (fd c 40)) ey) rfl rfl) (by simp)) a1) (AV rfl (AV rfl rfl (add_int (a:Nat) 1)) (W4 false rs (a+1) (by lia))) a2) rfl;have cond:(den (~~~(k+12)) (.and (.A1 Bq {7} {3,0}) (.and (.A1 Bq (.A1 (A3 Ab) (.A1 (A3 A7) {1} {800,0}) {2,0}) {1,0}) (.A1 Jm (.Ai Av {10}) {40,0})))).b [sL false (ns.map .int),sI w,q2,sL true rs,q4,q5,q6,sI (j:Nat),sI c,sI (a:Nat),sL true (rs.take a++[y]++rs.drop (a+1)),q11]= .ok (decide ((j:Int)=3) && (decide (w/800%2=1) && decide (((rs.take a++[y]++rs.drop (a+1)).length:Int) < 40))):=band (P0 (AV rfl rfl (eq_int (j:Nat) 3))) (band (P0 (AV (AV (AV rfl rfl (fd w 800)) rfl (md (w/800) 2)) rfl (eq_int (w/800%2) 1))) (P0 (AV (RN rfl (AK false _)) rfl (lt_int _ 40))));rw[bl]at cond;rw[append_assoc,List.singleton_append]at s3 cond;rw[append_assoc,List.singleton_append]at bl;cases hq:(decide ((j:Int)=3) && (decide (w/800%2=1) && decide ((rs.length:Int) < 40)))with
 |false=>
   rw[hq]at cond;exact⟨_,_,_,Am s1 (Am s2 (Am s3 (Am (YM cond rfl) (fin _ hD (by rw[bl];exact h4)))))⟩
 |true=>
   rw[hq]at cond;have lt:(rs.length:Int) < 40:=by simp only[bA,decide_eq_true_eq]at hq;exact hq.2.2
   have s4:(k + 12)<<<[(.Bu 10 true (BY AL) [(.cst (.p .A8))])]>>>[sL false (ns.map .int),sI w,q2,sL true rs,q4,q5,q6,sI (j:Nat),sI c,sI (a:Nat),sL true (rs.take a++y::rs.drop (a + 1)),q11]= .nx [sL false (ns.map .int),sI w,q2,sL true rs,q4,q5,q6,sI (j:Nat),sI c,sI (a:Nat),sL true (rs.take a++y::(rs.drop (a + 1)++[.A8])),q11]:=by
    have ap:=Bf (rs.take a++y::rs.drop (a+1)) .A8 (SN (by rw[bl];lia));rw[append_assoc,cons_append]at ap;simp! [ap,Option.any_some,C.Ew,cond_true]
   refine⟨_,_,_,Am s1 (Am s2 (Am s3 (Am (cq cond s4) (fin _ (λz hz=>?_) ?_))))⟩
   .rcases mZ hz with hz|hz
    .exact hD z hz
    .rw[mem_singleton]at hz;subst hz;rfl
   .rw[<-cons_append,<-append_assoc,lA,bl,lS]
    lia
end
theorem Kb{d:Nat}:∀{ps:List P},(∀x∈ps,El d x)->C9 ps ps=true/\P.AO ps<=d
 |[],_=>⟨rfl,by rw[P.AO];exact Nat.zero_le _⟩
 | p ::ps,h=>by
   obtain⟨h1,h2⟩:=Kb λx hx=>h x (.tail _ hx)
   have:=h p (.head _);refine⟨?_,?_⟩
   .rw[C9];show(CM p p && C9 ps ps)=true;rw[this.2.1,h1];rfl
   .rw[P.AO];have:=this.2.2
    lia
theorem eq_self{o q:Bool}{rs:List P}(h:∀x∈rs,Rg x):SS (.lst o rs) (.lst q rs)=some true:=by
 obtain⟨h1,h2⟩:=Kb (λx hx=>(h x hx).2);show((none:Option Bool) <|> (if C9 rs rs=true/\P.AO rs<=90 then some (decide (rs=rs))else none))=_;rw[iP ⟨h1,by lia⟩,dZ rfl];rfl
theorem ZX(e:(den cf a).v ρ= .ok (bC true))(e2:(den cf b).v ρ= .ok c):(den cf (.and a b)).v ρ= .ok c:=by
 rw[v_and,e,Co];exact e2
theorem cD{i:Nat}{k:Sq}{it:T}{c:C}{xs:List P}(h:ER it=none)(e:(den cf it).v ρ= .ok c)(hk:k c=some xs)(ho:c.own=true)(e2:forL (.nm i) (execs cf wh b) xs ρ= .nx ρ'):exec cf wh (.Be (.nm i) k it b) ρ= .nx ρ':=by
 rw[BN _ _ _ _ _ _ _ h,e,Q5,hk];show(if c.own then _ else _)=_;rw[iP ho,e2];rfl
theorem TX(n:Nat)(x:P):(List.replicate n [x]).flatten=List.replicate n x:=by
 induction n with
 |zero=>rfl
 |succ n ih=>rw[replicate_succ,replicate_succ,flatten_cons,ih];rfl
theorem Nb(x:P)(n:Int)(h0:0<=n)(h:n<=1000):mulC (.lst true [x]) (.p (.int n))=some (.lst true (List.replicate n.toNat x)):=by
 show((none:Option C) <|> none <|> (if([x]:List P).length=1/\-1000<=n/\n<=1000 then some (nw (List.replicate n.toNat [x]).flatten)else none))=_;rw[iP ⟨rfl,by lia,h⟩,TX];rfl
abbrev FV:P:=.tup [.str "ask",Ah]
theorem Li:Rg FV:=Sx (.name (by kernel_rfl))
section
variable (k:Nat)(ns:List Int)(w:Int)
noncomputable abbrev jN:List S:=[(.asg (.nm 5) (.Ai CL {3})),(.asg (.nm 6) (.call 26 [{3}])),(.ifs (.or (.not (.Ai (Dq .list) {6})) (.A1 JU {6} {5})) [(.ret (.cst (.p (.bl false))))] []),(.Bu 6 true RY []),(.Be (.nm 7) AM {4,0} [(.asg (.nm 8) (.call 27 [{0},(.A1 A5 {10,0} {7})])),(.asg (.nm 9) (.A1 (A3 Ab) {8} (.Ai Av {3}))),(.asg (.nm 10) (.A1 A5 (.A1 A5 (.A1 DC {3} {9}) (.lst [(.call 48 [(.A1 A2 {3} {9}),(.A1 (A3 A7) {8} {40,0})])])) (.A1 Fu {3} (.A1 A5 {9} {1,0})))),(.ifs (.and (.A1 Bq {7} {3,0}) (.and (.A1 Bq (.A1 (A3 Ab) (.A1 (A3 A7) {1} {800,0}) {2,0}) {1,0}) (.A1 Jm (.Ai Av {10}) {40,0}))) [(.Bu 10 true (BY AL) [(.cst (.p .A8))])] []),(.ifs (.A1 JU (.call 49 [{10}]) (.tup [{9},{0,0}])) [(.ret (.cst (.p (.bl false))))] [])]),(.asg (.nm 11) (.A1 A2 (.lst [(.Ai Eh {3}),(.cst (.p .A8)),(.Ai (λ_=>some (.BC true [])) (.cst (.p .A8))),{"kind"},(.A1 DC (.A1 A5 {3} (.A1 mulC (.lst [(.tup [{"ask"},{2}])]) {41,0})) {41,0}),{7,0}]) (.A1 (A3 Ab) (.A1 (A3 A7) {1} {1600,0}) {6,0}))),(.ret (.and (.A1 ZQ (.call 49 [{11}]) (.cst (.p .A8))) (.and (.A1 Bq (.call 26 [{3}]) {5}) (.A1 Bq {3} {5}))))]
theorem QU{rs:List P}(h1:1<=rs.length)(h4:rs.length<=40)(hr:∀x∈rs,Rg x)(q4:Option C):(k + 12)<<<jN>>>[sL false (ns.map .int),sI w,sP Ah,sL true rs,q4,none,none,none,none,none,none,none]= .ret (bC true):=by
 have ck: ~~~(k + 12) 26 [.lst false rs]= .ok (.lst true rs):=by
  rw[G8 (k+1) (λx hx=>(hr x hx).2.1) h4,iP (all_eq_true.mpr λx hx=>(hr x hx).1)]
 have eqs:∀o q:Bool,Bq (.lst o rs) (.lst q rs)=some (bC true):=λo q=>by
  show((SS (.lst o rs) (.lst q rs)).map bC)=_;rw[eq_self hr];rfl
 have nes:JU (.lst false rs) (.lst false rs)=some (bC false):=by
  show((SS (.lst false rs) (.lst false rs)).map λk=>bC (!k))=_;rw[eq_self hr];rfl
 obtain⟨ρ,⟨u7,u8,u9,u10,rfl⟩,ef⟩:=C5 (i:=7) (b:=j7 (k + 12)) (m:=4) (ρ:=[sL false (ns.map .int),sI w,sP Ah,sL true rs,q4,sL true rs,sL true [],none,none,none,none,none]) (λn ρ=>∃(u7 u8 u9 u10:Option C),ρ=[sL false (ns.map .int),sI w,sP Ah,sL true rs,q4,sL true rs,sL true [],u7,u8,u9,u10,none]) ⟨none,none,none,none,rfl⟩ (by
  rintro j hj _ ⟨u7,u8,u9,u10,rfl⟩
  obtain⟨v8,v9,v10,e⟩:=WS k ns w h1 h4 hr j hj (some (.p Ah)) q4 (some (.lst true rs)) (some (.lst true [])) u8 u9 u10 none
  exact⟨_,⟨some (.p (.int (j:Nat))),v8,v9,v10,rfl⟩,e⟩)
 have ll:(rs++List.replicate 41 FV).length=rs.length+41:=by simp
 have al:=C6 false true rs (List.replicate 41 FV) (by rw[ll];unfold big;lia);have sl:DC (.lst true (rs++List.replicate 41 FV)) (.p (.int 41))=some (.lst true ((rs++List.replicate 41 FV).take 41)):=MS true _ 41 (by rw[ll];lia);have ml:mulC (.lst true [FV]) (.p (.int 41))=some (.lst true (List.replicate 41 FV)):=Nb FV 41 (by decide) (by decide);obtain⟨x,hx,ex⟩:=AJ true (ps:=[.tup rs,.A8,.box 1 [],.str "kind",.box 0 ((rs++List.replicate 41 FV).take 41),.int 7]) (w/1600) 6 rfl (by decide)
 have ro: ~~~(k + 12) 49 [.p x]= .ok (.p .A8):=by
  simp only[mem_cons,not_mem_nil,or_false]at hx
  have okr:∀y∈(rs++List.replicate 41 FV).take 41,Ay y=true:=λy hy=>by
   rcases mZ (mem_of_mem_take hy)with hy|hy
   .exact(hr y hy).2.1
   .rw[List.eq_of_mem_replicate hy];exact Li.2.1
  rcases hx with rfl|rfl|rfl|rfl|rfl|rfl
  .exact Ca (k+10) (E6 λy hy=>(hr y hy).2.1) λh=>by cases h
  .exact Ca (k+10) rfl λh=>by cases h
  .exact Ca (k+10) rfl λh=>by cases h
  .exact Ca (k+10) (by kernel_rfl) λh=>by cases h
  .exact Ca (k+10) (by rw[Ay];exact(DM _).mpr okr) λ_=>⟨_,rfl,by rw[length_take,ll];lia⟩
  .exact Ca (k+10) rfl λh=>by cases h
 have es:∀o:Option C,(k+12)|||(.A1 A2 (.lst [(.Ai Eh {3}),(.cst (.p .A8)),(.Ai (λ_=>some (.BC true [])) (.cst (.p .A8))),{"kind"},(.A1 DC (.A1 A5 {3} (.A1 mulC (.lst [(.tup [{"ask"},{2}])]) {41,0})) {41,0}),{7,0}]) (.A1 (A3 Ab) (.A1 (A3 A7) {1} {1600,0}) {6,0}))&&&[sL false (ns.map .int),sI w,sP Ah,sL true rs,q4,sL true rs,sL true [],u7,u8,u9,u10,o]= .ok (.p x):=λo=>AV (Hh (FK (c:=.p (.tup rs)) (RN rfl (Ey false rs)) rfl (FK (c:=.p .A8) rfl rfl (FK (c:=.BC true []) (RN rfl rfl) rfl (FK (c:=.p (.str "kind")) rfl rfl (FK (AV (AV rfl (AV (Hh (FK (Lw (xs:=[.str "ask",Ah]) rfl (by simp)) rfl rfl) (by simp)) rfl ml) al) rfl sl) rfl (FK (c:=.p (.int 7)) rfl rfl rfl)))))) (by simp)) (AV (AV rfl rfl (fd w 1600)) rfl (md (w/1600) 6)) ex
 have s3:(k + 12)^^^(.ifs (.or (.not (.Ai (Dq .list) {6})) (.A1 JU {6} {5})) [(.ret (.cst (.p (.bl false))))] [])&&&[sL false (ns.map .int),sI w,sP Ah,sL true rs,q4,sL true rs,sL true rs,none,none,none,none,none]= .nx [sL false (ns.map .int),sI w,sP Ah,sL true rs,q4,sL true rs,sL true rs,none,none,none,none,none]:=by
  simp! [show Dq .list (.lst false rs)=some (bC true)from rfl,nes]
 refine Am (BI (c:=.lst true rs) rfl rfl) (Am (BI (FR rfl ck) rfl) (Am s3 (Am (ρ':=[sL false (ns.map .int),sI w,sP Ah,sL true rs,q4,sL true rs,sL true [],none,none,none,none,none]) rfl (Am (cD rfl rfl (Bn 4 (by decide)) rfl ef) (Am (BI (es none) rfl) ?_)))));rw[Ak,ZW,ZX (c:=bC true) (AV (FR rfl ro) rfl rfl) (ZX (c:=bC true) (AV (FR rfl ck) rfl (eqs true false)) (AV rfl rfl (eqs false false)))];rfl
end
def JJ:List P:=[VL 11,SR 3,.tup [.str "number",.int (10 ^ 60-1)],.tup [.str "number",.int (1-10 ^ 60)]]
theorem jz:(JJ.all λx=>Bm x && (Ay x && (CM x x && decide (x.depth<=18))))=true:=by kernel_rfl
theorem X4{x:P}(h:x∈JJ):Bm x=true/\El 18 x:=by
 have:=all_eq_true.mp jz x h;simp only[bA,decide_eq_true_eq]at this;exact⟨this.1,this.2.1,this.2.2.1,this.2.2.2⟩
def SM(n:Nat):List P:=([.str "x",.str "y",.str "z"]:List P).take n
theorem WG(h:n<=3):(∀x∈SM n,A4 x=true)/\Cn (.tup (SM n))=true:=by
 have:((SM n).all A4 && Cn (.tup (SM n)))=true:=by
  rcases(by lia:n=0\/n=1\/n=2\/n=3)with rfl|rfl|rfl|rfl<;>kernel_rfl
 simp only[bA,all_eq_true]at this;exact this
theorem Z5{x:P}(h:x∈JJ)(hn:n<=3):Rg (.tup [.str "def",.str "f",.tup (SM n),x]):=by
 obtain⟨h1,h2⟩:=X4 h;obtain⟨h3,h4⟩:=WG hn;exact⟨Z4 (by kernel_rfl) h4 h1,C0 (Ax (d:=18) (Ad (Bv (by kernel_rfl) 18) (Ad (Bv (by kernel_rfl) 18) (Ad (C0 (Ax (d:=0) λx hx=>Az (h3 x hx) 0) (by decide)) (Ad h2 CP))))) (by decide)⟩
theorem Yt(k:Nat)(ns:List Int): ~~~(k + 13) 50 [.lst false (ns.map .int)]= .ok (.p (.bl true)):=by
 obtain⟨w,⟨hw,_⟩,g0⟩:=CI (k+11) ns 9 (by decide) (i:=9) rfl;obtain⟨rs,⟨rl,rg⟩,er⟩:=Pe (k+8) ns;obtain⟨b,hb,eb⟩:=AJ true (ps:=JJ) w 4 rfl (by decide);have e11: ~~~(k+12) 40 [.p (.int 11),.p Ah]= .ok (.p (VL 11)):=NB (k+11) 11 (.inl rfl);obtain⟨n,hn,en⟩:∃n:Nat,n<=3/\w/4%4=(n:Nat):=⟨(w/4%4).toNat,by lia,by lia⟩;have g1:=Int.emod_nonneg (w/4) (by lia:((rs.length:Int)+1)≠0);have g2:=Int.emod_lt_of_pos (w/4) (by lia:0 < ((rs.length:Int)+1));generalize hi:w/4%((rs.length:Int)+1)=i at g1 g2;have ins:=Np rs i (.tup [.str "def",.str "f",.tup (SM n),b]) g1 (by lia) (SN (by lia))
 have hrs:∀x∈rs.take i.toNat++ .tup [.str "def",.str "f",.tup (SM n),b]::rs.drop i.toNat,Rg x:=λx hx=>by
  rcases mZ hx with hx|hx
  .exact rg x (mem_of_mem_take hx)
  .rcases mK hx with rfl|hx
   .exact Z5 hb hn
   .exact rg x (mem_of_mem_drop hx)
 have hrl:(rs.take i.toNat++ .tup [.str "def",.str "f",.tup (SM n),b]::rs.drop i.toNat).length=rs.length + 1:=by
  rw[lA,lC,length_take,length_drop]
  lia
 generalize rs.take i.toNat++ .tup [.str "def",.str "f",.tup (SM n),b]::rs.drop i.toNat=qs at ins hrs hrl;have sx:DC (.p (.tup [.str "x",.str "y",.str "z"])) (.p (.int (n:Nat)))=some (.p (.tup (SM n))):=IW _ n hn
 have s5:(k + 12)^^^(.Bu 3 true (G1 KA) [(.A1 (A3 Ab) (.A1 (A3 A7) {1} {4,0}) (.A1 A5 (.Ai Av {3}) {1,0})),(.tup [{"def"},{"f"},(.A1 DC (.tup [{"x"},{"y"},{"z"}]) (.A1 (A3 Ab) (.A1 (A3 A7) {1} {4,0}) {4,0})),{4}])])&&&[sL false (ns.map .int),sI w,sP Ah,sL true rs,sP b,none,none,none,none,none,none,none]= .nx [sL false (ns.map .int),sI w,sP Ah,sL true qs,sP b,none,none,none,none,none,none,none]:=by
  have m1:=md (w/4) ((rs.length:Int)+1) (by lia);rw[hi]at m1;simp! [fd w 4,AK,add_int,m1,md (w/4) 4,en,sx,show ∀p q r:P,([p,q,r]:List P).length<=1000 from λp q r=>by simp,show ∀p q r s:P,([p,q,r,s]:List P).length<=1000 from λp q r s=>by simp,ins,Option.any_some,C.Ew,cond_true]
 have fin:∀{q3:List P},(k + 12)^^^(.ifs (.A1 Bq (.A1 (A3 Ab) (.A1 (A3 A7) {1} {400,0}) {2,0}) {1,0}) [(.asg (.nm 3) (.A1 A5 {3} (.A1 mulC (.lst [(.tup [{"ask"},{2}])]) (.A1 (A3 Et) {40,0} (.Ai Av {3})))))] [])&&&[sL false (ns.map .int),sI w,sP Ah,sL true qs,sP b,none,none,none,none,none,none,none]= .nx [sL false (ns.map .int),sI w,sP Ah,sL true q3,sP b,none,none,none,none,none,none,none]->1<=q3.length->q3.length<=40->(∀x∈q3,Rg x)->~~~(k + 13) 50 [.lst false (ns.map .int)]= .ok (.p (.bl true)):=by
  intro q3 e h1 h4 hr;refine call_of (r:=.ret (bC true)) kn rfl ?_;show execs _ _ gE [sL false (ns.map .int),none,none,none,none,none,none,none,none,none,none,none]=_;unfold gE;exact Am (BI (BW rfl rfl g0) rfl) (Am (BI (c:=.p Ah) rfl rfl) (Am (BI (FR rfl er) rfl) (Am (BI (AV (Hh (FK (BW rfl rfl e11) rfl (FK (AV (z:=.p (SR 3)) (FR rfl (MF (k+11))) rfl rfl) rfl (FK (c:=.p (.tup [.str "number",.int (10 ^ 60-1)])) rfl rfl (FK (c:=.p (.tup [.str "number",.int (1-10 ^ 60)])) rfl rfl rfl)))) (by simp)) (AV rfl rfl (md w 4)) eb) rfl) (Am s5 (Am e (QU k ns w h1 h4 hr (some (.p b))))))))
 by_cases hq:w/400%2=1
 .have ml:=Nb FV (40-(qs.length:Int)) (by lia) (by lia);have al:=C6 false true qs (List.replicate (40-(qs.length:Int)).toNat FV) (by rw[lA,length_replicate];unfold big;lia);refine fin (q3:=qs++List.replicate (40-(qs.length:Int)).toNat FV) (cq (P0 ((AV (AV (AV rfl rfl (fd w 400)) rfl (md (w/400) 2)) rfl (eq_int _ 1)).trans (by rw[dZ hq]))) (Am (BI (AV rfl (AV (Hh (FK (Lw (xs:=[.str "ask",Ah]) rfl (by simp)) rfl rfl) (by simp)) (AV rfl (RN rfl (AK false qs)) (sb 40 _)) ml) al) rfl) rfl)) ?_ ?_ ?_
  .rw[lA];lia
  .rw[lA,length_replicate];lia
  .intro x hx;rcases mZ hx with hx|hx
   .exact hrs x hx
   .rw[List.eq_of_mem_replicate hx];exact Li
 .exact fin (YM (P0 ((AV (AV (AV rfl rfl (fd w 400)) rfl (md (w/400) 2)) rfl (eq_int _ 1)).trans (by rw[dF hq]))) rfl) (by lia) (by lia) hrs
end Nv
namespace Lk10
open Nv
theorem UO:∀ns:List Int,ns.length<=63->AR fns AW 98 50 [.lst false (ns.map .int)]= .ok (.p (.bl true)):=λns _=>Yt 85 ns
end Lk10
open PySem PySem.W PyProof.Rows
set_option maxRecDepth 100000 in
set_option maxHeartbeats 0 in
theorem PySem.Challenge.cw_kinddeeds_k10_rows_checked_holds : PySem.Challenge.rw_kinddeeds_k10_rows_checked.Holds := by
  w_on; o_law; k_head; (case hw => w_witness2)
  k_fill
  refine Nv.walk (l := PySem.Challenge.rw_kinddeeds_k10_rows_checked) 63 200 [(304, 300)] rfl (by decide) rfl ⟨rfl, by decide, by decide⟩ (fun w h Y => PySem.W.km_in_of Y) (fun w h Y p hp => PySem.W.km_tabs_of Y p (by simp only [List.map_cons, List.map_nil, List.mem_cons, List.not_mem_nil, or_false] at hp ⊢; exact hp)) ?F
  case F =>
    intro w mg fa h KX G hmg
    refine' Lk10.all_mk Lk10.UO KX G hmg ?_ ?_ ?_ ?_ ?_ ?_ ?_ ?_ ?_ ?_ ?_ ?_ ?_ ?_ ?_ ?_ ?_ ?_ ?_ ?_ ?_ ?_ ?_ ?_ ?_ ?_ ?_ ?_ ?_ ?_ ?_ ?_ ?_ ?_ ?_ ?_ ?_ ?_ ?_ ?_ ?_ ?_ ?_ ?_ ?_ ?_ ?_ ?_ ?_ ?_ ?_ ?_ ?_ ?_ ?_ ?_ ?_ ?_ ?_ ?_ ?_ ?_ ?_ ?_ ?_ ?_ ?_ ?_ ?_ ?_ ?_ ?_ ?_ ?_ ?_ ?_ ?_ ?_ ?_ ?_ ?_ ?_ ?_ ?_ ?_ ?_ ?_ ?_ ?_ ?_ ?_ ?_ ?_ ?_ ?_ ?_ ?_ ?_ ?_ ?_ ?_ ?_ ?_ ?_ ?_ ?_ ?_ ?_ ?_ ?_ ?_ ?_ ?_ ?_ ?_ ?_ ?_ ?_ ?_ ?_ ?_ ?_
    all_goals first
      | k_is
      | exact ⟨by k_is, ⟨⟨_, _, _, _, _, _, _, _, _, rfl, by k_is, by k_is⟩, by k_is⟩⟩
      | exact ⟨⟨_, _, _, _, _, _, _, _, _, rfl, by k_is, by k_is⟩, by k_is⟩
      | exact ⟨⟨_, _, _, _, _, _, _, _, _, _, _, _, _, _, _, by k_is⟩, by kernel_rfl⟩
      | exact ⟨by k_is, by k_is, by k_is, rfl⟩
      | rfl
      | kernel_rfl
      | (repeat first | exact Nv.Each.nil | refine Nv.Each.cons (by k_is) ?_)
