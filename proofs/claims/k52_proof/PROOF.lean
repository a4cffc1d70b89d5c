import PyProof.Rows.All
import Wide.All
import OpenK.AllK
import Wide.FinOn
import Lean
import PyProof.EqAt
import PyProof.EqKinds
import PyProof.TupleCall
import PyProof.WalksMore
import PyProof.Rows.SetFrom
import PyProof.CompMap
import PyProof.ZipIter
import KE.IntTextLaws
import KE.KIntText
import KE.KDictSum
import KE.KLam
import PyProof.StationsW
import PyProof.InstStoreFacts
import PyProof.ExcBaseAll.ValueError
import PySem.Challenge.RW_kinddeeds_k52_expressions_read
set_option Elab.async false
set_option linter.all false
set_option compiler.extract_closed false
set_option genSizeOf false
set_option bootstrap.genMatcherCode false
set_option maxRecDepth 100000
set_option maxHeartbeats 4000000
noncomputable section
structure PySem.W.Fast:Prop where(tw5541261396618735972 tw11569560420444288980 tw3764290897624482587 tw6269970544605553241 tw10476807850051989421 tw2836807104140007609 tw1613629732917227627 tw3501376306931852482 tw7566258430814598734 tw9982495689381159846 tw16704928565209667656 tw14348564431839915912 tw3665336767213895432 tw5556623301175267536 tw303598090579273720 tw12869664500416290381 tw9515212048592213835 tw8046101430633363572 tw16947442826397199585 tw11394363049476873817 tw12281802987787016945 tw13938428755965227947 tw9710660774201431153 tw3189810574539345827 tw6663802012447520035 tw2370027772371660255 tw6236386957051403509 tw13590941311184553019 tw3349550996429619556 tw4790244724761327143 tw8015305058481891655 tw9990868057045548088 tw16461217062902513938 tw15149836425541726123 tw15447972374110691911 tw9184833281704075917 tw16754057822009708313 tw10329181208544478946 tw508746000455167491 tw15283365310787282878 tw10214906442903069471 tw16603394033675801890 tw12333664915557338191 tw3851301153185176853 tw8006023707618738628 tw10472539619862212543 tw13271183405550184582 tw5818065022840708770 tw8534678223345508727 tw6015048809309183495 tw5283234461126377958 tw17310220259365801936 tw591910218253626981 tw4697278565762064694 tw473358773140205603 tw13891749194689547660 tw6748760941527958423 tw14229185362643999625 tw3134619876843189865 tw9043432663307411266 tw2488373012242548092 tw8652768026423062013 tw4363322219437745522 tw380953933993117982 tw10014158695525665430 tw1607560715361020273 tw13760168640856878468 tw11886590047410424681 tw6304508412098692033 tw17645281604653385965 tw17280097217084776346 tw2424683689772822747 tw17146738996315225993 tw4418592867677869920 tw3319304309486079448 tw14711423366924258932 tw17948925158032168812 tw15786831262588220275 tw17356796662072368196 tw4531162329454243311 tw14498019374660686676 tw16446643821725492705 tw6884638614180534415 tw17690535326521390087 tw4835507724327313282 tw2699585871583555408 tw4430764840029708343 tw402446667318758486 tw323532792427433100 tw9940562192936895329 tw9244341186638076281 tw18413823445083845402 tw15287252812830851492 tw13129031137697603095 tw9542716890645150372 tw16477027735068528938 tw8916280174252034569 tw10190501224766141151 tw10029902703240421088 tw12145299590306975722 tw3528190659960553526 tw7686076644509438559 tw18079350347513234838 tw10213371316422098442 tw17778275702941342995 tw15534254589623841915 tw3928511550012938267 tw12820730939265540302 tw3161306830007432576 tw10122716410742494561 tw3651557464423685136 tw5966358181384567341 tw7022164139141732714 tw1542374244769288725 tw10037173332617169713 tw2594534829599161656 tw7382103092630317355 tw16027142427908014964 tw13484726193132732756 tw10914764918842478678 tw8980987753497211788 tw3438258021557909845 tw7692852488099077918 tw1014345376383675724 tw3301904344507612429 tw494212646298380943 tw2927370930469786187 tw3403726741844298401 tw5198935862483574024 tw5188624410812755944 tw14560222498735843433 tw13649936869172047223 tw11536578241154684598 tw3091982376548012651 tw5233471634603429549 tw15750113374561930131 tw1972900484775660524 tw1919440117533247562 tw4077349385059918 tw3873471944749430874 tw7534866497421662486 tw10969787036306546793 tw4363273718827229158 tw7785898884626958463 tw12314733664950410177 tw14466167577064870536 tw15404554387676984365 tw14349218066792569168 tw6488841913319827891 tw3953101772584557658 tw12442062692110439296 tw14323585144959291014 tw12089376352130977376 tw6005467415678547577 tw6918125262668671431 tw13239409671871278961 tw3948780774943685044 tw4295105382873110449 tw9999574556744392337 tw362287193527449750 tw1949914978859761935 tw8333986572019834594 tw14165153528038555972 tw2323697431181226220 tw10292411912021729720 tw10324503754064197519 tw14906113554977037736 tw13215092813921778152 tw17785898760260174401 tw2632587761429651140 tw1246333325338979560 tw12316730725788549872 tw8295196570221976079 tw3468332285065482193 tw1302662983361923617 tw16907034318693594644 tw5558521874921240568 tw16612701063610694940 tw15451489536014475583 tw12924164268206015829 tw3628334649346211624 tw16315736123694933847 tw1084413848374664788 tw13440324963674271694 tw554251643174689222 tw11163121122135090504 tw11925418654679952169 tw11830226125658941014 tw12529720369019175637 tw6586672102271416105 tw7011112723894289875 tw1364660490210317071 tw8935254451694036069 tw2203590127690858581 tw17302950656693769941 tw12392574021781389705 tw5410442917656351380 tw8292637821420923782 tw1308416688190980969 tw5214783738939597250 tw14884105941965832500 tw7060459217928559793 tw6487806223616731506 tw10929336474089128162 tw13886912031689061156 tw18012425871142367944 tw7776075455783888288 tw162509097368188874 tw3971018330093496722 tw8003632147734798965 tw12525916302629193877 tw15066758523008731572 tw6392690663579675001 tw14879372360288237799 tw9143296840088143754 tw4472333592969414097 tw945091083674560156 tw17039260203852239190 tw5014106830899714004 tw7133855542867883428 tw5304468392911170936 tw3229850848808714499 tw456236872516849641 tw2224500180943094413 tw4336769113367953509 tw15429445664474569952 tw9698606518690521191 tw4549068295515616570 tw5395095547367640464 tw6174014437535177227 tw1313433749080555427 tw7392369622970419790 tw12105294656782000819 tw11769413079087636671 tw5500572405688772154 tw1913260210894320355 tw15403115953551440142 tw226964678253217236 tw18273063183811609259 tw11306449738106344537 tw12645386676823990811 tw1662497945630338624 tw17453487115443449515 tw2278686201332451109 tw3729887322004534934 tw3673678071459580672 tw3252142051942364395 tw4503813209611730066 tw12614591696995338720 tw6282650375704072455 tw7765173619400576188 tw4225315745107067435 tw5969600399414508952 tw2492907786791061894 tw15676751355285433455 tw10776127231938524161 tw11199751305780116851 tw1292951871680242577 tw16943307378248959244 tw4627777104310957206 tw17222218996429221721 tw13999390757004793052 tw5035624850706465105 tw7627665304902450005 tw11187955187740782766 tw11615275794494255846 tw4418468881263468377 tw10467686867465427864 tw2518935788583184201 tw9653803102682392299 tw2301212810123770938 tw15126475139433712262 tw14458923930741915688 tw8145798083492059032 tw7885973698900006204 tw9399616235512518441 tw17297339344204511780 tw9639099187094159794 tw8486485004904308814 tw2138215171703154817 tw15869582549067912527 tw5927998166930687560 tw14838569389757040699 tw564065798822733360 tw15446240935563304681 tw7200194526629564893 tw6643325602405366240 tw4019079252609568617 tw12059377633826778370 tw15641787376587070415 tw8433156632710517102 tw15021813667229970848:True)
open List (mem_cons nodup_append mem_filter mem_range filterMap_cons mem_filterMap size_toArray map_cons append_nil nodup_cons of_mem_zip length_take length_drop map_nil lookup_cons all_eq_true getElem_mem append_assoc perm_append_comm ext_getElem? set_set length_eq_zero_iff length_set zip_cons_cons all_cons foldl_cons nil_append not_lt contains_cons take_of_length_le length_range map_congr_left foldl_append length_nil map_map mem_map_of_mem mem_map cons_append not_mem_nil pairwise_map map_append sum_cons map_id'' drop_left take_left mem_of_mem_drop map_take map_drop)
open PySem.W (instObj methodObj hideAll hideAll_size hideAll_get of_hideAll hideAll_none lookIn InstAt plainGet hasDictIn findIn handedIn plainGet_of findObj_own isFn plainOver takerIn set_plain any_some Looks looks_clsIn makesIn typeIn InitBack emptyDict looks_findIn bind_fn keepIn callWith_K callWith_K0 cellsFrom_some codeIn codeRec_of kitOne kia_one kitx_none kitx_bool kitx_int kitx_str kitx_tuple clsIn looks_mroIn mroIn check_slot osa_eq handed_on notCls specialIn takesIn KitX kitAny methodCall_KW CodeHd kla_fn tabObj envX codeHdIn codeHd_of_K subIn kitCls nsIn mg_of)
abbrev _root_.Va:=PySem.Value->PySem.Shared->Prop
abbrev _root_.Oa:=List (PySem.Addr×PySem.Obj)
abbrev _root_.ng(x:PySem.Str):Prop:=(x==("__debug__":PySem.Str))=false
local macro_rules
|`($k^^^$n&&&$e)=>`($k==PySem.NameKind.free&&($e).scope.kind == .function&&($e).kindOf $n==some .cell)
|`($x|||$m)=>`(PySem.wpAny (PySem.model ($x).prog ($x).w) ($x).A $m)
local macro_rules
|`(#[$xs,*])=>`(⟨$xs,*⟩)
theorem mS{α:Type}{a:α}{l:List α}:a∈a::l:=List.mem_cons_self
theorem mC{α:Type}{a b:α}{l:List α}(h:b∈l):b∈a::l:=List.mem_cons_of_mem a h
theorem mL{α:Type}{a:α}{l m:List α}(h:a∈l):a∈l++m:=List.mem_append_left m h
theorem mR{α:Type}{a:α}{l m:List α}(h:a∈m):a∈l++m:=List.mem_append_right l h
theorem mE{α:Type}{a b:α}(h:a∈[b]):a=b:=List.mem_singleton.mp h
theorem mZ{α:Type}{a:α}{l m:List α}(h:a∈l++m):a∈l\/a∈m:=List.mem_append.mp h
theorem mK{α:Type}{a b:α}{l:List α}(h:a∈b::l):a=b\/a∈l:=mem_cons.mp h
theorem dF{p:Prop}[Decidable p](h:¬p):decide p=false:=decide_eq_false h
theorem dZ{p:Prop}[Decidable p](h:p):decide p=true:=decide_eq_true h
theorem oB{α β:Type}{x:Option α}{f:α->Option β}{b:β}(h:x.bind f=some b):∃a,x=some a/\f a=some b:=Option.bind_eq_some_iff.mp h
theorem oM{α β:Type}{x:Option α}{f:α->β}{b:β}(h:x.map f=some b):∃a,x=some a/\f a=b:=Option.map_eq_some_iff.mp h
theorem lR{n:Nat}:n<=n:=Nat.le_refl n
theorem lA{α:Type}{a b:List α}:(a++b).length=a.length+b.length:=List.length_append
theorem lS{α:Type}{a:α}:[a].length=1:=rfl
theorem lC{α:Type}{a:α}{l:List α}:(a::l).length=l.length+1:=rfl
theorem lM{α β:Type}{f:α->β}{l:List α}:(l.map f).length=l.length:=List.length_map f
theorem bA(a b:Bool):((a&&b)=true)=(a=true/\b=true):=Bool.and_eq_true a b
theorem PySem.wB{α β:Type}{M:PySem.Model}{A:PySem.Around}{E:PySem.Value->PySem.Shared->Prop}{s:PySem.Shared}{m:PySem.Sem α}{f:α->PySem.Sem β}{Q:β->PySem.Shared->Prop}(h:PySem.wpAny M A m (λa s'=>PySem.wpAny M A (f a) Q E s') E s):PySem.wpAny M A (m>>=f) Q E s:=PySem.wpAny_bind h
theorem PySem.wP{α:Type}{M:PySem.Model}{A:PySem.Around}{E:PySem.Value->PySem.Shared->Prop}{s:PySem.Shared}{a:α}{Q:α->PySem.Shared->Prop}(h:Q a s):PySem.wpAny M A (pure a) Q E s:=PySem.wpAny_pure h
theorem PySem.gP{h:PySem.Heap}{b:PySem.Addr}{o u:PySem.Obj}(e:h.get? b=some u):(h.push o).get? b=some u:=PySem.Heap.get?_push_of_some o e
theorem iP{c:Prop}{i:Decidable c}(h:c){α:Type}{t e:α}:(@ite α c i t e)=t:=if_pos h
theorem iN{c:Prop}{i:Decidable c}(h:¬c){α:Type}{t e:α}:(@ite α c i t e)=e:=if_neg h
theorem nA{α:Type}{l m:List α}(h:(l++m).Nodup):l.Nodup/\m.Nodup/\∀a∈l,∀b∈m,a≠b:=nodup_append.mp h
namespace L2
open PySem PySem.Spec PyProof.Rows
abbrev Key:=Sum Int Str
def Yf:Key->Value->Bool
 |.inl k,v=>Value.isInt k v
 |.inr x,v=>Value.isStrOf x v
def lx(w:World):Key->Int
 |.inl k=>hashInt k
 |.inr x=>hashStr w x
theorem B9:∀{k:Key} {v:Value},Yf k v=true->(∃i t,k=Sum.inl i/\v=Value.int i t)\/(∃x t,k=Sum.inr x/\v=Value.str x t)
 | .inl i,v,h=>by
   obtain⟨t,e⟩:=Value.isInt_shape (k:=i) (v:=v) h;exact .inl #[i,t,rfl,e]
 | .inr x,v,h=>by
   obtain⟨t,e⟩:=Value.isStrOf_shape (x:=x) (v:=v) h;exact .inr #[x,t,rfl,e]
theorem aH(a b:Int):decide ((Sum.inl a:Key)=Sum.inl b)=(a==b):=by
 by_cases e:a=b
 .subst e;simp
 .have h:¬(Sum.inl a:Key)=Sum.inl b:=λq=>e (Sum.inl.inj q)
  rw[dF h];exact(beq_eq_false_iff_ne.mpr e).symm
theorem aE(a b:Str):decide ((Sum.inr a:Key)=Sum.inr b)=decide (a=b):=by
 by_cases e:a=b
 .subst e;simp
 .have h:¬(Sum.inr a:Key)=Sum.inr b:=λq=>e (Sum.inr.inj q)
  rw[dF h,dF e]
theorem aG(a:Int)(b:Str):decide ((Sum.inl a:Key)=Sum.inr b)=false:=dF (λq=>nomatch q)
theorem aF(a:Str)(b:Int):decide ((Sum.inr a:Key)=Sum.inl b)=false:=dF (λq=>nomatch q)
noncomputable def JW(prog:Program)(w:World):PySem.KeyKind prog w Key where
 is:=Yf
 hash:=lx w
 inj :=λv a b ha hb=>by
  rcases B9 ha with⟨i,t,rfl,rfl⟩|⟨x,t,rfl,rfl⟩
  .rcases B9 hb with⟨j,u,rfl,e⟩|⟨y,u,rfl,e⟩
   .injection e with e1 _;rw[e1]
   .exact nomatch e
  .rcases B9 hb with⟨j,u,rfl,e⟩|⟨y,u,rfl,e⟩
   .exact nomatch e
   .injection e with e1 _;rw[e1]
 byValue:=λk v h=>by
  rcases B9 h with⟨i,t,rfl,rfl⟩|⟨x,t,rfl,rfl⟩<;>rfl
 pyHash:=λhv h=>by
  rcases B9 hv with⟨i,t,rfl,rfl⟩|⟨x,t,rfl,rfl⟩
  .exact wpAny_pyHash_int h
  .exact wpAny_pyHash_str h
 eqBool:=λhu hv h=>by
  rcases B9 hu with⟨i,t,rfl,rfl⟩|⟨x,t,rfl,rfl⟩
  .rcases B9 hv with⟨j,u,rfl,rfl⟩|⟨y,u,rfl,rfl⟩
   .rw[aH]at h;exact wpAny_eqBool_int h
   .rw[aG]at h;exact SeqAt.EqAt.int_str i t y u _ _ _ _ h
  .rcases B9 hv with⟨j,u,rfl,rfl⟩|⟨y,u,rfl,rfl⟩
   .rw[aF]at h;exact SeqAt.EqAt.str_int x t j u _ _ _ _ h
   .rw[aE]at h;exact wpAny_eqBool_str h
 «strs»:=λk x t v h=>by
  rcases B9 h with⟨i,u,rfl,e⟩|⟨y,u,rfl,e⟩
  .exact nomatch e
  .injection e with e1 _
   subst e1;cases v<;>rfl
inductive V where
 |Az|bl (b:Bool)|int (i:Int)|str (x:Str)|YB (b:Array UInt8)|jx (b:UInt64)|ref (a:Addr)|ty (n:String)
 deriving DecidableEq
noncomputable def RelV:V->Value->Prop
 |.Az,u=>u=Value.none
 |.bl b,u=>u=Value.bool b
 |.int i,u=>∃t,u=Value.int i t
 |.str x,u=>∃t,u=Value.str x t
 |.YB b,u=>∃t,u=Value.bytes b t
 |.jx b,u=>∃t,u=Value.float b t
 |.ref a,u=>u=Value.ref a
 |.ty n,u=>u=Value.type n
abbrev Vals:List V->List Value->Prop:=Paired RelV
variable{us:List Value}
theorem Vals.length{xs:List V}(r:Vals xs us):xs.length=us.length:=Paired.length r
theorem Vals.get:∀{xs:List V} {us:List Value} {i:Nat} {x:V},Vals xs us->xs[i]? =some x->∃u,us[i]? =some u/\RelV x u
 |_,_,_,_,.nil,e=>by simp at e
 |_,_,0,_,.cons r _,e=>by simp at e;subst e;exact#[_,rfl,r]
 | _,_,i+1,x,.cons _ t,e=>by
   obtain⟨u,h1,h2⟩:=Vals.get (i:=i) (x:=x) t (by simpa using e);exact#[u,by simpa using h1,h2]
theorem Vals.append:∀{xs ys:List V} {us ws:List Value},Vals xs us->Vals ys ws->Vals (xs++ys) (us++ws)
 |_,_,_,_,.nil,s=>s
 |_,_,_,_,.cons r t,s=>.cons r (Vals.append t s)
theorem Vals.take:∀{xs:List V} {us:List Value} (n:Nat),Vals xs us->Vals (xs.take n) (us.take n)
 |_,_,0,_=>.nil
 |_,_,_+1,.nil=>.nil
 |_,_,n+1,.cons r t=>.cons r (Vals.take n t)
theorem Vals.drop:∀{xs:List V} {us:List Value} (n:Nat),Vals xs us->Vals (xs.drop n) (us.drop n)
 |_,_,0,r=>r
 |_,_,_+1,.nil=>.nil
 |_,_,n+1,.cons _ t=>Vals.drop n t
def Iz:Option V->Option Value->Prop
 |some v,some u=>RelV v u
 |none,none=>True
 |_,_=>False
def KV{κ:Type}:List (κ×V)->List (κ×Value)->Prop:=Paired λ(p:κ×V) (q:κ×Value)=>p.1=q.1/\RelV p.2 q.2
def kV:Key->V
 |.inl i=>.int i
 |.inr x=>.str x
inductive HO where
 |lst (xs:List V)
 |tup (xs:List V)
 |dK (kvs:List (Key×V))|dT (kvs:List (List Key×V))
 |set (S:Int->Bool)(n:Nat)
 |ins (C dx:Addr)(fs:List (Str×V))
 |own (x:Addr)
 |xd (fs:List (Str×V))
 |met (f x:Addr)
 |Co (lo hi:Int)
 |E4 (o:Obj)(u:HO)
 |Jy (ps:Array Value)
 |ext (φ:Heap->Prop)
abbrev Hp:=Addr->Option HO
def upd(H:Hp)(a:Addr)(o:HO):Hp:=λb=>if b=a then some o else H b
variable{H:Hp}
theorem Ar:upd H a o a=some o:=by unfold upd;rw[iP rfl]
theorem Ab{a b:Addr}(h:b≠a):upd H a o b=H b:=by unfold upd;rw[iN h]
theorem AL{o:HO}(h:H a=some o)(h':H b=none):a≠b:=by
 intro e;subst e;rw[h]at h';cases h'
section
variable (P:Program)(w:World)
noncomputable def BW(H:Hp)(h:Heap)(a:Addr):HO->Prop
 |.lst xs=>xs.length<=sizeLine/\∃(its:List Value) (n:Nat),Vals xs its/\h.get? a=some {cls:=.type "list",data:=.seq its.toArray n}
 |.tup xs=>xs.length<=sizeLine/\∃its:List Value,Vals xs its/\IsTup h a its.toArray
 |.dK kvs=>kvs.length<=sizeLine/\(a==sysModules)=false/\∃vs,KV kvs vs/\h.DictOf (JW P w) a vs
 | .dT kvs=>kvs.length<=sizeLine/\(a==sysModules)=false/\∃xs:List (List Key×Addr×Value),
  Paired (λ(p:List Key×V) (q:List Key×Addr×Value)=>p.1=q.1/\H q.2.1=some (.tup (p.1.map kV))/\RelV p.2 q.2.2) kvs xs/\
  ∃o es ep,h.get? a=some o/\o.ExactDict/\o.data= .dict es ep/\es.toList=xs.map (entryOfKey (tupleKind (JW P w)))/\(xs.map (·.1)).Nodup
 |.set S n=>h.SetOf (intKind P w) a S n
 | .ins C dx fs=>H dx=some (.own a)/\fs.length<=1000/\dx≠a/\h.get? a=some (instObj C dx)/\
  ∃mA,h.Ns1 dx mA/\(∀f,Iz (fs.lookup f) (mA f))/\PySem.Within mA (fs.map (·.1))
 |.own _=>∃o,h.get? a=some o
 |.xd fs=>∃mA,h.Ns1 a mA/\∀f,Iz (fs.lookup f) (mA f)
 |.Co lo hi=>∃t u v,h.get? a=some {cls:=.type "range",data:=.fields [.int lo t,.int hi u,.int 1 v].toArray}
 |.E4 o u=>h.get? a=some o/\BW H h a u
 |.Jy ps=>h.get? a=some {cls:=.none,data:=.fields ps}
 |.met f x=>h.get? a=some (methodObj (.ref f) (.ref x))
 |.ext φ=>φ h/\(∃o,h.get? a=some o)/\∀h1 h2:Heap,φ h1->(∀o,h1.get? a=some o->h2.get? a=some o)->φ h2
def Ff(H:Hp)(h:Heap):Prop:=∀a o,H a=some o->BW P w H h a o
end
section
variable{P:Program}{w:World}{H H':Hp}{h h':Heap}{a:Addr}{o:HO}
theorem BW.lt(x:BW P w H h a o):a<h.objs.size:=by
 cases o with
 |lst xs=>obtain⟨_,_,_,_,e⟩:=x;exact Heap.lt_size e
 |tup xs=>obtain⟨_,_,_,p⟩:=x;exact p.lt
 |dK kvs=>obtain⟨_,_,_,_,o,_,_,e,_⟩:=x;exact Heap.lt_size e
 |dT kvs=>obtain⟨_,_,_,_,o,_,_,e,_⟩:=x;exact Heap.lt_size e
 |set S n=>obtain⟨o,_,_,_,e,_⟩:=x;exact Heap.lt_size e
 |ins C dx fs=>obtain⟨_,_,_,e,_⟩:=x;exact Heap.lt_size e
 |own y=>obtain⟨_,e⟩:=x;exact Heap.lt_size e
 |xd fs=>obtain⟨_,⟨_,_,_,e,_⟩,_⟩:=x;exact Heap.lt_size e
 |Co lo hi=>obtain⟨_,_,_,e⟩:=x;exact Heap.lt_size e
 |E4 ob u=>obtain⟨e,_⟩:=x;exact Heap.lt_size e
 |Jy ps=>exact Heap.lt_size (show h.get? a=some _ from x)
 |met f y=>exact Heap.lt_size (show h.get? a=some _ from x)
 |ext φ=>obtain⟨_,⟨_,e⟩,_⟩:=x;exact Heap.lt_size e
theorem Paired.gn{α β:Type}{F G:α->β->Prop}:∀{l₁:List α} {l₂:List β},Paired F l₁ l₂->(∀a b,F a b->G a b)->Paired G l₁ l₂
 |_,_,.nil,_=>.nil
 |_,_,.cons r t,f=>.cons (f _ _ r) (Paired.gn t f)
theorem BW.Di(x:BW P w H h a o)(k:∀b u,(b=a\/H b=some (.own a))->h.get? b=some u->h'.get? b=some u)
 (ho:∀b,H b=some (.own a)->H' b=some (.own a))(ht:∀b xs,H b=some (.tup xs)->H' b=some (.tup xs)):BW P w H' h' a o:=by
 induction o with
 |lst xs=>obtain⟨z,its,n,r,e⟩:=x;exact#[z,its,n,r,k _ _ (.inl rfl) e]
 |tup xs=>obtain⟨z,its,r,ob,e,c⟩:=x;exact#[z,its,r,ob,k _ _ (.inl rfl) e,c]
 |dK kvs=>obtain⟨z,y,vs,r,ob,es,ep,e,c⟩:=x;exact#[z,y,vs,r,ob,es,ep,k _ _ (.inl rfl) e,c]
 |dT kvs=>
   obtain⟨z,y,xs,r,ob,es,ep,e,c⟩:=x;exact#[z,y,xs,Paired.gn r λp q z=>#[z.1,ht _ _ z.2.1,z.2.2],ob,es,ep,k _ _ (.inl rfl) e,c]
 |set S n=>obtain⟨ob,es,ep,t,e,c⟩:=x;exact#[ob,es,ep,t,k _ _ (.inl rfl) e,c]
 |ins C dx fs=>
   obtain⟨d,z,ne,e,mA,⟨od,es,ep,e2,c⟩,r⟩:=x;exact#[ho _ d,z,ne,k _ _ (.inl rfl) e,mA,#[od,es,ep,k _ _ (.inr d) e2,c],r]
 |own y=>obtain⟨ob,e⟩:=x;exact#[ob,k _ _ (.inl rfl) e]
 |xd fs=>obtain⟨mA,⟨od,es,ep,e,c⟩,r⟩:=x;exact#[mA,#[od,es,ep,k _ _ (.inl rfl) e,c],r]
 |Co lo hi=>obtain⟨t,u,v,e⟩:=x;exact#[t,u,v,k _ _ (.inl rfl) e]
 |E4 ob u ih=>obtain⟨e,q⟩:=x;exact#[k _ _ (.inl rfl) e,ih q]
 |Jy ps=>
   have e:h.get? a=some {cls:=.none,data:=.fields ps}:=x;show h'.get? a=some {cls:=.none,data:=.fields ps};exact k a _ (.inl rfl) e
 |met f y=>
   have e:h.get? a=some (methodObj (.ref f) (.ref y)):=x;show h'.get? a=some (methodObj (.ref f) (.ref y));exact k a _ (.inl rfl) e
 |ext φ=>obtain⟨p,⟨o,e⟩,st⟩:=x;exact#[st _ _ p λo q=>k _ _ (.inl rfl) q,#[o,k _ _ (.inl rfl) e],st]
theorem Ff.lt(x:Ff P w H h)(e:H a=some o):a<h.objs.size:=(x a o e).lt
theorem Ff.fresh(x:Ff P w H h)(e:h.objs.size<=a):H a=none:=by
 cases q:H a with
 |none=>rfl
 |some u=>exact absurd (Nat.lt_of_lt_of_le (x.lt q) e) (Nat.lt_irrefl _)
theorem Ff.kept(x:Ff P w H h)(k:∀b u,h.get? b=some u->h'.get? b=some u):Ff P w H h':=λa o e=>
 (x a o e).Di (λb u _ q=>k b u q) (λ_ q=>q) λ_ _ q=>q
theorem Ff.laid(x:Ff P w H h)(k:∀b u,h.get? b=some u->h'.get? b=some u)(hp:h.objs.size<=a)(new:BW P w (upd H a o) h' a o):Ff P w (upd H a o) h':=λb u e=>by
 have hn:=x.fresh hp
 by_cases hb:b=a
 .subst hb;rw[Ar]at e;cases e;exact new
 .rw[Ab hb]at e;exact(x b u e).Di (λc v _ q=>k c v q) (λc q=>by rw[Ab (AL q hn)];exact q) λc xs q=>by rw[Ab (AL q hn)];exact q
end
def Rd(H:Hp)(a:Addr)(u:HO):Prop:=H a=some u\/∃o,H a=some (.E4 o u)
variable{w:World}{h:Heap}
theorem Rd.ok{P:Program}(r:Rd H a u)(x:Ff P w H h):BW P w H h a u:=by
 rcases r with r|⟨o,r⟩
 .exact x a u r
 .obtain⟨_,q⟩:=x a _ r;exact q
def jY:Option HO->Prop
 |some (.lst _)=>True
 |some (.dK _)=>True
 |some (.dT _)=>True
 |some (.set _ _)=>True
 |some (.ins _ _ _)=>True
 |some (.ext _)=>True
 |_=>False
section
variable{P:Program}{w:World}{H:Hp}{h h':Heap}{x e:Addr}{o':HO}
theorem Ff.write(ok:Ff P w H h)(mu:jY (H x))(he:e=x\/H e=some (.own x))(k:∀b u,b≠e->h.get? b=some u->h'.get? b=some u)(heo:∃u,h'.get? e=some u)
 (new:BW P w (upd H x o') h' x o'):Ff P w (upd H x o') h':=λb u q=>by
 have nown:∀c y,H c=some (.own y)->c≠x:=λc y r z=>by subst z;rw[r]at mu;exact mu
 have ntup:∀c xs,H c=some (.tup xs)->c≠x:=λc xs r z=>by subst z;rw[r]at mu;exact mu
 by_cases hb:b=x
 .subst hb;rw[Ar]at q;cases q;exact new
 .rw [Ab hb]at q
  by_cases hbe:b=e
  .have q':H b=some (.own x):=by
    rcases he with z|z
    .exact absurd (hbe.trans z) hb
    .rw[hbe];exact z
   rw[q]at q';cases q';obtain⟨v,hv⟩:=heo;exact#[v,by rw[hbe];exact hv]
  .refine(ok b u q).Di (λc v hc r=>k c v ?_ r) (λc r=>by rw[Ab (nown c b r)];exact r) λc xs r=>by rw[Ab (ntup c xs r)];exact r
   rcases hc with rfl|hc
   .exact hbe
   .rintro rfl
    rcases he with z|z
    .exact nown c b hc z
    .rw[hc]at z;cases z;exact hb rfl
end
structure Un(fs ex:List Addr)(H H':Hp)(h h':Heap):Prop where
 keep:∀b o,h.get? b=some o->H b=none->b∉fs->b∉ex->h'.get? b=some o
 A4:∀b o,h.get? b=some o->H b=none->b∈fs->b∉ex->∃sl,h'.get? b=some {o with slots:=sl}
 free:∀b o,h.get? b=some o->H b=none->b∉ex->H' b=none
 there:∀b o,h.get? b=some o->b∉ex->∃o',h'.get? b=some o'
 FY:∀b xs,H b=some (.tup xs)->H' b=some (.tup xs)
 DK:∀b o u,H b=some (.E4 o u)->H' b=some (.E4 o u)
 Fj:∀b ps,H b=some (.Jy ps)->∃more,H' b=some (.Jy (ps++more))
section
variable{fs fs' ex ex':List Addr}{H H1 H2:Hp}{h h1 h2 h':Heap}{a x e:Addr}{o:HO}
theorem Un.any(u:Un fs ex H H1 h h1){ob:Obj}(q:h.get? b=some ob)(n:H b=none)(hx:b∉ex):∃sl,h1.get? b=some {ob with slots:=sl}:=by
 by_cases hb:b∈fs
 .exact u.A4 b ob q n hb hx
 .exact#[ob.slots,u.keep b ob q n hb hx]
theorem Un.kept(k:∀b u,h.get? b=some u->h'.get? b=some u):Un fs ex H H h h':=
 #[λb ob q _ _ _=>k b ob q,λb ob q _ _ _=>#[ob.slots,k b ob q],λ_ _ _ n _=>n,λb ob q _=>#[ob,k b ob q],λ_ _ q=>q,λ_ _ _ q=>q,λ_ ps q=>#[[].toArray,by rw[q];simp]]
theorem Un.refl:Un fs ex H H h h:=Un.kept λ_ _ q=>q
theorem Un.laid(k:∀b u,h.get? b=some u->h'.get? b=some u)(hp:h.objs.size<=a)(hn:H a=none):Un fs ex H (upd H a o) h h' where
 keep:=λb u q _ _ _=>k b u q
 A4:=λb u q _ _ _=>#[u.slots,k b u q]
 free:=λb u q n _=>by rw[Ab (Nat.ne_of_lt (Nat.lt_of_lt_of_le (Heap.lt_size q) hp))];exact n
 there:=λb u q _=>#[u,k b u q]
 FY:=λb xs q=>by rw[Ab (AL q hn)];exact q
 DK:=λb u xs q=>by rw[Ab (AL q hn)];exact q
 Fj:=λb ps q=>#[[].toArray,by rw[Ab (AL q hn),q];simp]
theorem Un.write(mu:jY (H x))(he:e=x\/H e=some (.own x))(k:∀b u,b≠e->h.get? b=some u->h'.get? b=some u)(heo:∃u,h'.get? e=some u):Un fs ex H (upd H x o) h h':=by
 have hx:∀b,H b=none->b≠x:=λb n z=>by subst z;rw[n]at mu;exact mu
 have hb:∀b,H b=none->b≠e:=λb n z=>by
  subst z;rcases he with r|r
  .exact hx b n r
  .rw[n]at r;cases r
 have hm:∀b u,H b=some u->¬jY (some u)->b≠x:=λb u q nm z=>by subst z;rw[q]at mu;exact nm mu
 refine⟨λb u q n _ _=>k b u (hb b n) q,λb u q n _ _=>#[u.slots,k b u (hb b n) q],λb u q n _=>by rw[Ab (hx b n)];exact n,λb u q _=>?_,
  λb xs q=>by rw[Ab (hm b _ q λz=>z)];exact q,λb u xs q=>by rw[Ab (hm b _ q λz=>z)];exact q,λb ps q=>#[[].toArray,by rw[Ab (hm b _ q λz=>z),q];simp]⟩
 by_cases hbe:b=e
 .subst hbe;exact heo
 .exact#[u,k b u hbe q]
end
def je(h:Heap)(H:Hp):List Addr:=(List.range h.objs.size).filter λa=>(H a).isSome
def Iw(h:Heap)(H:Hp):Heap:=hideAll h (je h H)
theorem PJ(h:Heap)(H:Hp):(Iw h H).objs.size=h.objs.size:=hideAll_size _ _
theorem Sg{o:Obj}(e:h.get? b=some o)(n:H b=none):(Iw h H).get? b=some o:=
 hideAll_get _ e λhm=>by
  have q:(H b).isSome=true:=(mem_filter.mp hm).2;rw[n]at q;simp at q
theorem VG{o:Obj}(e:(Iw h H).get? b=some o):h.get? b=some o/\H b=none:=by
 have e':h.get? b=some o:=of_hideAll (je h H) e;refine#[e',?_];cases q:H b with
 |none=>rfl
 |some x=>
   have hm:b∈je h H:=mem_filter.mpr #[mem_range.mpr (Heap.lt_size e'),by simp[q]];have z:(Iw h H).get? b=none:=hideAll_none (je h H) hm;rw[z]at e;cases e
def Xa(g h:Heap)(L:Addr):List (Addr×Obj):=(List.range h.objs.size).filterMap λa=>if a=L\/(g.get? a).isSome=true then none else(h.get? a).map λo=>(a,o)
def rest(g h:Heap)(L d:Addr):List (Addr×Obj):=(Xa g h L).filter λp=>decide (p.1≠d)
structure Mod(K:PySem.W.Frag)(mg:Str->Option Value)(base:Heap):Prop where
 PB:K.In base
 glob:base.Ns mainGlobals mg
 blt:∃mb,base.Ns builtinsNs mb/\∀x:Str,x≠"__name__"->mb x=bootBuiltins x
 nolimit:base.NoLimit
structure Cx where
 prog:Program
 w:World
 K:PySem.W.Frag
 mg:Str->Option Value
 base:Heap
 A:Around
 N:List Str
 s₀:Shared
 H₀:Hp
 env:Env
 outer:List Env
 stack:List Env
 ex:List Addr
 fn:Str->Bool
 calm:Bool
 pn:List (Addr×Obj)
 xe:Value->Shared->Prop
def Cv(l:List Env):List Addr:=l.filterMap (·.frame)
abbrev Cx.fs(X:Cx):List Addr:=Cv X.outer
def dH(sc:Scope)(x:Str):Prop:=sc.names.lookup x=some .local\/sc.names.lookup x=some .cell\/sc.names.lookup x=some .free
def Loc(sc:Scope)(x:Str):Prop:=sc.names.lookup x=some .local\/sc.names.lookup x=some .cell
def Look(env:Env)(h:Heap)(m:Str->Option Value)(x:Str)(u:Value):Prop:=
 (env.kindOf x=some .local/\m x=some u)\/((env.kindOf x=some .cell\/env.kindOf x=some .free)/\∃c,env.cells.lookup x=some c/\h.IsCell c (some u))
structure Cx.Ok(X:Cx):Prop where
 mod:Mod X.K X.mg X.base
 kind:X.env.scope.kind= .function
 glob:X.env.globals=mainGlobals
 blt:X.env.builtins=builtinsNs
 above:X.s₀.heap.objs.size<=X.env.locals
 inj:∀x y c,X.env.cells.lookup x=some c->X.env.cells.lookup y=some c->x=y
 has:∀x,(X.env.kindOf x=some .cell\/X.env.kindOf x=some .free)->∃c,X.env.cells.lookup x=some c
 bD:∀x c,X.fn x=true->X.env.cells.lookup x=some c->X.s₀.heap.objs.size<=c
 hd:X.calm=true->X.A.handled=none
 frames:X.A.frames=some X.stack
 eM:X.stack=X.outer\/(X.stack=X.env::X.outer/\X.env.frame=some X.env.locals)
 gW:∀b∈X.ex,b≠X.env.locals/\∀x c,X.env.cells.lookup x=some c->c≠b
 bs:∀b o,X.base.get? b=some o->X.s₀.heap.get? b=some o/\X.H₀ b=none
 Tc:X.base.objs.size<=X.s₀.heap.objs.size
 Pf:∀b o,X.base.get? b=some o->b∉X.ex
 PQ:∀b∈X.ex,b∉X.fs
 EA:X.s₀.heap.FunFrames X.base X.outer
 Wk:∀b∈X.fs,X.H₀ b=none
structure Inv(X:Cx)(A1:Oa)(Y:List (Option V))(H:Hp)(s:Shared):Prop where
 ok:X.Ok
 os:s.os=X.s₀.os
 bare:AllBare s.gens
 base:Un X.fs X.ex X.H₀ H X.s₀.heap s.heap
 loc:∃m,s.heap.Ns X.env.locals m/\∀(i:Nat) (x:Str) (v:V),X.N[i]? =some x->Y[i]? =some (some v)->dH X.env.scope x->∃u,RelV v u/\Look X.env s.heap m x u
 cell:∀x c,X.env.cells.lookup x=some c->∃v,s.heap.IsCell c v
 free:H X.env.locals=none
 D4:∀x c,X.env.cells.lookup x=some c->H c=none
 pin:∀p∈X.pn++A1,s.heap.get? p.1=some p.2/\H p.1=none/\p.1≠X.env.locals/\p.1∉X.fs/\∀v,p.2.data≠.cell v
 Ao:Ff X.prog X.w H s.heap
 len:Y.length=X.N.length
variable{X:Cx}{A1:Oa}{Y:List (Option V)}{H H':Hp}{s:Shared}{h':Heap}
theorem Cx.Ok.lj(ok:X.Ok){o:Obj}(e:X.base.get? b=some o):b∉X.fs:=λhb=>by
 have:=(ok.EA.mem hb).1;rw[e]at this;cases this
theorem Inv.bs(I:Inv X A1 Y H s):∀b o,X.base.get? b=some o->s.heap.get? b=some o/\H b=none:=λb o e=>
 #[I.base.keep b o (I.ok.bs b o e).1 (I.ok.bs b o e).2 (I.ok.lj e) (I.ok.Pf b o e),I.base.free b o (I.ok.bs b o e).1 (I.ok.bs b o e).2 (I.ok.Pf b o e)]
theorem Inv.bk(I:Inv X A1 Y H s):∀b o,X.base.get? b=some o->s.heap.get? b=some o:=λb o e=>(I.bs b o e).1
theorem Inv.mod(I:Inv X A1 Y H s):Mod X.K X.mg X.base:=I.ok.mod
theorem Inv.Cn(I:Inv X A1 Y H s):X.K.In s.heap:=I.ok.mod.PB.keeps I.bk
theorem Inv.nolimit(I:Inv X A1 Y H s):s.heap.NoLimit:=I.ok.mod.nolimit.keeps I.bk
theorem Inv.lt(I:Inv X A1 Y H s):X.env.locals<s.heap.objs.size:=let⟨_,hn,_⟩:=I.loc;hn.lt
theorem Inv.sz(I:Inv X A1 Y H s):X.s₀.heap.objs.size<=s.heap.objs.size:=Nat.le_trans I.ok.above (Nat.le_of_lt I.lt)
theorem Inv.aa(I:Inv X A1 Y H s){a:Addr}(h:s.heap.objs.size<=a):a∉X.fs:=λhb=>by
 obtain⟨_,o,ho,_⟩:=I.ok.EA.mem hb;exact absurd (Nat.lt_of_lt_of_le (Heap.lt_size ho) (Nat.le_trans I.sz h)) (Nat.lt_irrefl _)
theorem Inv.Uz(I:Inv X A1 Y H s):∀x c,X.env.cells.lookup x=some c->c≠X.env.locals:=λx c e z=>by
 obtain⟨v,o,ho,hd⟩:=I.cell x c e;obtain⟨m,⟨o',es,ep,ho',hd',_⟩,_⟩:=I.loc;rw[z,ho']at ho;cases ho;rw[hd']at hd;cases hd
theorem Inv.EA(I:Inv X A1 Y H s):s.heap.FunFrames X.base X.outer:=by
 have all:∀(l:List Env),(∀b∈Cv l,b∈X.fs)->X.s₀.heap.FunFrames X.base l->s.heap.FunFrames X.base l:=by
  intro l
  induction l with
  |nil=>intro _ _;trivial
  |cons env r ih=>
    intro hs hl;obtain⟨hk,⟨L,o,hf,hn,ho,hd⟩,hr⟩:=hl;have hL:L∈X.fs:=hs L (by unfold Cv;rw[filterMap_cons,hf];exact mS);obtain⟨sl,e⟩:=I.base.A4 L o ho (I.ok.Wk L hL) hL λz=>I.ok.PQ L z hL
    exact#[hk,#[L,_,hf,hn,e,hd],ih (λb hb=>hs b (by unfold Cv;rw[filterMap_cons,hf];exact mC hb)) hr]
 exact all X.outer (λ_ hb=>hb) I.ok.EA
theorem Inv.stack(I:Inv X A1 Y H s):s.heap.FunFrames X.base X.stack:=by
 rcases I.ok.eM with e|⟨e,hf⟩
 .rw[e];exact I.EA
 .rw[e];obtain⟨m,hn,_⟩:=I.loc;refine .cons (by rw[I.ok.kind];decide) hf hn ?_ I.EA;exact Heap.get?_none_of_le (Nat.le_trans I.ok.Tc I.ok.above)
theorem Inv.Hj(I:Inv X A1 Y H s):∀b∈Cv X.stack,b∈X.env.locals::X.fs:=λb hb=>by
 rcases I.ok.eM with e|⟨e,hf⟩
 .rw[e]at hb;exact mC hb
 .rw[e]at hb;unfold Cv at hb;rw[filterMap_cons,hf]at hb;exact hb
theorem Inv.Ec(I:Inv X A1 Y H s):∀b∈Cv X.stack,H b=none:=λb hb=>by
 rcases mK (I.Hj b hb)with e|hb
 .rw[e];exact I.free
 .obtain⟨_,o,ho,_⟩:=I.ok.EA.mem hb;exact I.base.free b o ho (I.ok.Wk b hb) λz=>I.ok.PQ b z hb
variable{g':Array GenState}{t':Nat}{d':Drawn}{ch:List Addr}
theorem Inv.step(I:Inv X A1 Y H s)
 (hch:∀b∈ch,(b∈X.ex\/X.s₀.heap.objs.size<=b)/\b≠X.env.locals/\(∀x c,X.env.cells.lookup x=some c->c≠b)/\∀p∈X.pn++A1,p.1≠b)
 (keep:∀b o,b≠X.env.locals->b∉X.fs->b∉ch->s.heap.get? b=some o->H b=none->h'.get? b=some o)
 (A4:∀b o,b≠X.env.locals->b∈X.fs->b∉ch->s.heap.get? b=some o->H b=none->∃sl,h'.get? b=some {o with slots:=sl})(free:∀b o,b∉ch->s.heap.get? b=some o->H b=none->H' b=none)
 (there:∀b o,b∉ch->s.heap.get? b=some o->∃o',h'.get? b=some o')
 (FY:∀b xs,H b=some (.tup xs)->H' b=some (.tup xs))(DK:∀b o u,H b=some (.E4 o u)->H' b=some (.E4 o u))(Fj:∀b ps,H b=some (.Jy ps)->∃more,H' b=some (.Jy (ps++more)))
 (ns:∀m,s.heap.Ns X.env.locals m->h'.Ns X.env.locals m)(Ao:Ff X.prog X.w H' h')(hg:AllBare g'):
 Inv X A1 Y H' {s with heap:=h',gens:=g',drawn:=d',toks:=t'}:=by
 have neL:∀b o,X.s₀.heap.get? b=some o->b≠X.env.locals:=λb o e=>Nat.ne_of_lt (Nat.lt_of_lt_of_le (Heap.lt_size e) I.ok.above)
 have neC:∀b o,X.s₀.heap.get? b=some o->b∉X.ex->b∉ch:=λb o e hx hb=>by
  rcases(hch b hb).1 with z|z
  .exact hx z
  .exact absurd (Nat.lt_of_lt_of_le (Heap.lt_size e) z) (Nat.lt_irrefl _)
 have cellK:∀x c,X.env.cells.lookup x=some c->∀v,s.heap.IsCell c v->h'.IsCell c v:=λx c e v ⟨o,ho,hd⟩=>by
  have nch:c∉ch:=λz=>(hch c z).2.2.1 x c e rfl
  by_cases hc:c∈X.fs
  .obtain⟨sl,q⟩:=A4 c o (I.Uz x c e) hc nch ho (I.D4 x c e);exact#[_,q,hd]
  .exact#[o,keep c o (I.Uz x c e) hc nch ho (I.D4 x c e),hd]
 refine#[I.ok,I.os,hg,#[λb o e n hb hx=>?_,λb o e n hb hx=>?_,λb o e n hx=>?_,λb o e hx=>?_,λb xs e=>FY b xs (I.base.FY b xs e),λb o xs e=>DK b o xs (I.base.DK b o xs e),λb ps e=>?_],?_,λx c e=>?_,?_,λx c e=>?_,λp hp=>?_,Ao,I.len]
 .exact keep b o (neL b o e) hb (neC b o e hx) (I.base.keep b o e n hb hx) (I.base.free b o e n hx)
 .obtain⟨sl,e1⟩:=I.base.A4 b o e n hb hx;obtain⟨sl',e2⟩:=A4 b _ (neL b o e) hb (neC b o e hx) e1 (I.base.free b o e n hx);exact#[sl',e2]
 .obtain⟨o',e1⟩:=I.base.there b o e hx;exact free b o' (neC b o e hx) e1 (I.base.free b o e n hx)
 .obtain⟨o',e1⟩:=I.base.there b o e hx;exact there b o' (neC b o e hx) e1
 .obtain⟨m1,e1⟩:=I.base.Fj b ps e;obtain⟨m2,e2⟩:=Fj b _ e1;exact#[m1++m2,by rw[e2,Array.append_assoc]]
 .obtain⟨m,hn,hl⟩:=I.loc;refine#[m,ns m hn,λi x v e1 e2 e3=>?_];obtain⟨u,r,l⟩:=hl i x v e1 e2 e3;refine#[u,r,?_];rcases l with l|⟨k,c,e,z⟩
  .exact .inl l
  .exact .inr #[k,c,e,cellK x c e _ z]
 .obtain⟨v,z⟩:=I.cell x c e;exact#[v,cellK x c e v z]
 .obtain⟨m,⟨o,_,_,ho,_⟩,_⟩:=I.loc;exact free _ o (λz=>(hch _ z).2.1 rfl) ho I.free
 .obtain⟨v,o,ho,hd⟩:=I.cell x c e;exact free c o (λz=>(hch c z).2.2.1 x c e rfl) ho (I.D4 x c e)
 .obtain⟨e,n,ne,nf,d⟩:=I.pin p hp;have nch:p.1∉ch:=λz=>(hch p.1 z).2.2.2 p hp rfl
  exact#[keep p.1 p.2 ne nf nch e n,free p.1 p.2 nch e n,ne,nf,d]
theorem Inv.un(I:Inv X A1 Y H s)(u:Un X.fs [] H H' s.heap h')(Ao:Ff X.prog X.w H' h'):Inv X A1 Y H' {s with heap:=h',toks:=t'}:=by
 obtain⟨m,⟨o,es,ep,ho,r⟩,_⟩:=id I.loc;obtain⟨sl,hL⟩:=u.any ho I.free (by simp)
 exact I.step (g':=s.gens) (d':=s.drawn) (ch:=[]) (λ_ z=>nomatch z) (λb o _ hb _ e n=>u.keep b o e n hb (by simp)) (λb o _ hb _ e n=>u.A4 b o e n hb (by simp)) (λb o _ e n=>u.free b o e n (by simp)) (λb o _ e=>u.there b o e (by simp)) u.FY u.DK u.Fj (λm' hm=>by
  obtain⟨o',es',ep',ho',r'⟩:=hm;rw[ho]at ho';cases ho'
  exact#[_,es',ep',hL,r']) Ao I.bare
theorem Inv.call(I:Inv X A1 Y H s)(u:Un (Cv X.stack) ch H H' s.heap h')(Ao:Ff X.prog X.w H' h')(hg:AllBare g')
 (hch:∀b∈ch,(b∈X.ex\/X.s₀.heap.objs.size<=b)/\b≠X.env.locals/\(∀x c,X.env.cells.lookup x=some c->c≠b)/\∀p∈X.pn++A1,p.1≠b):
 Inv X A1 Y H' {s with heap:=h',gens:=g',drawn:=d',toks:=t'}:=by
 obtain⟨m,⟨o,es,ep,ho,r⟩,_⟩:=id I.loc;obtain⟨sl,hL⟩:=u.any ho I.free λz=>(hch _ z).2.1 rfl
 exact I.step (ch:=ch) hch (λb o hL hb hc e n=>u.keep b o e n (λz=>(mK (I.Hj b z)).elim hL hb) hc) (λb o _ _ hc e n=>u.any e n hc) (λb o hc e n=>u.free b o e n hc) (λb o hc e=>u.there b o e hc) u.FY u.DK u.Fj (λm' hm=>by
  obtain⟨o',es',ep',ho',r'⟩:=hm;rw[ho]at ho';cases ho'
  exact#[_,es',ep',hL,r']) Ao hg
variable{it:Addr}
theorem Inv.turned(I:Inv X A1 Y H s)(k:∀b o,b≠it->s.heap.get? b=some o->h'.get? b=some o)(hn:H it=none)(hL:it≠X.env.locals)
 (h1:it∈X.ex\/X.s₀.heap.objs.size<=it)(h2:∀x c,X.env.cells.lookup x=some c->c≠it)(h3:∀p∈X.pn++A1,p.1≠it):Inv X A1 Y H {s with heap:=h',toks:=t'}:=by
 have nit:∀b u,H b=some u->b≠it:=λb u e z=>by rw[z,hn]at e;cases e
 refine I.step (g':=s.gens) (d':=s.drawn) (ch:=[it]) (λb hb=>?_) (λb o _ _ hc e _=>k b o (λz=>hc (by simp[z])) e) (λb o _ _ hc e _=>#[o.slots,k b o (λz=>hc (by simp[z])) e]) (λ_ _ _ _ n=>n)
  (λb o hc e=>#[o,k b o (λz=>hc (by simp[z])) e]) (λ_ _ e=>e) (λ_ _ _ e=>e) (λb ps e=>#[[].toArray,by rw[e];simp]) (λm hm=>?_) (λb u e=>?_) I.bare
 .have e:b=it:=by simpa using hb
  subst e;exact#[h1,hL,h2,h3]
 .obtain⟨o,es,ep,ho,r⟩:=hm;exact#[o,es,ep,k _ o (Ne.symm hL) ho,r]
 .refine(I.Ao b u e).Di (λc v hc q=>k c v ?_ q) (λ_ q=>q) λ_ _ q=>q
  rcases hc with z|z
  .rw[z];exact nit b u e
  .exact nit c _ z
theorem Inv.tok(I:Inv X A1 Y H s)(t:Nat):Inv X A1 Y H {s with toks:=t}:=I.un (h':=s.heap) (t':=t) Un.refl I.Ao
theorem Inv.kept(I:Inv X A1 Y H s)(k:∀b u,s.heap.get? b=some u->h'.get? b=some u):Inv X A1 Y H {s with heap:=h',toks:=t'}:=I.un (Un.kept k) (I.Ao.kept k)
theorem Inv.laid{a:Addr}(I:Inv X A1 Y H s)(k:∀b u,s.heap.get? b=some u->h'.get? b=some u)(hp:s.heap.objs.size<=a)(new:BW X.prog X.w (upd H a o) h' a o):
 Inv X A1 Y (upd H a o) {s with heap:=h',toks:=t'}:=I.un (Un.laid k hp (I.Ao.fresh hp)) (I.Ao.laid k hp new)
theorem Inv.write{e:Addr}(I:Inv X A1 Y H s)(mu:jY (H x))(he:e=x\/H e=some (.own x))(k:∀b u,b≠e->s.heap.get? b=some u->h'.get? b=some u)(heo:∃u,h'.get? e=some u)
 (new:BW X.prog X.w (upd H x o) h' x o):Inv X A1 Y (upd H x o) {s with heap:=h',toks:=t'}:=I.un (Un.write mu he k heo) (I.Ao.write mu he k heo new)
theorem Inv.Dy{pins':Oa}(I:Inv X A1 Y H s)(h:∀p∈pins',s.heap.get? p.1=some p.2/\H p.1=none/\p.1≠X.env.locals/\p.1∉X.fs/\∀v,p.2.data≠.cell v):Inv X pins' Y H s:=
 #[I.ok,I.os,I.bare,I.base,I.loc,I.cell,I.free,I.D4,λp hp=>(mZ hp).elim (λz=>I.pin p (mL z)) (h p),I.Ao,I.len]
variable{j:Nat}
theorem HD{N:List Str}(hN:N.Nodup){i:Nat}{x:Str}(a:N[i]? =some x)(b:N[j]? =some x):i=j:=by
 obtain⟨h1,e1⟩:=List.getElem?_eq_some_iff.mp a;obtain⟨h2,e2⟩:=List.getElem?_eq_some_iff.mp b;exact(List.getElem_inj hN).mp (e1.trans e2.symm)
variable{M:Model}{A:Around}
theorem IC{E:Va}{i:Nat}{x:Str}{Q:Unit->Shared->Prop}(I:Inv X A1 Y H s)(hN:X.N.Nodup)(hi:X.N[i]? =some x)(hx:Loc X.env.scope x)(r:RelV v u)
 (h:∀s',Inv X A1 (Y.set i (some v)) H s'->(∃a,Heap.SameBut a s.heap s'.heap/\(a=X.env.locals\/X.env.cells.lookup x=some a))->Q () s')(hf:X.fn x=true\/X.env.scope.names.lookup x=some .local:=by first|exact .inl rfl|exact .inr rfl|assumption):wpAny M A (storeName X.env x u) Q E s:=by
 obtain⟨m,hn,hl⟩:=id I.loc;have hcls:(X.env.scope.kind == .class||(X.env.scope.kind == .module&&X.env.locals != X.env.globals))=false:=by rw[I.ok.kind];rfl
 have hiY:i<Y.length:=by rw[I.len];exact(List.getElem?_eq_some_iff.mp hi).1
 have Uz:=I.Uz
 have tracked:∀{a:Addr} {h':Heap},(∃o,s.heap.get? a=some o/\H a=none)->Heap.SameBut a s.heap h'->Ff X.prog X.w H h':=λ{a h'} ha hs b ob e=>by
  obtain⟨_,_,hfree⟩:=ha;refine(I.Ao b ob e).Di (λc w' hc q=>(hs.2 c ?_).trans q) (λ_ q=>q) λ_ _ q=>q
  rintro rfl
  rcases hc with rfl|hc
  .rw[hfree]at e;cases e
  .rw[hfree]at hc;cases hc
 rcases hx with hk|hk
 .refine wpAny_storeName_local hk hn (λh' hn' hs=>?_) hcls;obtain⟨oL,_,_,hoL,_⟩:=id hn;refine h _ #[I.ok,I.os,I.bare,#[λb o e n hb hx=>?_,λb o e n hb hx=>?_,I.base.free,λb o e hx=>?_,I.base.FY,I.base.DK,I.base.Fj],#[_,hn',λj y v' e1 e2 e3=>?_],λy c e=>?_,I.free,I.D4,λp hp=>?_,tracked #[oL,hoL,I.free] hs,by simpa using I.len] #[_,hs,.inl rfl]
  .exact(hs.2 b (Nat.ne_of_lt (Nat.lt_of_lt_of_le (Heap.lt_size e) I.ok.above))).trans (I.base.keep b o e n hb hx)
  .obtain⟨sl,e1⟩:=I.base.A4 b o e n hb hx;exact#[sl,(hs.2 b (Nat.ne_of_lt (Nat.lt_of_lt_of_le (Heap.lt_size e) I.ok.above))).trans e1]
  .obtain⟨o',e1⟩:=I.base.there b o e hx;exact#[o',(hs.2 b (Nat.ne_of_lt (Nat.lt_of_lt_of_le (Heap.lt_size e) I.ok.above))).trans e1]
  .by_cases hj:j=i
   .subst hj;rw[hi]at e1;cases e1;rw[List.getElem?_set_self hiY]at e2;cases e2;exact#[u,r,.inl #[hk,by simp]]
   .rw[List.getElem?_set_ne (Ne.symm hj)]at e2;obtain⟨u',r',q⟩:=hl j y v' e1 e2 e3;refine#[u',r',?_];rcases q with⟨k,e⟩|⟨k,c,e,z⟩
    .refine .inl #[k,?_];have:y≠x:=λe=>hj (HD hN e1 (e▸hi))
     simp[this,e]
    .exact .inr #[k,c,e,z.sameBut hs (Uz y c e)]
  .obtain⟨w',z⟩:=I.cell y c e;exact#[w',z.sameBut hs (Uz y c e)]
  .obtain⟨e,n,ne,nf,d⟩:=I.pin p hp;exact#[(hs.2 p.1 ne).trans e,n,ne,nf,d]
 .have hfn:X.fn x=true:=by
   rcases hf with z|z
   .exact z
   .rw[z]at hk;cases hk
  obtain⟨c,hc⟩:=I.ok.has x (.inl hk);obtain⟨w',z⟩:=I.cell x c hc;refine wpAny_storeName_cell I.ok.kind hk hc z (λh' hc' hs=>?_);obtain⟨oc,hoc,hocd⟩:=id z;refine h {s with heap:=h'} #[I.ok,I.os,I.bare,#[λb o e n hb hx=>?_,λb o e n hb hx=>?_,I.base.free,λb o e hx=>?_,I.base.FY,I.base.DK,I.base.Fj],#[m,hn.sameBut hs (Ne.symm (Uz x c hc)),λj y v' e1 e2 e3=>?_],λy c' e=>?_,I.free,I.D4,λp hp=>?_,tracked #[oc,hoc,I.D4 x c hc] hs,by simpa using I.len] #[c,hs,.inr hc]
  .exact(hs.2 b (Nat.ne_of_lt (Nat.lt_of_lt_of_le (Heap.lt_size e) (I.ok.bD x c hfn hc)))).trans (I.base.keep b o e n hb hx)
  .obtain⟨sl,e1⟩:=I.base.A4 b o e n hb hx;exact#[sl,(hs.2 b (Nat.ne_of_lt (Nat.lt_of_lt_of_le (Heap.lt_size e) (I.ok.bD x c hfn hc)))).trans e1]
  .obtain⟨o',e1⟩:=I.base.there b o e hx;exact#[o',(hs.2 b (Nat.ne_of_lt (Nat.lt_of_lt_of_le (Heap.lt_size e) (I.ok.bD x c hfn hc)))).trans e1]
  .by_cases hj:j=i
   .subst hj;rw[hi]at e1;cases e1;rw[List.getElem?_set_self hiY]at e2;cases e2;exact#[u,r,.inr #[.inl hk,c,hc,hc']]
   .rw[List.getElem?_set_ne (Ne.symm hj)]at e2;obtain⟨u',r',q⟩:=hl j y v' e1 e2 e3;refine#[u',r',?_];rcases q with q|⟨k,c',e,z'⟩
    .exact .inl q
    .refine .inr #[k,c',e,z'.sameBut hs ?_]
     rintro rfl
     exact hj (HD hN e1 (I.ok.inj _ _ _ e hc▸hi))
  .by_cases hcc:c'=c
   .subst hcc;exact#[_,hc']
   .obtain⟨w2,z2⟩:=I.cell y c' e;exact#[w2,z2.sameBut hs hcc]
  .obtain⟨e,n,ne,nf,d⟩:=I.pin p hp;refine#[(hs.2 p.1 ?_).trans e,n,ne,nf,d];intro q;rw[q,hoc]at e;have q':oc=p.2:=Option.some.inj e;exact d w' (by rw[<-q'];exact hocd)
theorem DN{E:Va}{i:Nat}{x:Str}{Q:Unit->Shared->Prop}(I:Inv X A1 Y H s)(hN:X.N.Nodup)(hi:X.N[i]? =some x)(hx:Loc X.env.scope x)(r:RelV v u)
 (h:∀s',Inv X A1 (Y.set i (some v)) H s'->Q () s')(hf:X.fn x=true\/X.env.scope.names.lookup x=some .local:=by first|exact .inl rfl|exact .inr rfl|assumption):wpAny M A (storeName X.env x u) Q E s:=
 IC I hN hi hx r (λs' I' _=>h s' I') hf
theorem Inv.YA{s':Shared}(I:Inv X A1 Y H s)(ho:s'.os=s.os)(u:Un (Cv X.stack) ch H H' s.heap s'.heap)(Ao:Ff X.prog X.w H' s'.heap)(hg:AllBare s'.gens)
 (hch:∀b∈ch,(b∈X.ex\/X.s₀.heap.objs.size<=b)/\b≠X.env.locals/\(∀x c,X.env.cells.lookup x=some c->c≠b)/\∀p∈X.pn++A1,p.1≠b):Inv X A1 Y H' s':=by
 obtain⟨h',g',d',t',o'⟩:=s';have e:o'=s.os:=ho;subst e;exact I.call (g':=g') (t':=t') (d':=d') u Ao hg hch
abbrev XK:=Value->Option Addr->Hp->Prop
abbrev St:=List (Option V)
abbrev VK:=V->Hp->Prop
abbrev TE:=St->Hp->VK->Prop
abbrev TT:=St->Hp->(Bool->Hp->Prop)->Prop
abbrev TA:=St->Hp->(List V->Hp->Prop)->Prop
structure Ends where
 nx:St->Hp->Prop
 rt:VK
 bk:St->Hp->Prop:=λ_ _=>False
 ct:St->Hp->Prop:=λ_ _=>False
abbrev TS:=Ends->St->Hp->Prop
def EP(X:Cx)(A1:Oa)(Y:St)(Q:VK)(u:Value)(s':Shared):Prop:=∃v H',Inv X A1 Y H' s'/\RelV v u/\Q v H'
def TP(X:Cx)(A1:Oa)(Y:St)(Q:Bool->Hp->Prop)(b:Bool)(s':Shared):Prop:=∃H',Inv X A1 Y H' s'/\Q b H'
def AP(X:Cx)(A1:Oa)(Y:St)(Q:List V->Hp->Prop)(us:List Value)(s':Shared):Prop:=∃vs H',Inv X A1 Y H' s'/\Vals vs us/\Q vs H'
def SP(X:Cx)(A1:Oa)(D:Ends)(f:Flow)(s':Shared):Prop:=
 match f with
 |.next=>∃Y' H',Inv X A1 Y' H' s'/\D.nx Y' H'
 |.brk=>∃Y' H',Inv X A1 Y' H' s'/\D.bk Y' H'
 |.cont=>∃Y' H',Inv X A1 Y' H' s'/\D.ct Y' H'
 |.ret u=>∃v Y' H',Inv X A1 Y' H' s'/\RelV v u/\D.rt v H'
def PE(X:Cx)(e:Expr)(t:TE):Prop:=
 ∀(A1:Oa) (s:Shared) (Y:St) (H:Hp) (Q:VK),Inv X A1 Y H s->t Y H Q->(X|||(eval e X.env)) (EP X A1 Y Q) X.xe s
def PT(X:Cx)(e:Expr)(t:TT):Prop:=
 ∀(A1:Oa) (s:Shared) (Y:St) (H:Hp) (Q:Bool->Hp->Prop),Inv X A1 Y H s->t Y H Q->(X|||(isTrue e X.env (eval e X.env))) (TP X A1 Y Q) X.xe s
def PW(X:Cx)(e:Expr)(t:TT):Prop:=
 ∀(whole:Sem Value) (A1:Oa) (s:Shared) (Y:St) (H:Hp) (Q:Bool->Hp->Prop),Inv X A1 Y H s->t Y H Q->(X|||(isTrue e X.env whole)) (TP X A1 Y Q) X.xe s
theorem PW.pt{X:Cx}{t:TT}(h:PW X e t):PT X e t:=h _
def PA(X:Cx)(es:List Expr)(t:TA):Prop:=
 ∀(pos:Pos) (A1:Oa) (s:Shared) (Y:St) (H:Hp) (Q:List V->Hp->Prop),Inv X A1 Y H s->t Y H Q->(X|||(spliced (backTo pos (starEach es X.env)))) (AP X A1 Y Q) X.xe s
def PS(X:Cx)(st:Stmt)(t:TS):Prop:=
 ∀(A1:Oa) (s:Shared) (Y:St) (H:Hp) (D:Ends),Inv X A1 Y H s->t D Y H->(X|||(exec st X.env)) (SP X A1 D) X.xe s
def Nf(X:Cx)(st:List Stmt)(t:TS):Prop:=
 ∀(A1:Oa) (s:Shared) (Y:St) (H:Hp) (D:Ends),Inv X A1 Y H s->t D Y H->(X|||(execs st X.env)) (SP X A1 D) X.xe s
variable{s:Shared}
theorem B2{α:Type}{t:Sem α}{Q Q':α->Shared->Prop}{E:Va}(h:wpAny M A t Q E s)(hQ:∀a s,Q a s->Q' a s):wpAny M A t Q' E s:=wpAny_mono h hQ λ_ _ x=>x
section
variable{A1:Oa}{s:Shared}{H:Hp}
theorem bin{ta tb:TE}(ha:PE X a ta)(hb:PE X b tb){Y:St}{R:V->V->Hp->Prop}(I:Inv X A1 Y H s)(h:ta Y H λx H1=>tb Y H1 λy H2=>R x y H2)
 {α:Type}{Q:α->Shared->Prop}{f:Value->Value->Sem α}
 (hf:∀v u s2 x y H2,Inv X A1 Y H2 s2->RelV x v->RelV y u->R x y H2->(X|||(f v u)) Q X.xe s2):
 (X|||(eval a X.env)) (λv s₁=>(X|||(eval b X.env)) (λu s₂=>(X|||(f v u)) Q X.xe s₂) X.xe s₁) X.xe s:=by
 refine B2 (ha A1 s Y H _ I h) λv s1 ⟨x,H1,I1,r1,q1⟩=>?_
 refine B2 (hb A1 s1 Y H1 _ I1 q1) λu s2 ⟨y,H2,I2,r2,q2⟩=>?_
 exact hf v u s2 x y H2 I2 r1 r2 q2
def EO(i:Nat):TE:=λY H Q=>∃v,Y[i]? =some (some v)/\Q v H
def tC(v:V):TE:=λ_ H Q=>Q v H
theorem G4{i:Nat}{x:Str}{pos:Pos}(hN:X.N[i]? =some x)(hv:dH X.env.scope x)(hd:ng x:=by decide)(hcd:(x==("__classdict__":Str))=false:=by decide):PE X (.Name x pos) (EO i):=by
 intro A1 s Y H Q I h;obtain⟨v,e,h⟩:=h;obtain⟨m,hn,hl⟩:=I.loc;obtain⟨u,r,l⟩:=hl i x v hN e hv;have fin:EP X A1 Y Q u s:=#[v,H,I,r,h];rcases l with⟨hk,hm⟩|⟨hk,c,hc,hcell⟩
 .exact wpAny_Name (wpAny_loadName_local I.ok.kind hk hn hm fin) hd
 .rcases hk with hk|hk
  .exact wpAny_Name (wpAny_loadName_cell I.ok.kind hk hc hcell fin) hd
  .exact wpAny_Name (wpAny_loadName_free I.ok.kind hk hc hcell fin hcd) hd
theorem ZJ{i j pos}:PE X (.Constant (.int i) j pos) (tC (.int i)):=λ_ _ _ H _ I h=>wpAny_Constant_int #[.int i,H,I.tok _,#[_,rfl],h]
theorem fL{b j pos}:PE X (.Constant (.bool b) j pos) (tC (.bl b)):=λ_ _ _ H _ I h=>Constant_bool #[.bl b,H,I,rfl,h]
theorem Mo{j pos}:PE X (.Constant .none j pos) (tC .Az):=λ_ _ _ H _ I h=>Constant_none #[.Az,H,I,rfl,h]
theorem Rn{x j pos}:PE X (.Constant (.str x) j pos) (tC (.str x)):=λ_ _ _ H _ I h=>Calls.Constant_str #[.str x,H,I.tok _,#[_,rfl],h]
def Gl(X:Cx)(x:Str):Prop:=X.env.kindOf x=some .globalImplicit
theorem DC{E:Va}{Y:St}{u:Value}{pos:Pos}{Q:Va}(I:Inv X A1 Y H s)(hg:Gl X x)(hm:X.mg x=some u)(h:Q u s)
 (hd:ng x:=by decide):(X|||(eval (.Name x pos) X.env)) Q E s:=
 Calls.Name_function_global I.ok.kind hg (Calls.loadGlobal_global (by rw[I.ok.glob];exact I.mod.glob.keeps I.bk) hm h) hd
theorem HI{E:Va}{Y:St}{u:Value}{pos:Pos}{Q:Va}(I:Inv X A1 Y H s)(hg:Gl X x)(hm:X.mg x=none)(hv:bootBuiltins x=some u)(h:Q u s)
 (hn:x≠"__name__":=by decide)(hd:ng x:=by decide):(X|||(eval (.Name x pos) X.env)) Q E s:=by
 obtain⟨mb,h1,h2⟩:=I.mod.blt;exact Calls.Name_function_global I.ok.kind hg (Calls.loadGlobal_builtin (by rw[I.ok.glob];exact I.mod.glob.keeps I.bk) hm (by rw[I.ok.blt];exact h1.keeps I.bk) ((h2 x hn).trans hv) h) hd
theorem Ei{u:Value}{pos:Pos}(hg:Gl X x)(hm:X.mg x=some u)(r:RelV v u)(hd:ng x:=by decide):PE X (.Name x pos) (tC v):=
 λ_ _ _ H _ I h=>DC I hg hm #[v,H,I,r,h] hd
theorem NQ{u:Value}{pos:Pos}(hg:Gl X x)(hm:X.mg x=none)(hv:bootBuiltins x=some u)(r:RelV v u)(hn:x≠"__name__":=by decide)(hd:ng x:=by decide):PE X (.Name x pos) (tC v):=
 λ_ _ _ H _ I h=>HI I hg hm hv #[v,H,I,r,h] hn hd
variable{a b:Expr}{ta tb:TE}{pos:Pos}
variable{tA tB':TT}{rest:List Expr}
def eI(t u:TT):TT:=λY H Q=>t Y H λc H1=>if c=true then u Y H1 Q else Q false H1
def nk(t u:TT):TT:=λY H Q=>t Y H λc H1=>if c=true then Q true H1 else u Y H1 Q
def ko(t:TT):TT:=λY H Q=>t Y H λc H1=>Q (!c) H1
theorem Vp(ha:PT X a tA):PW X (.BoolOp .And [a] pos) tA:=by
 intro wh A1 s Y H Q I h;refine isTrue_and (B2 (ha A1 s Y H Q I h) λc s1 e=>?_);cases c with
 |true=>exact isTrue_and_nil e
 |false=>exact e
theorem Zx(ha:PT X a tA):PW X (.BoolOp .Or [a] pos) tA:=by
 intro wh A1 s Y H Q I h;refine isTrue_or (B2 (ha A1 s Y H Q I h) λc s1 e=>?_);cases c with
 |false=>exact isTrue_or_nil e
 |true=>exact e
theorem Zy(ha:PT X a tA)(hb:PW X (.BoolOp .And (b::rest) pos) tB'):PW X (.BoolOp .And (a::b::rest) pos) (eI tA tB'):=by
 intro wh A1 s Y H Q I h;refine isTrue_and (B2 (ha A1 s Y H _ I h) λc s1 ⟨H1,I1,q1⟩=>?_);cases c with
 |true=>exact hb wh A1 s1 Y H1 Q I1 q1
 |false=>exact#[H1,I1,q1]
theorem fE(ha:PT X a tA)(hb:PW X (.BoolOp .Or (b::rest) pos) tB'):PW X (.BoolOp .Or (a::b::rest) pos) (nk tA tB'):=by
 intro wh A1 s Y H Q I h;refine isTrue_or (B2 (ha A1 s Y H _ I h) λc s1 ⟨H1,I1,q1⟩=>?_);cases c with
 |true=>exact#[H1,I1,q1]
 |false=>exact hb wh A1 s1 Y H1 Q I1 q1
theorem Zz(ha:PT X a tA):PT X (.UnaryOp .Not a pos) (ko tA):=by
 intro A1 s Y H Q I h;exact isTrue_not (ha A1 s Y H (λc H1=>Q (!c) H1) I h)
def XO(ta tb:TE):TE:=λY H Q=>ta Y H λx H1=>∃c,x= .bl c/\if c=true then tb Y H1 Q else Q (.bl false) H1
def eo(ta tb:TE):TE:=λY H Q=>ta Y H λx H1=>∃c,x= .bl c/\if c=true then Q (.bl true) H1 else tb Y H1 Q
def eA(ta:TE):TE:=λY H Q=>ta Y H λx H1=>∃c,x= .bl c/\Q (.bl (!c)) H1
theorem Mn{op}{t:TE}(h:PE X a t):PE X (.BoolOp op [a] pos) t:=λA1 s Y H Q I hw=>BoolOp_one (h A1 s Y H Q I hw)
theorem JP(ha:PE X a ta)(hb:PE X (.BoolOp .And (b::rest) pos) tb):PE X (.BoolOp .And (a::b::rest) pos) (XO ta tb):=by
 intro A1 s Y H Q I h;refine BoolOp_and (B2 (ha A1 s Y H _ I h) λv s1 ⟨x,H1,I1,r1,q1⟩=>?_);obtain⟨c,rfl,q1⟩:=q1;cases r1;refine wpAny_truthy_bool ?_;cases c with
 |true=>exact hb A1 s1 Y H1 Q I1 q1
 |false=>exact#[.bl false,H1,I1,rfl,q1]
theorem fI(ha:PE X a ta)(hb:PE X (.BoolOp .Or (b::rest) pos) tb):PE X (.BoolOp .Or (a::b::rest) pos) (eo ta tb):=by
 intro A1 s Y H Q I h;refine BoolOp_or (B2 (ha A1 s Y H _ I h) λv s1 ⟨x,H1,I1,r1,q1⟩=>?_);obtain⟨c,rfl,q1⟩:=q1;cases r1;refine wpAny_truthy_bool ?_;cases c with
 |false=>exact hb A1 s1 Y H1 Q I1 q1
 |true=>exact#[.bl true,H1,I1,rfl,q1]
theorem Rp(ha:PE X a ta):PE X (.UnaryOp .Not a pos) (eA ta):=by
 intro A1 s Y H Q I h;refine UnaryOp_ (B2 (ha A1 s Y H _ I h) λv s1 ⟨x,H1,I1,r1,q1⟩=>?_);obtain⟨c,rfl,q1⟩:=q1;cases r1;exact not_of (wpAny_truthy_bool #[.bl (!c),H1,I1,rfl,q1])
end
def Fd(K:PySem.W.Frag)(H:Hp)(a:Addr)(xs:List V):Prop:=
 Rd H a (.lst xs)\/
  ∃(o:Obj) (its:Array Value) (n:Nat),K.lookup a=some o/\o.cls= .type "list"/\o.dict=none/\o.data= .seq its n/\its.size<=sizeLine/\Vals xs its.toList
def FX(K:PySem.W.Frag)(H:Hp)(a:Addr)(xs:List V):Prop:=
 Rd H a (.tup xs)\/
  ∃(o:Obj) (its:Array Value) (n:Nat),K.lookup a=some o/\o.cls= .type "tuple"/\o.data= .seq its n/\its.size<=sizeLine/\Vals xs its.toList
noncomputable def mV:Value->Option V
 |.none=>some .Az
 |.bool b=>some (.bl b)
 |.int i _=>some (.int i)
 |.str x _=>some (.str x)
 |.bytes b _=>some (.YB b)
 |.float b _=>some (.jx b)
 |.ref a=>some (.ref a)
 |.type n=>some (.ty n)
 |_=>none
theorem RelV.abs(r:RelV x u):mV u=some x:=by
 cases x with
 |Az=>cases r;rfl
 |bl _=>cases r;rfl
 |int _=>obtain⟨t,rfl⟩:=r;rfl
 |str _=>obtain⟨t,rfl⟩:=r;rfl
 |YB _=>obtain⟨t,rfl⟩:=r;rfl
 |jx _=>obtain⟨t,rfl⟩:=r;rfl
 |ref _=>cases r;rfl
 |ty _=>cases r;rfl
theorem RelV.inj(r:RelV x u)(q:RelV y u):x=y:=Option.some.inj (r.abs.symm.trans q.abs)
theorem Vals.inj:∀{xs ys:List V} {us:List Value},Vals xs us->Vals ys us->xs=ys
 |_,_,_,.nil,.nil=>rfl
 |_,_,_,.cons r t,.cons r' t'=>by rw[r.inj r',Vals.inj t t']
section
variable{Y:St}{a:Addr}{xs ys:List V}
theorem Fd.of{K:PySem.W.Frag}(h:H a=some (.lst xs)):Fd K H a xs:=.inl (.inl h)
theorem FX.of{K:PySem.W.Frag}(h:H a=some (.tup xs)):FX K H a xs:=.inl (.inl h)
theorem Inv.list(I:Inv X A1 Y H s)(h:Fd X.K H a xs):∃its:List Value,Vals xs its/\PlainL s.heap a its.toArray/\xs.length<=sizeLine:=by
 rcases h with h|⟨o,its,n,hk,hc,hd,hs,hz,r⟩
 .obtain⟨z,its,n,r,e⟩:=h.ok I.Ao;exact#[its,r,#[_,n,e,rfl,rfl,rfl],z]
 .refine#[its.toList,r,#[o,n,I.Cn a o hk,hc,hd,by simpa using hs],?_];have e:=r.length;simp only[Array.length_toList]at e
  lia
theorem Inv.tuple(I:Inv X A1 Y H s)(h:FX X.K H a xs):∃its:List Value,Vals xs its/\IsTup s.heap a its.toArray/\xs.length<=sizeLine:=by
 rcases h with h|⟨o,its,n,hk,hc,hs,hz,r⟩
 .obtain⟨z,its,r,p⟩:=h.ok I.Ao;exact#[its,r,p,z]
 .refine#[its.toList,r,#[o,I.Cn a o hk,hc,n,by simpa using hs],?_];have e:=r.length;simp only[Array.length_toList]at e
  lia
theorem Inv.RV(I:Inv X A1 Y H s)(h:Fd X.K H a xs)(h':Fd X.K H a ys):xs=ys:=by
 obtain⟨its,r,⟨o,n,e,_,_,d⟩,_⟩:=I.list h;obtain⟨its',r',⟨o',n',e',_,_,d'⟩,_⟩:=I.list h';rw[e]at e';cases e';rw[d]at d';injection d' with d1 _
 have:its=its':=by simpa using congrArg Array.toList d1
 subst this;exact r.inj r'
theorem Inv.OK(I:Inv X A1 Y H s)(h:FX X.K H a xs)(h':FX X.K H a ys):xs=ys:=by
 obtain⟨its,r,⟨o,e,_,n,d⟩,_⟩:=I.tuple h;obtain⟨its',r',⟨o',e',_,n',d'⟩,_⟩:=I.tuple h';rw[e]at e';cases e';rw[d]at d';injection d' with d1 _
 have:its=its':=by simpa using congrArg Array.toList d1
 subst this;exact r.inj r'
end
noncomputable abbrev Cx.Fh(X:Cx)(E:Va):Cx:={X with xe:=E}
theorem Cx.Ok.Fh{X:Cx}(ok:X.Ok)(E:Va):(X.Fh E).Ok:=
 #[ok.mod,ok.kind,ok.glob,ok.blt,ok.above,ok.inj,ok.has,ok.bD,ok.hd,ok.frames,ok.eM,ok.gW,ok.bs,ok.Tc,ok.Pf,ok.PQ,ok.EA,ok.Wk]
theorem Cx.Ok.Ju{X:Cx}{E:Va}(ok:(X.Fh E).Ok):X.Ok:=
 #[ok.mod,ok.kind,ok.glob,ok.blt,ok.above,ok.inj,ok.has,ok.bD,ok.hd,ok.frames,ok.eM,ok.gW,ok.bs,ok.Tc,ok.Pf,ok.PQ,ok.EA,ok.Wk]
section
variable{Y:St}{E:Va}
theorem Inv.Fh(I:Inv X A1 Y H s)(E:Va):Inv (X.Fh E) A1 Y H s:=#[I.ok.Fh E,I.os,I.bare,I.base,I.loc,I.cell,I.free,I.D4,I.pin,I.Ao,I.len]
theorem Inv.Ju(I:Inv (X.Fh E) A1 Y H s):Inv X A1 Y H s:=#[I.ok.Ju,I.os,I.bare,I.base,I.loc,I.cell,I.free,I.D4,I.pin,I.Ao,I.len]
end
section
variable{st:Stmt}{rest:List Stmt}{t u:TS}{e:Expr}{te:TE}{pos:Pos}
def Np:TS:=λD Y H=>D.nx Y H
def eh(t u:TS):TS:=λD Y H=>t {D with nx:=u D} Y H
theorem NK:Nf X [] Np:=λ_ _ Y H _ I h=>wpAny_execs_nil #[Y,H,I,h]
theorem Hw(h1:PS X st t)(h2:Nf X rest u):Nf X (st::rest) (eh t u):=by
 intro A1 s Y H D I h;refine wpAny_execs_cons (B2 (h1 A1 s Y H {D with nx:=u D} I h) λf s1 q=>?_);cases f with
 |next=>
   obtain⟨Y',H',I',q⟩:=q;exact h2 A1 s1 Y' H' D I' q
 |ret v=>exact q
 |brk=>exact q
 |cont=>exact q
theorem Vt:PS X (.Pass pos) Np:=λ_ _ Y H _ I h=>wpAny_Pass #[Y,H,I,h]
theorem Inv.quiet{A1:Oa}{Y:St}{H:Hp}{s:Shared}(I:Inv X A1 Y H s):interactive X.env=false:=by simp[interactive,I.ok.kind]
theorem ZE{x j pos pos'}:PS X (.Expr (.Constant (.str x) j pos) pos') Np:=λ_ s Y H _ I h=>wpAny_Expr (Calls.Constant_str (show SP X _ _ .next {s with toks:=s.toks+1}from⟨Y,H,I.tok _,h⟩)) I.quiet
def XN(te:TE):TS:=λD Y H=>te Y H λ_ H1=>D.nx Y H1
theorem Vu(he:PE X e te)(hs:swapsWith e none pos.line X.env=pure false:=by rfl):PS X (.Expr e pos) (XN te):=by
 intro A1 s Y H D I h;exact wpAny_Expr_any (B2 (he A1 s Y H _ I h) λv s1 ⟨x,H1,I1,r1,q1⟩=>#[Y,H1,I1,q1]) I.quiet hs
def ei(te:TE):TS:=λD Y H=>te Y H D.rt
theorem ZA(he:PE X e te):PS X (.Return (some e) pos) (ei te):=by
 intro A1 s Y H D I h;exact wpAny_Return_some (B2 (he A1 s Y H _ I h) λv s1 ⟨x,H1,I1,r1,q1⟩=>#[x,Y,H1,I1,r1,q1])
def XI:TS:=λD _ H=>D.rt .Az H
theorem Vs:PS X (.Return none pos) XI:=λ_ _ Y H _ I h=>wpAny_Return_none #[.Az,Y,H,I,rfl,h]
def eC(c:TT)(t u:TS):TS:=λD Y H=>c Y H λb H1=>if b=true then t D Y H1 else u D Y H1
theorem fF{a b:List Stmt}{tc:TT}(hc:PT X c tc)(ha:Nf X a t)(hb:Nf X b u):PS X (.If c a b pos) (eC tc t u):=by
 intro A1 s Y H D I h;refine wpAny_If (B2 (hc A1 s Y H _ I h) λd s1 ⟨H1,I1,q1⟩=>?_);cases d with
 |true=>exact ha A1 s1 Y H1 D I1 q1
 |false=>exact hb A1 s1 Y H1 D I1 q1
end
abbrev TG:=V->St->Hp->(St->Hp->Prop)->Prop
abbrev YI:=List V->St->Hp->(St->Hp->Prop)->Prop
def PG(X:Cx)(target:Expr)(t:TG):Prop:=
 ∀ (A1:Oa) (s:Shared) (Y:St) (H:Hp) (v:V) (u:Value) (Q:St->Hp->Prop),Inv X A1 Y H s->RelV v u->t v Y H Q->
   (X|||(assign target X.env u)) (λ_ s'=>∃Y' H',Inv X A1 Y' H' s'/\Q Y' H') X.xe s
def iW(X:Cx)(ts:List Expr)(t:YI):Prop:=
 ∀ (A1:Oa) (s:Shared) (Y:St) (H:Hp) (vs:List V) (us:List Value) (Q:St->Hp->Prop),Inv X A1 Y H s->Vals vs us->t vs Y H Q->
   (X|||(assignInOrder ((assignEach ts X.env).map (·.2)) us)) (λ_ s'=>∃Y' H',Inv X A1 Y' H' s'/\Q Y' H') X.xe s
section
variable{pos:Pos}
def EH(i:Nat):TG:=λv Y H Q=>Q (Y.set i (some v)) H
theorem NO{i:Nat}{x:Str}(hN:X.N.Nodup)(hi:X.N[i]? =some x)(hx:Loc X.env.scope x)(hf:X.fn x=true\/X.env.scope.names.lookup x=some .local:=by first|exact .inl rfl|exact .inr rfl|assumption):PG X (.Name x pos) (EH i):=by
 intro A1 s Y H v u Q I r h;exact wpAny_assign_Name (DN I hN hi hx r (λs' I'=>#[_,H,I',h]) hf)
def gM:YI:=λvs Y H Q=>vs=[]/\Q Y H
def Yq(t:TG)(u:YI):YI:=λvs Y H Q=>∃v r,vs=v::r/\t v Y H λY' H'=>u r Y' H' Q
theorem Vz:iW X [] gM:=by
 intro A1 s Y H vs us Q I r h;obtain⟨e,h⟩:=h;subst e;cases r;exact assignInOrder_nil #[Y,H,I,h]
theorem Rk{es:List Expr}{t:TG}{u:YI}(h1:PG X e t)(h2:iW X es u)
 (hs:(assignEach (e::es) X.env).map (·.2)=assign e X.env::(assignEach es X.env).map (·.2):=by rfl):iW X (e::es) (Yq t u):=by
 intro A1 s Y H vs us Q I r h;obtain⟨v,vr,e1,h⟩:=h;subst e1;cases r with
 |cons r rr=>
   rw[hs];refine assignInOrder_cons (B2 (h1 A1 s Y H _ _ _ I r h) λ_ s1 ⟨Y1,H1,I1,q1⟩=>?_);exact h2 A1 s1 Y1 H1 _ _ Q I1 rr q1
def aR(K:PySem.W.Frag)(n:Nat)(t:YI):TG:=λv Y H Q=>∃a xs,v= .ref a/\FX K H a xs/\xs.length=n/\t xs Y H Q
theorem ZH{es:List Expr}{k:Nat}{t:YI}{n:Nat}(hc:X.calm=true)(h:iW X es t)
 (hn:(assignEach es X.env).length=n:=by rfl)(hst:(assignEach es X.env).findIdx? (·.1)=none:=by rfl):PG X (.Tuple es k pos) (aR X.K n t):=by
 intro A1 s Y H v u Q I r hw;obtain⟨a,xs,e1,hq,hl,hw⟩:=hw;subst e1;cases r;obtain⟨its,rv,ht,hz⟩:=I.tuple hq;refine assign_Tuple_tuple (I.ok.hd hc) ht (by simp[hn,<-hl,rv.length]) hst λh' hx=>?_
 have I1:Inv X A1 Y H {s with heap:=h'}:=I.kept (t':=s.toks) λb o e=>hx b o (Nat.ne_of_lt (Heap.lt_size e)) e
 exact h A1 _ Y H xs _ Q I1 (by simpa using rv) hw
def QD(te:TE)(g:TG):TS:=λD Y H=>te Y H λx H1=>g x Y H1 D.nx
variable{te:TE}
theorem ZF{tg:Expr}{g:TG}(he:PE X e te)(hg:PG X tg g)(hs:swapsWithSole [tg] e pos.line X.env=pure false:=by rfl)(hw:swappedStores [tg] e X.env=pure none:=by rfl)
 (h1:(assignEach [tg] X.env).map (·.2)=[assign tg X.env]:=by rfl):PS X (.Assign [tg] e pos) (QD te g):=by
 intro A1 s Y H D I h;refine wpAny_Assign_stores (B2 (he A1 s Y H _ I h) λv s1 ⟨x,H1,I1,r1,q1⟩=>?_) hs hw;rw[h1];exact B2 (hg A1 s1 Y H1 x v _ I1 r1 q1) λ_ s2 q=>q
theorem EW{i:Nat}{x:Str}{pos':Pos}(hN:X.N.Nodup)(hi:X.N[i]? =some x)(hx:Loc X.env.scope x)(he:PE X e te)(hs:swapsWith e (some (.Name x pos')) pos.line X.env=pure false:=by rfl)(hf:X.fn x=true\/X.env.scope.names.lookup x=some .local:=by first|exact .inl rfl|exact .inr rfl|assumption):
 PS X (.Assign [.Name x pos'] e pos) (QD te (EH i)):=by
 intro A1 s Y H D I h;refine wpAny_Assign_Name (B2 (he A1 s Y H _ I h) λv s1 ⟨y,H1,I1,r1,q1⟩=>?_) hs;exact DN I1 hN hi hx r1 (λs2 I2=>#[_,H1,I2,q1]) hf
end
section
variable{pos:Pos}
def Qz(c:TT)(tb:TS):TS:=λD Y H=>∃W:Nat->St->Hp->Prop,(∃m,W m Y H)/\∀m Y H,W m Y H->
 c Y H λb H1=>if b=true then ∃N:St->Hp->Prop,(∀Y' H',N Y' H'->∃m',m'<m/\W m' Y' H')/\tb {D with nx:=N,ct:=N,bk:=D.nx} Y H1 else D.nx Y H1
theorem Rc{body:List Stmt}{tc:TT}{tb:TS}(hp:PassesOwn (model X.prog X.w) X.A X.env X.xe)(hc:PT X c tc)(hb:Nf X body tb):PS X (.While c body [] pos) (Qz tc tb):=by
 intro A1 s Y H D I h;obtain⟨W,⟨m0,w0⟩,turn⟩:=h;refine wpAny_While (codeAny_whileLoop (λn s'=>∃Y' H',Inv X A1 Y' H' s'/\W n Y' H') ?_ m0 #[Y,H,I,w0])
 rintro n s1 ⟨Y1,H1,I1,w1⟩
 refine wpAny_passesOwn hp (B2 (hc A1 s1 Y1 H1 _ I1 (turn n Y1 H1 w1)) λb s2 ⟨H2,I2,q2⟩=>?_);cases b with
 |true=>
   obtain⟨N,hN,q2⟩:=q2;rw[iP rfl];refine wpAny_passesOwn hp (B2 (hb A1 s2 Y1 H2 _ I2 q2) λf s3 q3=>?_);cases f with
   |next=>
     obtain⟨Y3,H3,I3,n3⟩:=q3;obtain⟨m',hm,w3⟩:=hN Y3 H3 n3;exact#[m',hm,Y3,H3,I3,w3]
   |cont=>
     obtain⟨Y3,H3,I3,n3⟩:=q3;obtain⟨m',hm,w3⟩:=hN Y3 H3 n3;exact#[m',hm,Y3,H3,I3,w3]
   |brk=>exact q3
   |ret v=>exact q3
 |false=>
   rw[iN Bool.false_ne_true];exact wpAny_execs_nil #[Y1,H2,I2,q2]
end
structure It where
 go:Nat->Hp->Prop
 Q8:Nat->Hp->V->Hp->Prop
 stop:Nat->Hp->Prop
def Gn(X:Cx)(A1:Oa)(H:Hp)(b:Addr):Prop:=
 H b=none/\b≠X.env.locals/\b∉X.fs/\(b∈X.ex\/X.s₀.heap.objs.size<=b)/\(∀x c,X.env.cells.lookup x=some c->c≠b)/\∀p∈X.pn++A1,p.1≠b
theorem Inv.Sw{X:Cx}{A1:Oa}{Y:St}{H':Hp}{b:Addr}(I:Inv X A1 Y H s)(hb:s.heap.objs.size<=b)(hn:H' b=none):Gn X A1 H' b:=by
 refine#[hn,Nat.ne_of_gt (Nat.lt_of_lt_of_le I.lt hb),I.aa hb,.inr (Nat.le_trans I.sz hb),λx c e z=>?_,λp hp z=>?_]
 .obtain⟨v,q⟩:=I.cell x c e;exact absurd (Nat.lt_of_lt_of_le q.lt (by rw[z];exact hb)) (Nat.lt_irrefl _)
 .exact absurd (Nat.lt_of_lt_of_le (Heap.lt_size (I.pin p hp).1) (by rw[z];exact hb)) (Nat.lt_irrefl _)
structure Turn(P:Program)(w:World)(K:PySem.W.Frag)(tg:Expr)(J:It)(fp:List Addr)(it:Addr)(tn:Nat->Heap->Prop):Prop where
 mem:it∈fp
 obj:∀i h,tn i h->∀b∈fp,∃o,h.get? b=some o/\∀v,o.data≠.cell v
 keep:∀i h h',tn i h->(∀b∈fp,∀o,h.get? b=some o->h'.get? b=some o)->tn i h'
 item:∀(X:Cx),X.prog=P->X.w=w->X.K=K->X.calm=true->∀(i:Nat) (A1:Oa) (s:Shared) (Y:St) (H:Hp) (E:Va),Inv X A1 Y H s->(∀b∈fp,Gn X A1 H b)->tn i s.heap->J.go i H->
  wpAny (model P w) X.A (pyNext (.ref it)) (λr s1=>∃u,r=some u/\
   wpAny (model P w) X.A (letOwnedTupleGo tg (.ref it) u) (λ_ s2=>∃x H',Inv X A1 Y H' s2/\RelV x u/\J.Q8 i H x H'/\tn (i+1) s2.heap/\∀b∈fp,H' b=none) E s1) E s
 done:∀(X:Cx),X.prog=P->X.w=w->X.K=K->X.calm=true->∀(i:Nat) (A1:Oa) (s:Shared) (Y:St) (H:Hp) (E:Va),Inv X A1 Y H s->(∀b∈fp,Gn X A1 H b)->tn i s.heap->J.stop i H->
  wpAny (model P w) X.A (pyNext (.ref it)) (λr s1=>r=none/\Inv X A1 Y H s1) E s
 self:∀(A:Around) (i:Nat) (s:Shared) (Q:Va) (E:Va),tn i s.heap->Q (.ref it) s->wpAny (model P w) A (pyIter (.ref it)) Q E s
abbrev TI:=St->Hp->(It->Hp->Prop)->Prop
def nR(X:Cx)(A1:Oa)(Y:St)(tg:Expr)(R:It->Hp->Prop)(itv:Value)(s2:Shared):Prop:=
 ∃(it:Addr) (fp:List Addr) (tn:Nat->Heap->Prop) (J:It) (H':Hp),itv= .ref it/\Inv X A1 Y H' s2/\Turn X.prog X.w X.K tg J fp it tn/\tn 0 s2.heap/\(∀b∈fp,Gn X A1 H' b)/\R J H'
def PI(X:Cx)(tg iter:Expr)(wi:TI):Prop:=
 ∀ (A1:Oa) (s:Shared) (Y:St) (H:Hp) (R:It->Hp->Prop),Inv X A1 Y H s->wi Y H R->
   (X|||(eval iter X.env)) (λv s1=>(X|||(pyIter v)) (nR X A1 Y tg R) X.xe s1) X.xe s
theorem Lu{E:Va}{tg:Expr}{u:Value}{o:Obj}{n:String}{vs:Array Value}{Q:Unit->Shared->Prop}(ho:s.heap.get? it=some o)(hc:o.cls= .type n)(hd:o.data= .fields vs)
 (hn:["enumerate","zip","dict_itemiterator","dict_reverseitemiterator","odict_iterator","itertools.zip_longest","itertools.pairwise"].contains n=false)(hQ:Q () s):wpAny M A (letOwnedTupleGo tg (.ref it) u) Q E s:=by
 unfold letOwnedTupleGo
 cases tg <;>first
  |exact wP hQ
  |(cases u<;>first
   |exact wP hQ
   | (refine wB (wpAny_load ho ?_)
      rw[hc,hd];show wpAny M A (if(["enumerate","zip","dict_itemiterator","dict_reverseitemiterator","odict_iterator","itertools.zip_longest","itertools.pairwise"].contains n&&vs[0]? == some (rawInt _))=true then _ else _) Q E s;rw[iN (by intro h;rw[hn,Bool.false_and]at h;cases h)]
      exact wP hQ))
def nU(K:PySem.W.Frag)(a:Addr):It:=
 #[λi H=>∃xs x,Fd K H a xs/\xs[i]? =some x,λi H x H'=>H'=H/\∀xs,Fd K H a xs->xs[i]? =some x,λi H=>∃xs,Fd K H a xs/\xs.length<=i]
def nS(K:PySem.W.Frag)(a:Addr):It:=
 #[λi H=>∃xs x,FX K H a xs/\xs[i]? =some x,λi H x H'=>H'=H/\∀xs,FX K H a xs->xs[i]? =some x,λi H=>∃xs,FX K H a xs/\xs.length<=i]
def ja(lo:Int)(n:Nat):It:=#[λi _=>i<n,λi H x H'=>H'=H/\x= .int (lo+i),λi _=>n<=i]
theorem OJ{P:Program}{K:PySem.W.Frag}{tg:Expr}(a it:Addr):Turn P w K tg (nU K a) [it] it (λi h=>h.IsListIter it a i) where
 mem:=by simp
 obj:=λi h st b hb=>by
  have e:b=it:=by simpa using hb
  subst e;obtain⟨o,e,c,d⟩:=st;exact#[o,e,λv z=>by rw[d]at z;cases z]
 keep:=λi h h' st k=>st.at λo e=>k it (by simp) o e
 item:=by
  intro X hP hw hK hc i A1 s Y H E I hf st hg;subst hP hw hK;obtain⟨xs,x,hq,hx⟩:=hg;obtain⟨its,rv,p,hz⟩:=I.list hq;obtain⟨u,hu,ru⟩:=rv.get hx;obtain⟨f0,f1,f2,f3,f4,f5⟩:=hf it (by simp);refine wpAny_pyNext_list_item st p.isList (x:=u) (by simpa using hu) λh' st' sb=>?_
  have I1:Inv X A1 Y H {s with heap:=h'}:=I.turned (t':=s.toks) (λb o hb e=>(sb.2 b hb).trans e) f0 f1 f3 f4 f5;obtain⟨o,e,c,d⟩:=id st';exact#[u,rfl,Lu (s:={s with heap:=h'}) e c d (by decide) #[x,H,I1,ru,#[rfl,λys hy=>by rw[I.RV hy hq];exact hx],st',λb hb=>(hf b hb).1]]
 done:=by
  intro X hP hw hK hc i A1 s Y H E I hf st hg;subst hP hw hK;obtain⟨xs,hq,hx⟩:=hg;obtain⟨its,rv,p,hz⟩:=I.list hq;obtain⟨f0,f1,f2,f3,f4,f5⟩:=hf it (by simp);have hl:=rv.length;exact wpAny_pyNext_list_end (I.ok.hd hc) st p.isList (by simp;lia) λh' eb=>#[rfl,I.turned (t':=s.toks) (λb o hb e=>eb b o hb e) f0 f1 f3 f4 f5]
 self:=λ_ _ _ _ _ st h=>wpAny_pyIter_listiter st h
theorem M8{P:Program}{K:PySem.W.Frag}{tg:Expr}(a it:Addr):Turn P w K tg (nS K a) [it] it (λi h=>h.IsTupleIter it a i) where
 mem:=by simp
 obj:=λi h st b hb=>by
  have e:b=it:=by simpa using hb
  subst e;obtain⟨o,e,c,d⟩:=st;exact#[o,e,λv z=>by rw[d]at z;cases z]
 keep:=λi h h' st k=>st.at λo e=>k it (by simp) o e
 item:=by
  intro X hP hw hK hc i A1 s Y H E I hf st hg;subst hP hw hK;obtain⟨xs,x,hq,hx⟩:=hg;obtain⟨its,rv,p,hz⟩:=I.tuple hq;obtain⟨u,hu,ru⟩:=rv.get hx;obtain⟨f0,f1,f2,f3,f4,f5⟩:=hf it (by simp);refine wpAny_pyNext_tuple_item st (show s.heap.IsTuple a its.toArray from p) (x:=u) (by simpa using hu) λh' st' sb=>?_
  have I1:Inv X A1 Y H {s with heap:=h'}:=I.turned (t':=s.toks) (λb o hb e=>(sb.2 b hb).trans e) f0 f1 f3 f4 f5;obtain⟨o,e,c,d⟩:=id st';exact#[u,rfl,Lu (s:={s with heap:=h'}) e c d (by decide) #[x,H,I1,ru,#[rfl,λys hy=>by rw[I.OK hy hq];exact hx],st',λb hb=>(hf b hb).1]]
 done:=by
  intro X hP hw hK hc i A1 s Y H E I hf st hg;subst hP hw hK;obtain⟨xs,hq,hx⟩:=hg;obtain⟨its,rv,p,hz⟩:=I.tuple hq;obtain⟨f0,f1,f2,f3,f4,f5⟩:=hf it (by simp);have hl:=rv.length;exact wpAny_pyNext_tuple_end (I.ok.hd hc) st (show s.heap.IsTuple a its.toArray from p) (by simp;lia) λh' eb=>#[rfl,I.turned (t':=s.toks) (λb o hb e=>eb b o hb e) f0 f1 f3 f4 f5]
 self:=λ_ _ _ _ _ st h=>wpAny_pyIter_tupleiter st h
theorem M9{P:Program}{K:PySem.W.Frag}{tg:Expr}(it:Addr)(lo:Int)(n:Nat):Turn P w K tg (ja lo n) [it] it (λi h=>IsRangeIter h it (lo+(i:Nat)*1) ((n:Int)-(i:Nat)) 1) where
 mem:=by simp
 obj :=λi h st b hb=>by
  have e:b=it:=by simpa using hb
  subst e
  exact⟨_,st,λv z=>by
   have z':Data.fields _=Data.cell v:=z
   cases z'⟩
 keep:=λi h h' st k=>k it (by simp) _ st
 item:=by
  intro X hP hw hK hc i A1 s Y H E I hf st hg;subst hP hw hK;obtain⟨f0,f1,f2,f3,f4,f5⟩:=hf it (by simp);have W:=Walks.range (prog:=X.prog) (w:=X.w) (I.ok.hd hc) it lo 1 n;refine W.item i s _ _ hg st λv h' tk hv st' kk=>?_
  obtain⟨t,rfl⟩:=hv;have I1:Inv X A1 Y H {s with heap:=h',toks:=tk}:=I.turned (λb o hb e=>kk b o (by simpa using hb) e) f0 f1 f3 f4 f5;refine#[_,rfl,Lu (s:={s with heap:=h',toks:=tk}) (n:="range_iterator") st' rfl rfl (by decide) #[.int (lo+i),H,I1,#[t,?_],#[rfl,rfl],st',λb hb=>(hf b hb).1]];rw[Int.mul_one]
 done:=by
  intro X hP hw hK hc i A1 s Y H E I hf st hg;subst hP hw hK;obtain⟨f0,f1,f2,f3,f4,f5⟩:=hf it (by simp);exact wpAny_pyNext_range_end (I.ok.hd hc) st (by have:n<=i:=hg;lia) λh' eb=>#[rfl,I.turned (t':=s.toks) (λb o hb e=>eb b o hb e) f0 f1 f3 f4 f5]
 self:=λ_ _ _ _ _ st h=>wpAny_pyIter_rangeiter st h
section
variable{tg:Expr}
variable{A1:Oa}{H:Hp}{s:Shared}
theorem R5{Y:St}{R:It->Hp->Prop}{E:Va}{lo hi:Int}{t u v:Tok}{tk:Nat}(I:Inv X A1 Y H s)(h1: -(2^62)<=lo)(h2:lo<2^62)(h3: -(2^62)<=hi)(h4:hi<2^62)
 (q:R (ja lo (hi-lo).toNat) H):(X|||(pyIter (.ref s.heap.objs.size))) (nR X A1 Y tg R) E {s with heap:=s.heap.push {cls:=.type "range",data:=.fields [.int lo t,.int hi u,.int 1 v].toArray},toks:=tk}:=by
 refine wpAny_pyIter_range (IsRange.new ..) (small_one h1 h2 h3 h4) ?_;have I1:Inv X A1 Y H {s with heap:=s.heap.push {cls:=.type "range",data:=.fields [.int lo t,.int hi u,.int 1 v].toArray},toks:=tk}:=I.kept λb o e=>gP e
 refine⟨(s.heap.push {cls:=.type "range",data:=.fields [.int lo t,.int hi u,.int 1 v].toArray}).objs.size,[(s.heap.push {cls:=.type "range",data:=.fields [.int lo t,.int hi u,.int 1 v].toArray}).objs.size],_,_,H,rfl,
  I1.kept (t':=tk) λb o e=>gP e,M9 _ lo (hi-lo).toNat,?_,λb hb=>?_,q⟩
 .have e1:lo+((0:Nat):Int)*1=lo:=by simp
  have e2:(((hi-lo).toNat:Nat):Int)-((0:Nat):Int)=Builtin.Range.rangeSize lo hi 1:=by rw[rangeSize_one];split<;>lia
  show IsRangeIter _ _ (lo+((0:Nat):Int)*1) ((((hi-lo).toNat:Nat):Int)-((0:Nat):Int)) 1;rw[e1,e2];exact Heap.get?_push_size _ rfl
 .have e:b=(s.heap.push {cls:=.type "range",data:=.fields [.int lo t,.int hi u,.int 1 v].toArray}).objs.size:=by simpa using hb
  subst e;exact I1.Sw (lR) (I1.Ao.fresh (lR))
def gH(ta:TA):TI:=λY H R=>ta Y H λvs H1=>∃j:Int,vs=[.int j]/\-(2^62)<=j/\j<2^62/\R (ja 0 j.toNat) H1
theorem P8{a:Expr}{ta:TA}{p pos:Pos}(hg:Gl X "range")(hm:X.mg "range"=none)(ha:PA X [a] ta)(hs:starEach [a] X.env=[(false,eval a X.env)]:=by rfl):PI X tg (.Call (.Name "range" p) [a] [] pos) (gH ta):=by
 intro A1 s Y H R I h;refine Call_ (HI I hg hm boot_range (PyProof.Rows.callWith_type1 (B2 (ha pos A1 s Y H _ I h) λus s1 ⟨vs,H1,I1,r1,q1⟩=>?_) hs rfl));obtain⟨j,e,q1,q2,q⟩:=q1;subst e;cases r1 with
 |cons r rr=>
   cases rr;obtain⟨t,rfl⟩:=r;exact call_range_1 (R5 I1 (by lia) (by lia) q1 q2 (by simpa using q))
noncomputable def eD(wi:TI)(g:TG)(tb:TS):TS:=λD Y H=>wi Y H λJ H1=>∃W:Nat->Nat->St->Hp->Prop,(∃m,W 0 m Y H1)/\∀i m Y H,W i m Y H->
 (J.stop i H/\D.nx Y H)\/(J.go i H/\∃N:St->Hp->Prop,(∀Y' H',N Y' H'->∃m',m'<m/\W (i+1) m' Y' H')/\∀x H',J.Q8 i H x H'->g x Y H' λY2 H2=>tb {D with nx:=N,ct:=N,bk:=D.nx} Y2 H2)
def JN(fp:List Addr)(h:Heap):List (Addr×Obj):=fp.filterMap λb=>(h.get? b).map λo=>(b,o)
variable{fp:List Addr}{h:Heap}
theorem C2{b:Addr}{o:Obj}(hb:b∈fp)(e:h.get? b=some o):(b,o)∈JN fp h:=mem_filterMap.mpr #[b,hb,by rw[e];rfl]
theorem Pd{p:Addr×Obj}(hp:p∈JN fp h):p.1∈fp/\h.get? p.1=some p.2:=by
 obtain⟨b,hb,e⟩:=mem_filterMap.mp hp;cases q:h.get? b with
 |none=>rw[q]at e;cases e
 |some o=>
   rw[q]at e;have e':(b,o)=p:=Option.some.inj e;subst e';exact#[hb,q]
theorem Inv.pinned{Y:St}(I:Inv X A1 Y H s)(hf:∀b∈fp,Gn X A1 H b)(ho:∀b∈fp,∃o,s.heap.get? b=some o/\∀v,o.data≠.cell v):Inv X (A1++JN fp s.heap) Y H s:=
 I.Dy λp hp=>(mZ hp).elim (λz=>I.pin p (mR z)) λz=>by
  obtain⟨hb,e⟩:=Pd z;obtain⟨f0,f1,f2,_⟩:=hf p.1 hb;obtain⟨o,e',d⟩:=ho p.1 hb;rw[e]at e';cases e';exact#[e,f0,f1,f2,d]
theorem Inv.Hg{pl:Oa}{Y:St}(I:Inv X (A1++pl) Y H s):Inv X A1 Y H s:=I.Dy λp hp=>I.pin p (mR (mL hp))
theorem ZC{iter:Expr}{body:List Stmt}{wi:TI}{g:TG}{tb:TS}{pos:Pos}(hp:PassesOwn (model X.prog X.w) X.A X.env X.xe)(hc:X.calm=true)(hi:PI X tg iter wi)(hg:PG X tg g)(hb:Nf X body tb)
 (hs:∀x,foldedSetIterable iter X.env x=pure x:=by intro _;rfl):PS X (.For tg iter body [] pos) (eD wi g tb):=by
 intro A1 s Y H D I h;refine wpAny_For (B2 (hi A1 s Y H _ I h) λv s1 h1=>B2 h1 λitv s2 h2=>?_) hs;obtain⟨it,fp,tn,J,H2,e,I2,T,st2,f2,W,⟨m0,w0⟩,turn⟩:=h2;subst e;have stat:∀{H':Hp},(∀b∈fp,H' b=none)->∀b∈fp,Gn X A1 H' b:=λhn b hb=>#[hn b hb,(f2 b hb).2]
 refine codeAny_forLoop_any (λn s'=>∃i Y' H',Inv X A1 Y' H' s'/\tn i s'.heap/\(∀b∈fp,H' b=none)/\W i n Y' H') ?_ m0 #[0,Y,H2,I2,st2,λb hb=>(f2 b hb).1,w0]
 rintro n s3 ⟨i,Y3,H3,I3,st3,fr3,w3⟩
 rcases turn i n Y3 H3 w3 with⟨stop,qn⟩|⟨go,N,hN,step⟩
 .refine wpAny_passesOwn hp (B2 (T.done X rfl rfl rfl hc i A1 s3 Y3 H3 X.xe I3 (stat fr3) st3 stop) λr s4 ⟨hr,I4⟩=>?_);subst hr;exact wpAny_execs_nil #[Y3,H3,I4,qn]
 .refine wpAny_passesOwn hp (B2 (T.item X rfl rfl rfl hc i A1 s3 Y3 H3 X.xe I3 (stat fr3) st3 go) λr s4 ⟨u,hr,h4⟩=>?_);subst hr;refine wpAny_passesOwn hp (B2 h4 λ_ s5 ⟨x,H5,I5,r5,y5,st5,fr5⟩=>?_);have I5':=I5.pinned (stat fr5) (T.obj _ _ st5);refine wpAny_passesOwn hp (B2 (hg _ s5 Y3 H5 x u _ I5' r5 (step x H5 y5)) λ_ s6 ⟨Y6,H6,I6,q6⟩=>?_);refine wpAny_passesOwn hp (B2 (hb _ s6 Y6 H6 _ I6 q6) λf s7 q7=>?_)
  have again:∀{Y7:St} {H7:Hp},Inv X (A1++JN fp s5.heap) Y7 H7 s7->N Y7 H7->∃m,m<n/\∃i Y' H',Inv X A1 Y' H' s7/\tn i s7.heap/\(∀b∈fp,H' b=none)/\W i m Y' H':=λ{Y7 H7} I7 n7=>by
   obtain⟨m',hm,w7⟩:=hN Y7 H7 n7;refine#[m',hm,i+1,Y7,H7,I7.Hg,T.keep _ _ _ st5 λb hb o e=>(I7.pin (b,o) (mR (mR (C2 hb e)))).1,λb hb=>?_,w7];obtain⟨o,e,d⟩:=T.obj _ _ st5 b hb;exact(I7.pin (b,o) (mR (mR (C2 hb e)))).2.1
  cases f with
  |next=>obtain⟨Y7,H7,I7,n7⟩:=q7;exact again I7 n7
  |cont=>obtain⟨Y7,H7,I7,n7⟩:=q7;exact again I7 n7
  |brk=>obtain⟨Y7,H7,I7,q7⟩:=q7;exact#[Y7,H7,I7.Hg,q7]
  |ret v=>obtain⟨x7,Y7,H7,I7,r7,q7⟩:=q7;exact#[x7,Y7,H7,I7.Hg,r7,q7]
end
abbrev R2:=V->V->Hp->VK->Prop
def Cb(X:Cx)(f:Value->Value->Sem Value)(r:R2):Prop:=
 ∀ (A1:Oa) (s:Shared) (Y:St) (H:Hp) (x y:V) (v u:Value) (Q:VK),Inv X A1 Y H s->RelV x v->RelV y u->r x y H Q->
   (X|||(f v u)) (EP X A1 Y Q) X.xe s
def YH(X:Cx)(f:Value->Sem Value)(r:V->Hp->VK->Prop):Prop:=
 ∀ (A1:Oa) (s:Shared) (Y:St) (H:Hp) (x:V) (v:Value) (Q:VK),Inv X A1 Y H s->RelV x v->r x H Q->
   (X|||(f v)) (EP X A1 Y Q) X.xe s
def Bc(X:Cx)(f:Value)(r:List V->Hp->VK->Prop):Prop:=
 ∀ (A1:Oa) (s:Shared) (Y:St) (H:Hp) (xs:List V) (us:List Value) (Q:VK),Inv X A1 Y H s->Vals xs us->r xs H Q->
   (X|||(call f us)) (EP X A1 Y Q) X.xe s
def iU(X:Cx)(r:V->Hp->(Bool->Hp->Prop)->Prop):Prop:=
 ∀ (A1:Oa) (s:Shared) (Y:St) (H:Hp) (x:V) (v:Value) (Q:Bool->Hp->Prop),Inv X A1 Y H s->RelV x v->r x H Q->
   (X|||(truthy v)) (TP X A1 Y Q) X.xe s
def jg(r:R2)(ta tb:TE):TE:=λY H Q=>ta Y H λx H1=>tb Y H1 λy H2=>r x y H2 Q
def nW(r:V->Hp->VK->Prop)(ta:TE):TE:=λY H Q=>ta Y H λx H1=>r x H1 Q
def rI(C:Int->Int->Prop)(g:Int->Int->V):R2:=λx y H Q=>∃i j,x= .int i/\y= .int j/\C i j/\Q (g i j) H
def XY(g:Int->Int->V):R2:=λx y H Q=>∃i j,x= .int i/\y= .int j/\Q (g i j) H
def rU(g:Int->V):V->Hp->VK->Prop:=λx H Q=>∃i,x= .int i/\Q (g i) H
section
variable{a b c:Expr}{ta tb tc:TE}{pos:Pos}
theorem bW(ha:PE X a ta)(hb:PE X b tb){A1:Oa}{s:Shared}{Y:St}{H:Hp}{R:V->V->Hp->Prop}(I:Inv X A1 Y H s)
 (h:ta Y H λx H1=>tb Y H1 λy H2=>R x y H2){Q:Va}{f:Value->Value->Sem Value}
 (hf:∀v u s2 x y H2,Inv X A1 Y H2 s2->RelV x v->RelV y u->R x y H2->(X|||(f v u)) Q X.xe s2):
 (X|||(eval a X.env)) (λv s₁=>(X|||(eval b X.env)) (λu s₂=>(X|||(f v u)) Q X.xe s₂) X.xe s₁) X.xe s:=by
 refine B2 (ha A1 s Y H _ I h) λv s1 ⟨x,H1,I1,r1,q1⟩=>?_
 refine B2 (hb A1 s1 Y H1 _ I1 q1) λu s2 ⟨y,H2,I2,r2,q2⟩=>?_
 exact hf v u s2 x y H2 I2 r1 r2 q2
theorem fJ{op:Operator}{r:R2}(ho:Cb X (binaryOp op) r)(ha:PE X a ta)(hb:PE X b tb):PE X (.BinOp a op b pos) (jg r ta tb):=by
 intro A1 s Y H Q I h;exact wpAny_BinOp (bW ha hb I h λv u s2 x y H2 I2 rx ry q=>ho A1 s2 Y H2 x y v u Q I2 rx ry q)
theorem fH{op:UnaryOp}{r:V->Hp->VK->Prop}(ho:YH X (unaryOp op) r)(ha:PE X a ta):PE X (.UnaryOp op a pos) (nW r ta):=by
 intro A1 s Y H Q I h;exact UnaryOp_ (B2 (ha A1 s Y H _ I h) λv s1 ⟨x,H1,I1,r1,q1⟩=>ho A1 s1 Y H1 x v Q I1 r1 q1)
theorem jj{f:Value->Value->Sem Value}{C:Int->Int->Prop}{g:Int->Int->Int}
 (rule:∀(i j:Int) (t u:Tok) (s:Shared) (Q:Va) (E:Va),C i j->Q (.int (g i j) s.toks) {s with toks:=s.toks+1}->(X|||(f (.int i t) (.int j u))) Q E s):
 Cb X f (rI C λi j=>.int (g i j)):=by
 intro A1 s Y H x y v u Q I rx ry h;obtain⟨i,j,rfl,rfl,hc,q⟩:=h;obtain⟨t,rfl⟩:=rx;obtain⟨t',rfl⟩:=ry;exact rule i j t t' s _ _ hc #[.int (g i j),H,I.tok _,#[_,rfl],q]
theorem fS{f:Value->Value->Sem Value}{g:Int->Int->Int}
 (rule:∀(i j:Int) (t u:Tok) (s:Shared) (Q:Va) (E:Va),Q (.int (g i j) s.toks) {s with toks:=s.toks+1}->(X|||(f (.int i t) (.int j u))) Q E s):
 Cb X f (XY λi j=>.int (g i j)):=by
 intro A1 s Y H x y v u Q I rx ry h;obtain⟨i,j,rfl,rfl,q⟩:=h;obtain⟨t,rfl⟩:=rx;obtain⟨t',rfl⟩:=ry;exact rule i j t t' s _ _ #[.int (g i j),H,I.tok _,#[_,rfl],q]
theorem VF{f:Value->Value->Sem Value}{g:Int->Int->Bool}
 (rule:∀(i j:Int) (t u:Tok) (s:Shared) (Q:Va) (E:Va),Q (.bool (g i j)) s->(X|||(f (.int i t) (.int j u))) Q E s):
 Cb X f (XY λi j=>.bl (g i j)):=by
 intro A1 s Y H x y v u Q I rx ry h;obtain⟨i,j,rfl,rfl,q⟩:=h;obtain⟨t,rfl⟩:=rx;obtain⟨t',rfl⟩:=ry;exact rule i j t t' s _ _ #[.bl (g i j),H,I,rfl,q]
def ni(i j:Int):Prop:=0<j/\j<1073741824
def nh(i j:Int):Prop:=0<=j/\j<=1000000/\i.natAbs<2^64
def dj(i j:Int):Prop:=(-(2^64)<i/\i<2^64)\/(-(2^64)<j/\j<2^64)
theorem dj.ok{i j:Int}(h:dj i j):IntMulOk i j:=by
 rcases h with⟨h1,h2⟩|⟨h1,h2⟩
 .exact .of_left (intBits_le_64 h1 h2)
 .exact .of_right (intBits_le_64 h1 h2)
theorem ZT:Cb X (binaryOp .Add) (XY λi j=>.int (i+j)):=fS λ_ _ _ _ _ _ _ q=>add_int q
theorem ZN:Cb X (binaryOp .Sub) (XY λi j=>.int (i-j)):=fS λ_ _ _ _ _ _ _ q=>sub_int q
theorem ZP:Cb X (binaryOp .Mult) (rI dj λi j=>.int (i*j)):=jj λ_ _ _ _ _ _ _ hc q=>mul_int q hc.ok
theorem VD:Cb X (binaryOp .FloorDiv) (rI ni λi j=>.int (i/j)):=jj λi j _ _ _ _ _ hc q=>by
 have h1:(0:Int)<j:=hc.1;have h2:j<1073741824:=hc.2;exact floordiv_int (by lia) (by rw[Int.fdiv_eq_ediv_of_nonneg i (by lia)];exact q) (.inl (PyProof.noPylong_small (by lia)))
theorem ZQ:Cb X (binaryOp .Mod) (rI (λ_ j=>0<j) λi j=>.int (i%j)):=jj λi j _ _ _ _ _ hc q=>by
 have h1:(0:Int)<j:=hc;exact mod_int' (by lia) (by rw[Int.fmod_eq_emod_of_nonneg i (by lia)];exact q)
theorem ZO:Cb X (binaryOp .Pow) (rI nh λi j=>.int (i^j.toNat)):=jj λ_ _ _ _ _ _ _ hc q=>pow_int_small hc.1 hc.2.1 hc.2.2 q
theorem nV{f:Value->Sem Value}{g:Int->Int}
 (rule:∀(i:Int) (t:Tok) (s:Shared) (Q:Va) (E:Va),Q (.int (g i) s.toks) {s with toks:=s.toks+1}->(X|||(f (.int i t))) Q E s):
 YH X f (rU λi=>.int (g i)):=by
 intro A1 s Y H x v Q I rx h;obtain⟨i,rfl,q⟩:=h;obtain⟨t,rfl⟩:=rx;exact rule i t s _ _ #[.int (g i),H,I.tok _,#[_,rfl],q]
theorem YN:YH X (unaryOp .USub) (rU λi=>.int (-i)):=nV λ_ _ _ _ _ q=>neg_int q
end
section
variable{a b c:Expr}{ta tb tc:TE}{pos:Pos}
variable{A1:Oa}{H:Hp}{s:Shared}
theorem N2{Y:St}{Q:VK}{k k':Bool}(I:Inv X A1 Y H s)(q:Q (.bl k) H)(e:k=k'):EP X A1 Y Q (.bool k') s:=by
 subst e;exact#[.bl k,H,I,rfl,q]
theorem fO:Cb X (compareOp .Lt) (XY λi j=>.bl (decide (i<j))):=VF λ_ _ _ _ _ _ _ q=>lt_int q
theorem fP:Cb X (compareOp .LtE) (XY λi j=>.bl (decide (i<=j))):=VF λ_ _ _ _ _ _ _ q=>le_int q
theorem fQ:Cb X (compareOp .Gt) (XY λi j=>.bl (decide (j<i))):=VF λ_ _ _ _ _ _ _ q=>gt_int q
theorem fR:Cb X (compareOp .GtE) (XY λi j=>.bl (decide (j<=i))):=VF λ_ _ _ _ _ _ _ q=>ge_int q
theorem ZR:Cb X (compareOp .Is) (λx y H Q=>y= .Az/\Q (.bl (decide (x= .Az))) H):=by
 intro A1 s Y H x y v u Q I rx ry h;obtain⟨rfl,q⟩:=h;cases ry;refine is_none_gen (N2 I q ?_)
 cases x<;>first
  |(cases rx;rfl)
  |(obtain⟨t,rfl⟩:=rx;rfl)
theorem VC:Cb X (compareOp .IsNot) (λx y H Q=>y= .Az/\Q (.bl (!decide (x= .Az))) H):=by
 intro A1 s Y H x y v u Q I rx ry h;obtain⟨rfl,q⟩:=h;cases ry;refine isnot_none_gen (N2 I q ?_)
 cases x<;>first
  |(cases rx;rfl)
  |(obtain⟨t,rfl⟩:=rx;rfl)
def isObj:HO->Bool
 |.lst _=>true
 |.ins _ _ _=>true
 |_=>false
theorem Ej{Y:St}{a:Addr}{o:HO}(I:Inv X A1 Y H s)(h:H a=some o)(p:isObj o=true):∃ob,s.heap.get? a=some ob/\ob.cls≠.type "tuple":=by
 cases o with
 |lst xs=>
   obtain⟨_,its,n,_,e⟩:xs.length<=sizeLine/\∃(its:List Value) (n:Nat),Vals xs its/\s.heap.get? a=some {cls:=.type "list",data:=.seq its.toArray n}:=I.Ao a _ h;exact#[_,e,(by show Value.type "list"≠.type "tuple";decide +kernel)]
 |ins C dx fs=>
   have x:=I.Ao a _ h;obtain⟨_,_,_,e,_⟩:=x;exact#[_,e,(by show Value.ref C≠.type "tuple";exact λz=>by cases z)]
 |_=>exact absurd (show false=true from p) Bool.false_ne_true
variable{op:CmpOp}
theorem ZZ(b:Expr)(h:op≠.In:=by decide)(h2:op≠.NotIn:=by decide):behindInMarks op b=false:=by
 have e1:(op==CmpOp.In)=false:=by cases op<;>first|rfl|exact absurd rfl h
 have e2:(op==CmpOp.NotIn)=false:=by cases op<;>first|rfl|exact absurd rfl h2
 cases b<;>simp[behindInMarks,e1,e2]
theorem NP{r:R2}(ho:Cb X (compareOp op) r)(ha:PE X a ta)(hb:PE X b tb)(hm:behindInMarks op b=false):PE X (.Compare a [op] [b] pos) (jg r ta tb):=by
 intro A1 s Y H Q I h;exact wpAny_Compare1 (bW ha hb I h λv u s2 x y H2 I2 rx ry q=>ho A1 s2 Y H2 x y v u Q I2 rx ry q) hm
def XH(t:TE):TT:=λY H Q=>t Y H λx H'=>∃k,x= .bl k/\Q k H'
theorem Vq{r:R2}(ho:Cb X (compareOp op) r)(ha:PE X a ta)(hb:PE X b tb)(hm:behindInMarks op b=false):PT X (.Compare a [op] [b] pos) (XH (jg r ta tb)):=by
 intro A1 s Y H Q I h
 refine wpAny_isTrue_Compare1 (B2 (ha A1 s Y H _ I h) λv s1 ⟨x,H1,I1,r1,q1⟩=>B2 (hb A1 s1 Y H1 _ I1 q1) λu s2 ⟨y,H2,I2,r2,q2⟩=>
  B2 (ho A1 s2 Y H2 x y v u _ I2 r1 r2 q2) λc s3 ⟨z,H3,I3,r3,k,e,q3⟩=>?_) hm
 subst e;cases r3;exact wpAny_truthy_bool #[H3,I3,q3]
def QB(r r':R2)(ta tb tc:TE):TE:=λY H Q=>ta Y H λx H1=>tb Y H1 λy H2=>r x y H2 λz H3=>∃k,z= .bl k/\
 (if k=true then tc Y H3 λw' H4=>r' y w' H4 Q else Q (.bl false) H3)
variable{op':CmpOp}{r':R2}
theorem Rw{r:R2}(ho:Cb X (compareOp op) r)(ho':Cb X (compareOp op') r')(ha:PE X a ta)(hb:PE X b tb)(hc:PE X c tc)
 (hm:lastMarks [op,op'] [b,c]=false:=by with_unfolding_all rfl):PE X (.Compare a [op,op'] [b,c] pos) (QB r r' ta tb tc):=by
 intro A1 s Y H Q I h
 refine Compare_chain (B2 (ha A1 s Y H _ I h) λv s1 ⟨x,H1,I1,r1,q1⟩=>chain_link (B2 (hb A1 s1 Y H1 _ I1 q1) λu s2 ⟨y,H2,I2,r2,q2⟩=>
  B2 (ho A1 s2 Y H2 x y v u _ I2 r1 r2 q2) λd s3 ⟨z,H3,I3,r3,k,e,q3⟩=>?_)) hm
 subst e;cases r3;refine wpAny_truthy_bool ?_;cases k with
 |false=>exact ite_ff #[.bl false,H3,I3,rfl,q3]
 |true=>exact ite_tt (chain_last (B2 (hc A1 s3 Y H3 _ I3 q3) λw' s4 ⟨z',H4,I4,r4,q4⟩=>ho' A1 s4 Y H4 y z' u w' Q I4 r2 r4 q4))
theorem Rb{r:R2}(ho:Cb X (compareOp op) r)(ho':Cb X (compareOp op') r')(ha:PE X a ta)(hb:PE X b tb)(hc:PE X c tc)
 (hm:lastMarks [op,op'] [b,c]=false:=by with_unfolding_all rfl):PT X (.Compare a [op,op'] [b,c] pos) (XH (QB r r' ta tb tc)):=by
 intro A1 s Y H Q I h
 refine isTrue_chain (B2 (ha A1 s Y H _ I h) λv s1 ⟨x,H1,I1,r1,q1⟩=>test_link (B2 (hb A1 s1 Y H1 _ I1 q1) λu s2 ⟨y,H2,I2,r2,q2⟩=>
  B2 (ho A1 s2 Y H2 x y v u _ I2 r1 r2 q2) λd s3 ⟨z,H3,I3,r3,k,e,q3⟩=>?_)) hm
 subst e;cases r3;refine wpAny_truthy_bool ?_;cases k with
 |false=>
   obtain⟨k',e',q'⟩:=q3;cases e';exact ite_ff #[H3,I3,q']
 |true=>
   refine ite_tt (test_last (B2 (hc A1 s3 Y H3 _ I3 q3) λw' s4 ⟨z',H4,I4,r4,q4⟩=>B2 (ho' A1 s4 Y H4 y z' u w' _ I4 r2 r4 q4) λd' s5 ⟨z2,H5,I5,r5,k2,e2,q5⟩=>?_));subst e2;cases r5;exact wpAny_truthy_bool #[H5,I5,q5]
def iT(K:PySem.W.Frag)(x:V)(H:Hp)(k:Bool):Prop:=
 match x with
 |.Az=>k=false
 |.bl b=>k=b
 |.int i=>k=(i != 0)
 |.str y=>y.length<=sizeLine/\k=((y.length:Int) != 0)
 |.YB y=>y.size<=sizeLine/\k=((y.size:Int) != 0)
 |.ref p=>(∃xs,Fd K H p xs/\k= !xs.isEmpty)\/(∃xs,FX K H p xs/\k= !xs.isEmpty)\/∃kvs,H p=some (.dK kvs)/\k= !kvs.isEmpty
 |_=>False
theorem MV{κ:Type}{kvs:List (κ×V)}{vs:List (κ×Value)}(r:KV kvs vs):(!vs.isEmpty)= !kvs.isEmpty:=by
 cases r<;>rfl
theorem HQ{xs:List V}{its:List Value}(r:Vals xs its):(!its.toArray.isEmpty)= !xs.isEmpty:=by
 cases r<;>simp
theorem HH:(sizeLine:Nat)<2^63:=by rw[sizeLine_eq];decide
theorem YX:iU X (λx H Q=>∃k,iT X.K x H k/\Q k H):=by
 intro A1 s Y H x v Q I rx h;obtain⟨k,e,q⟩:=h;have hl:=HH;have hs:sizeLine=16777216:=sizeLine_eq;cases x with
 |Az=>
   cases rx;have e':k=false:=e;subst e';exact truthy_none #[H,I,q]
 |bl b=>
   cases rx;have e':k=b:=e;subst e';exact wpAny_truthy_bool #[H,I,q]
 |int i=>
   obtain⟨t,rfl⟩:=rx;have e':k=(i != 0):=e;subst e';exact PySem.P.truthy_int #[H,I,q]
 |str y=>
   obtain⟨t,rfl⟩:=rx;obtain⟨hy,e'⟩:y.length<=sizeLine/\k=((y.length:Int) != 0):=e;subst e';exact PySem.P.truthy_str (by lia) #[H,I.tok _,q]
 |YB y=>
   obtain⟨t,rfl⟩:=rx;obtain⟨hy,e'⟩:y.size<=sizeLine/\k=((y.size:Int) != 0):=e;subst e';exact PySem.W.truthy_bytes (by lia) #[H,I.tok _,q]
 |ref p=>
   cases rx;have e':(∃xs,Fd X.K H p xs/\k= !xs.isEmpty)\/(∃xs,FX X.K H p xs/\k= !xs.isEmpty)\/∃kvs,H p=some (.dK kvs)/\k= !kvs.isEmpty:=e;rcases e' with⟨xs,hx,e'⟩|⟨xs,hx,e'⟩|⟨kvs,hx,e'⟩
   .subst e';obtain⟨its,r,pl,hz⟩:=I.list hx;have hlen:=r.length;exact wpAny_truthy_list pl.isList (by simp only[size_toArray];lia) #[H,I.tok _,by rw[HQ r];exact q]
   .subst e';obtain⟨its,r,pl,hz⟩:=I.tuple hx;have hlen:=r.length;exact truthy_tuple pl (by simp only[size_toArray];lia) #[H,I.tok _,by rw[HQ r];exact q]
   .subst e';obtain⟨hz,hS,vs,r,m⟩:kvs.length<=sizeLine/\(p==sysModules)=false/\∃vs,KV kvs vs/\s.heap.DictOf (JW X.prog X.w) p vs:=I.Ao p _ hx;have hlen:kvs.length=vs.length:=Paired.length r;exact wpAny_truthy_dict hS m (by lia) #[H,I.tok _,by rw[MV r];exact q]
 |_=>exact(show False from e).elim
theorem Mv:Cb X (binaryOp .Add) (λx y H Q=>∃i j,x= .str i/\y= .str j/\i.length+j.length<=sizeLine/\Q (.str (i++j)) H):=by
 intro A1 s Y H x y v u Q I rx ry h;obtain⟨i,j,rfl,rfl,hz,q⟩:=h;obtain⟨t,rfl⟩:=rx;obtain⟨t',rfl⟩:=ry;exact add_str (λt' tk=>#[.str (i++j),H,I.tok _,#[_,rfl],q]) hz
variable{us:List Value}
theorem vals1{x:V}(r:Vals [x] us):∃u,us=[u]/\RelV x u:=by
 cases r with
 |cons r1 r2=>cases r2;exact#[_,rfl,r1]
theorem vals2{x y:V}(r:Vals [x,y] us):∃u w',us=[u,w']/\RelV x u/\RelV y w':=by
 cases r with
 |cons r1 r2=>
   cases r2 with
   |cons r3 r4=>cases r4;exact#[_,_,rfl,r1,r3]
theorem Q0(hc:X.calm=true):Bc X (.builtin "min") (λxs H Q=>∃i j,xs=[.int i,.int j]/\Q (.int (if j<i then j else i)) H):=by
 intro A1 s Y H xs us Q I r h;obtain⟨i,j,rfl,q⟩:=h;obtain⟨u,w',rfl,⟨t,rfl⟩,⟨t',rfl⟩⟩:=vals2 r;refine min_two_ints (I.ok.hd hc) λh' tk k=>#[_,H,I.kept k,?_,q]
 by_cases hj:j<i
 .rw[iP hj,iP hj];exact#[_,rfl]
 .rw[iN hj,iN hj];exact#[_,rfl]
theorem Jk:Bc X (.type "int") (λxs H Q=>(∃i,xs=[.int i]/\Q (.int i) H)\/∃k,xs=[.bl k]/\Q (.int (if k then 1 else 0)) H):=by
 intro A1 s Y H xs us Q I r h;rcases h with⟨i,rfl,q⟩|⟨k,rfl,q⟩
 .obtain⟨u,rfl,t,rfl⟩:=vals1 r;exact call_int_int #[.int i,H,I,#[_,rfl],q]
 .obtain⟨u,rfl,r1⟩:=vals1 r;cases r1;exact call_int_bool #[.int (if k then 1 else 0),H,I.tok _,#[_,rfl],q]
def mX(K:PySem.W.Frag)(x:V)(H:Hp)(n:Nat):Prop:=
 match x with
 |.str y=>y.length<=sizeLine/\n=y.length
 |.YB y=>y.size<=sizeLine/\n=y.size
 |.ref p=>(∃xs,Fd K H p xs/\n=xs.length)\/∃xs,FX K H p xs/\n=xs.length
 |_=>False
theorem Ic:Bc X (.builtin "len") (λxs H Q=>∃x n,xs=[x]/\mX X.K x H n/\Q (.int n) H):=by
 intro A1 s Y H xs us Q I r h;obtain⟨x,n,rfl,e,q⟩:=h;obtain⟨u,rfl,rx⟩:=vals1 r;have hl:=HH;have hs:sizeLine=16777216:=sizeLine_eq;cases x with
 |str y=>
   obtain⟨t,rfl⟩:=rx;obtain⟨hy,e'⟩:y.length<=sizeLine/\n=y.length:=e;subst e';exact len_str (by lia) #[.int _,H,I.tok _,#[_,rfl],q]
 |YB y=>
   obtain⟨t,rfl⟩:=rx;obtain⟨hy,e'⟩:y.size<=sizeLine/\n=y.size:=e;subst e';exact PySem.W.len_bytes (by lia) #[.int _,H,I.tok _,#[_,rfl],q]
 |ref p=>
   cases rx;have e':(∃xs,Fd X.K H p xs/\n=xs.length)\/∃xs,FX X.K H p xs/\n=xs.length:=e;rcases e' with⟨xs,hx,e'⟩|⟨xs,hx,e'⟩
   .subst e';obtain⟨its,r',pl,hz⟩:=I.list hx;have hlen:=r'.length;exact Calls.call_len_list pl.isList (by simp only[size_toArray];lia) #[.int xs.length,H,I.tok _,#[_,by simp only[size_toArray];rw[hlen]],q]
   .subst e';obtain⟨its,r',pl,hz⟩:=I.tuple hx;have hlen:=r'.length;exact len_tuple pl (by simp only[size_toArray];lia) #[.int xs.length,H,I.tok _,#[_,by simp only[size_toArray];rw[hlen]],q]
 |_=>exact(show False from e).elim
end
structure Ng(h:Heap)(x dx C:Addr)(mA:Str->Option Value):Prop where
 obj:h.get? x=some (instObj C dx)
 ns:h.Ns1 dx mA
 ne:dx≠x
variable{dx:Addr}{mA:Str->Option Value}
theorem J0(n:h.Ns1 dx mA):∃od,h.get? dx=some od/\∀name,lookIn name od=some (mA name):=by
 obtain⟨o,es,ep,ho,hd,hk,_,hm⟩:=n;refine#[o,ho,λname=>?_];have e:=hm name;unfold nsFind findBy at e;rw[<-Array.find?_toList]at e;unfold lookIn;rw[hd];dsimp only;split
 .rename_i y q;rw[q]at e;exact congrArg some e
 .rename_i q;rw[q]at e
  have a:es.toList.any (·.refKey)=false:=by
   rw[List.any_eq_false];intro y hy;obtain⟨z,t,hkey⟩:=hk y (Array.mem_toList_iff.mp hy);simp[DictEntry.refKey,hkey]
  have a':¬es.toList.any (·.refKey)=true:=by rw[a];exact Bool.false_ne_true
  rw[iN a'];exact congrArg some e
theorem Ng.look{C:Addr}(I:Ng h x dx C mA):∃od,InstAt h x (instObj C dx) C (some od)/\∀name,lookIn name od=some (mA name):=
 let⟨od,ho,hl⟩:=J0 I.ns
 #[od,#[I.obj,rfl,rfl,ho],hl]
section
variable{prog:Program}{w:World}{A:Around}{E:Va}{K:PySem.W.Frag}{x dx C f:Addr}{mA:Str->Option Value}{name:Str}{v:Value}
theorem get_map{expr:Bool}{Q:Va}(X:K.In s.heap)(I:Ng s.heap x dx C mA)(hg:plainGet K C name=true)(hh:hasDictIn K C=true)
 (ha:findIn K (.ref C) name=some none)(hv:mA name=some v)(hv':handedIn v=true)(h:Q v {s with toks:=s.toks+1}):
 wpAny (model prog w) A (getAttr (.ref x) name expr) Q E s:=by
 obtain⟨od,J,hl⟩:=I.look;exact PySem.W.get_value X J (plainGet_of hg).1 (findObj_own hh ha rfl (by rw[hl,hv])) hv' h
theorem Sq{pl:Sem Bool}{Q:Value×List Value->Shared->Prop}(X:K.In s.heap)(I:Ng s.heap x dx C mA)(hg:plainGet K C name=true)
 (hf:findIn K (.ref C) name=some (some (.ref f)))(ht:isFn K (.ref f)=true)(hv:mA name=none)(h:Q (.ref f,[.ref x]) s):
 wpAny (model prog w) A (getMethod (.ref x) name pl) Q E s:=by
 obtain⟨od,J,hl⟩:=I.look;exact PySem.W.method_fn X J (plainGet_of hg).1 (plainGet_of hg).2 hf (beq_iff_eq.mp ht) (by show(lookIn name od).map (·.isSome)=some false;rw[hl,hv];rfl) h
theorem V3{ns:List Str}{Q:Unit->Shared->Prop}(X:K.In s.heap)(I:Ng s.heap x dx C mA)
 (hs:findIn K (.ref C) "__setattr__"=some (some (.builtin "object.__setattr__")))(hp:plainOver K C=true)(ht:takerIn K C name=some none)(hh:hasDictIn K C=true)
 (hw:PySem.Within mA ns)(hsz:ns.length<=sizeLine)
 (h:∀h',Ng h' x dx C (λy=>if y=name then some v else mA y)->Heap.SameBut dx s.heap h'->Q () {s with heap:=h',toks:=s.toks+2}):
 wpAny (model prog w) A (setAttr (.ref x) name v) Q E s:=by
 obtain⟨od,J,hl⟩:=I.look;refine set_plain X J hs (PySem.W.osa_open (s:={s with toks:=s.toks+1}) (r:=none) X J hp ht λb=>?_);obtain⟨cd,hc,hd'⟩:=any_some hh;have hx:s.heap.get? x=some #[.ref C,some dx,.plain,[].toArray]:=I.obj;refine wB (wP (wB (wB (wpAny_loadPart hx (wB (Looks.here (s:={s with toks:=s.toks+1}) (looks_clsIn X hc) ?_))))));rw[hd'];refine wP (a:=some dx) (wB (wP (wB ?_)));refine wpAny_nsSet1 (s:={s with toks:=s.toks+1}) I.ns λh' hn2 hs2=>?_
 obtain⟨oD,esD,epD,hoD,hdD,hcD⟩:=hn2.count (PySem.Within.cons name v hw);refine wB (wpAny_lookBehind hoD (by rw[hdD];exact pastItsLine_dict (Nat.le_trans hcD (by rw[lC];lia))) ?_);exact wP (h _ #[(hs2.2 _ (Ne.symm I.ne)).trans I.obj,hn2,I.ne] hs2)
theorem RS{R:Result->Shared->Prop}{vs:List Value}{kw:List (Str×Value)}(X:K.In s.heap)(hm:makesIn K C=true)
 (hi:findIn K (.ref C) "__init__"=some (some (.ref f)))(hf:typeIn K (.ref f)=some (.type "function"))
 (h:codeAny (model prog w) (A.under (.builtin "type.__call__" #[.ref C::vs,kw])) (.call (.ref f) #[.ref (s.heap.objs.size+1)::vs,kw]) (InitBack (s.heap.objs.size+1) R)
   {s with heap:=(s.heap.push emptyDict).push (instObj C s.heap.objs.size)}):
 codeAny (model prog w) A (.call (.ref C) #[vs,kw]) R s:=by
 obtain⟨hh,g,d,t,os⟩:=s;exact PySem.W.make_core (PySem.W.makes_of X hm) (looks_findIn X hi) (λself=>bind_fn X self hf) (.inl rfl) h
end
noncomputable def Bq(f:Str)(v:V):List (Str×V)->List (Str×V)
 |[]=>[(f,v)]
 |(g,x)::r=>if g=f then(g,v)::r else(g,x)::Bq f v r
theorem Gw(f g:Str)(v:V):∀fs:List (Str×V),(Bq f v fs).lookup g=if g=f then some v else fs.lookup g
 | []=>by
   show List.lookup g [(f,v)]=_
   by_cases h:g=f
   .have hb:(g==f)=true:=beq_iff_eq.mpr h;simp only[List.lookup,hb,iP h]
   .have hb:(g==f)=false:=beq_eq_false_iff_ne.mpr h;simp only[List.lookup,hb,iN h]
 | (k, x)::r=>by
   have ih:=Gw f g v r;rw[show Bq f v ((k,x)::r)=(if k=f then(k,v)::r else(k,x)::Bq f v r)from rfl]
   by_cases hk:k=f
   .rw[iP hk]
    by_cases h:g=k
    .have hb:(g==k)=true:=beq_iff_eq.mpr h;simp only[List.lookup,hb,iP (h.trans hk)]
    .have hb:(g==k)=false:=beq_eq_false_iff_ne.mpr h;simp only[List.lookup,hb,iN (λe:g=f=>h (e.trans hk.symm))]
   .rw[iN hk]
    by_cases h:g=k
    .have hb:(g==k)=true:=beq_iff_eq.mpr h;simp only[List.lookup,hb,iN (λe:g=f=>hk (h.symm.trans e))]
    .have hb:(g==k)=false:=beq_eq_false_iff_ne.mpr h;simp only[List.lookup,hb];exact ih
theorem G8(f:Str)(v:V):∀fs:List (Str×V),f∈(Bq f v fs).map (·.1)/\∀g,g∈fs.map (·.1)->g∈(Bq f v fs).map (·.1)
 |[]=>#[by simp[Bq],λg h=>by simp at h]
 | (k, x)::r=>by
   obtain⟨i1,i2⟩:=G8 f v r;rw[show Bq f v ((k,x)::r)=(if k=f then(k,v)::r else(k,x)::Bq f v r)from rfl]
   by_cases hk:k=f
   .rw[iP hk];subst hk;exact#[by simp,λg h=>by simpa using h]
   .rw[iN hk];refine#[?_,λg h=>?_]
    .rw[map_cons];exact mC i1
    .rw[map_cons]at h ⊢;rcases mK h with e|e
     .exact mem_cons.mpr (.inl e)
     .exact mC (i2 g e)
theorem Gx(f:Str)(v:V):∀fs:List (Str×V),(Bq f v fs).length<=fs.length+1
 |[]=>by simp[Bq]
 | (k,x)::r=>by
   have ih:=Gx f v r;rw[show Bq f v ((k,x)::r)=(if k=f then(k,v)::r else(k,x)::Bq f v r)from rfl]
   by_cases hk:k=f
   .rw[iP hk,lC,lC];lia
   .rw[iN hk,lC,lC];lia
theorem Iz.some_of{o:Option Value}(r:Iz (some v) o):∃u,o=some u/\RelV v u:=by
 cases o with
 |none=>exact(show False from r).elim
 |some u=>exact#[u,rfl,r]
theorem Iz.Ad{o:Option Value}(r:Iz none o):o=none:=by
 cases o with
 |none=>rfl
 |some u=>exact(show False from r).elim
theorem PK(r:RelV v u):handedIn u=true:=by
 cases v with
 |Az=>cases (show u=Value.none from r);rfl
 |bl b=>cases (show u=Value.bool b from r);rfl
 |int i=>obtain⟨t,e⟩:=(show ∃t,u=Value.int i t from r);cases e;rfl
 |str x=>obtain⟨t,e⟩:=(show ∃t,u=Value.str x t from r);cases e;rfl
 |YB b=>obtain⟨t,e⟩:=(show ∃t,u=Value.bytes b t from r);cases e;rfl
 |jx b=>obtain⟨t,e⟩:=(show ∃t,u=Value.float b t from r);cases e;rfl
 |ref a=>cases (show u=Value.ref a from r);rfl
 |ty n=>cases (show u=Value.type n from r);rfl
section
variable{P:Program}{w:World}{h:Heap}{a C dx:Addr}{fs fs':List (Str×V)}
theorem K8(Ao:Ff P w H h)(e:H a=some (.ins C dx fs)):∃mA,Ng h a dx C mA/\(∀f,Iz (fs.lookup f) (mA f))/\PySem.Within mA (fs.map (·.1))/\fs.length<=1000/\H dx=some (.own a):=by
 obtain⟨d,z,ne,ob,mA,n,r,q⟩:=(show BW P w H h a (.ins C dx fs)from Ao a _ e);exact#[mA,#[ob,n,ne],r,q,z,d]
end
structure Dv(K:PySem.W.Frag)(C:Addr):Prop where
 pg:plainGet K C Str.empty=true
 hd:hasDictIn K C=true
 po:plainOver K C=true
 sa:findIn K (.ref C) "__setattr__"=some (some (.builtin "object.__setattr__"))
theorem Dv.get{K:PySem.W.Frag}{C:Addr}(c:Dv K C)(f:Str):plainGet K C f=true:=c.pg
def BN(K:PySem.W.Frag)(C:Addr)(f:Str):Prop:=findIn K (.ref C) f=some none
theorem BN.dY{K:PySem.W.Frag}{C:Addr}(n:BN K C f):takerIn K C f=some none:=by
 unfold takerIn;rw[show findIn K (.ref C) f=some none from n];rfl
structure Meth(K:PySem.W.Frag)(C:Addr)(m:Str)(f:Addr):Prop where
 at_:findIn K (.ref C) m=some (some (.ref f))
 fn:isFn K (.ref f)=true
 kp:keepIn K (.ref f)=true
section
variable{Y:St}{a C dx:Addr}{fs:List (Str×V)}{f:Str}{v:V}{A:Around}{E:Va}
theorem N1{b:Bool}{Q:Va}(I:Inv X A1 Y H s)(e:H a=some (.ins C dx fs))(c:Dv X.K C)(n:BN X.K C f)(l:fs.lookup f=some v)
 (h:∀u s',Inv X A1 Y H s'->RelV v u->Q u s'):wpAny (model X.prog X.w) A (getAttr (.ref a) f b) Q E s:=by
 obtain⟨mA,O,r,_,_,_⟩:=K8 I.Ao e;obtain⟨u,hu,ru⟩:=Iz.some_of (v:=v) (o:=mA f) (by rw[<-l];exact r f);exact get_map I.Cn O (c.get f) c.hd n hu (PK ru) (h u _ (I.tok _) ru)
theorem F4{pl:Sem Bool}{Q:Value×List Value->Shared->Prop}(I:Inv X A1 Y H s)(e:H a=some (.ins C dx fs))(c:Dv X.K C)(k:Meth X.K C m g)(l:fs.lookup m=none)
 (h:Q (.ref g,[.ref a]) s):wpAny (model X.prog X.w) A (getMethod (.ref a) m pl) Q E s:=by
 obtain⟨mA,O,r,_,_,_⟩:=K8 I.Ao e;have hn:mA m=none:=Iz.Ad (by rw[<-l];exact r m);exact Sq I.Cn O (c.get m) k.at_ k.fn hn h
theorem Mh{Q:Unit->Shared->Prop}(I:Inv X A1 Y H s)(e:H a=some (.ins C dx fs))(c:Dv X.K C)(n:BN X.K C f)(hl:fs.length<1000)(ry:RelV y u)
 (h:∀s',Inv X A1 Y (upd H a (.ins C dx (Bq f y fs))) s'->Q () s'):wpAny (model X.prog X.w) A (setAttr (.ref a) f u) Q E s:=by
 obtain⟨mA,O,r,wi,_,ho⟩:=K8 I.Ao e;have hz:(fs.map (·.1)).length<=sizeLine:=by rw[lM,sizeLine_eq];lia
 refine V3 I.Cn O c.sa c.po n.dY c.hd wi hz λh' O' sb=>h _ ?_
 have hd:∃o,h'.get? dx=some o:=let⟨o,_,_,e',_⟩:=O'.ns;#[o,e'];refine I.write (x:=a) (e:=dx) (by rw[e];exact True.intro) (.inr ho) (λb q hb z=>(sb.2 b hb).trans z) hd ?_;refine#[by rw[Ab O.ne];exact ho,?_,O.ne,O'.obj,_,O'.ns,λg=>?_,λg hg=>?_]
 .have:=Gx f y fs;lia
 .show Iz ((Bq f y fs).lookup g) (if g=f then some u else mA g);rw[Gw]
  by_cases q:g=f
  .rw[iP q,iP q];exact ry
  .rw[iN q,iN q];exact r g
 .by_cases q:g=f
  .rw[q];exact(G8 f y fs).1
  .refine(G8 f y fs).2 g (wi g λz=>hg ?_);show(if g=f then some u else mA g)=none;rw[iN q];exact z
theorem Inv.made(I:Inv X A1 Y H s):Inv X A1 Y (upd (upd H s.heap.objs.size (.own (s.heap.objs.size+1))) (s.heap.objs.size+1) (.ins C s.heap.objs.size []))
 {s with heap:=(s.heap.push emptyDict).push (instObj C s.heap.objs.size)}:=by
 have e1:(s.heap.push emptyDict).get? s.heap.objs.size=some emptyDict:=Heap.get?_push_size s.heap rfl
 have e2:((s.heap.push emptyDict).push (instObj C s.heap.objs.size)).get? (s.heap.objs.size+1)=some (instObj C s.heap.objs.size):=by
  have:=Heap.get?_push_size (s.heap.push emptyDict) (o:=instObj C s.heap.objs.size) rfl;rwa[Heap.size_push]at this
 have e3:(s.heap.push emptyDict).Ns s.heap.objs.size (λ_=>none):=#[emptyDict,[].toArray,_,e1,rfl,(λe he=>absurd he (by simp)),λ_=>rfl];have I1:=I.laid (a:=s.heap.objs.size) (o:=.own (s.heap.objs.size+1)) (h':=s.heap.push emptyDict) (t':=s.toks) (λb u q=>gP q) (lR) #[_,e1];refine I1.laid (a:=s.heap.objs.size+1) (o:=.ins C s.heap.objs.size []) (t':=s.toks) (λb u q=>gP q) (Nat.le_of_eq (Heap.size_push _ _)) ?_;have ne:s.heap.objs.size≠s.heap.objs.size+1:=Nat.ne_of_lt (Nat.lt_succ_self _);refine#[by rw[Ab ne,Ar],Nat.zero_le _,ne,e2,λ_=>none,(Heap.Ns1.of_empty e3).at λo q=>gP q,λ_=>True.intro,λy hy=>absurd rfl hy]
theorem Ox{prog:Program}{w:World}{env:Env}{pos:Pos}{s:Shared}{Q:Va}(hb:attributeBase e f env (eval e env)=eval e env)
 (h:wpAny (model prog w) A (eval e env) (λo s₁=>wpAny (model prog w) A (getAttr o f true) Q E s₁) E s):wpAny (model prog w) A (eval (.Attribute e f pos) env) Q E s:=
 Attribute_any_ h (by rw[arm_eval_Attribute,hb])
end
def Z0(K:PySem.W.Frag)(ta:TE)(f:Str):TE:=λY H Q=>ta Y H λx H1=>∃a C dx fs v,x= .ref a/\H1 a=some (.ins C dx fs)/\Dv K C/\BN K C f/\fs.lookup f=some v/\Q v H1
def kI(K:PySem.W.Frag)(ta tv:TE)(f:Str):TS:=λD Y H=>tv Y H λy H1=>ta Y H1 λx H2=>∃a C dx fs,x= .ref a/\H2 a=some (.ins C dx fs)/\Dv K C/\BN K C f/\fs.length<1000/\
 D.nx Y (upd H2 a (.ins C dx (Bq f y fs)))
section
variable{o e value:Expr}{f:Str}{pos pos' tpos:Pos}{ta tv:TE}
theorem Ru(he:PE X e ta)(hb:attributeBase e f X.env (eval e X.env)=eval e X.env):PE X (.Attribute e f pos) (Z0 X.K ta f):=by
 intro A1 s Y H Q I h;refine Ox hb (B2 (he A1 s Y H _ I h) λu s1 ⟨x,H1,I1,rx,a,C,dx,fs,v,ex,ea,c,n,l,q⟩=>?_);subst ex;obtain rfl:u=Value.ref a:=rx;exact N1 I1 ea c n l λu' s2 I2 ru=>#[v,H1,I2,ru,q]
theorem ZD(ha:PE X o ta)(hv:PE X value tv)(hs:swapsWith value (some (.Attribute o f pos')) pos.line X.env=pure false):PS X (.Assign [.Attribute o f pos'] value pos) (kI X.K ta tv f):=by
 intro A1 s Y H D I h;refine plainObj_wpAny_Assign_Attribute (B2 (hv A1 s Y H _ I h) λu s1 ⟨y,H1,I1,ry,q⟩=>B2 (ha A1 s1 Y H1 _ I1 q) λov s2 ⟨x,H2,I2,rx,a,C,dx,fs,ex,ea,c,n,l,q2⟩=>?_) hs;subst ex;obtain rfl:ov=Value.ref a:=rx;exact Mh I2 ea c n l ry λs3 I3=>#[Y,_,I3,q2]
end
structure Bk(k:Nat)(A:Around):Prop where
 hd:A.handled=none
 dp:A.depth+3*k+5<recursionLimit
 un:A.units+16*k+200<cLine
theorem Bk.mono{k:Nat}(r:Bk k A)(h:j<=k):Bk j A:=#[r.hd,by have:=r.dp;lia,by have:=r.un;lia]
theorem Bk.deeper{k:Nat}(r:Bk (k+1) A)(env:Env):Bk k (A.deeper env):=
 #[r.hd,by have:=r.dp;show A.depth+1+3*k+5<_;lia,by have:=r.un;show A.units+3+16*k+200<_;lia]
variable{kw:List (Str×Value)}
theorem MB{C:Addr}:(A.under (.builtin "type.__call__" #[.ref C::us,kw])).depth=A.depth+1:=by
 first|rfl|simp[Around.under,Code.weight,Code.isCreation,Code.isGuard,Code.isCaller,Code.frames,Code.isFrame,guardIds]
theorem MA{C:Addr}:(A.under (.builtin "type.__call__" #[.ref C::us,kw])).units=A.units+1:=by
 first|rfl|simp[Around.under,Code.cUnits,Code.frames,Code.isFrame]
theorem Bk.make{k:Nat}(r:Bk (k+1) A)(C:Addr)(us:List Value)(kw:List (Str×Value)):Bk k (A.under (.builtin "type.__call__" #[.ref C::us,kw])):=
 #[r.hd,by have:=r.dp;rw[MB];lia,by have:=r.un;rw[MA];lia]
theorem Bk.depth{k:Nat}(r:Bk k A):A.depth<recursionLimit:=by have:=r.dp;lia
def DJ:TA:=λ_ H Q=>Q [] H
def Bl(ta:TE)(tr:TA):TA:=λY H Q=>ta Y H λx H1=>tr Y H1 λxs H2=>Q (x::xs) H2
section
variable{e:Expr}{es:List Expr}{te:TE}{t:TA}{pos:Pos}
theorem Cp:PA X [] DJ:=λ_ _ _ _ H Q I h=>Calls.spliced_nil #[[],H,I,.nil,h]
theorem AV(ha:PE X e te)(hr:PA X es t)(hs:starEach (e::es) X.env=(false,eval e X.env)::starEach es X.env:=by rfl):PA X (e::es) (Bl te t):=by
 intro pos A1 s Y H Q I h;rw[hs];show wpAny _ _ (spliced ((false,eval e X.env)::backTo pos (starEach es X.env))) _ _ s;refine Calls.spliced_cons (B2 (ha A1 s Y H _ I h) λu s1 ⟨x,H1,I1,r1,q1⟩=>?_);exact B2 (hr pos A1 s1 Y H1 _ I1 q1) λus s2 ⟨xs,H2,I2,r2,q2⟩=>#[x::xs,H2,I2,.cons r1 r2,q2]
def km(t:TA):TE:=λY H Q=>t Y H λxs H1=>xs.length<=sizeLine/\∀p,H1 p=none->Q (.ref p) (upd H1 p (.tup xs))
def kq(t:TA):TE:=λY H Q=>t Y H λxs H1=>xs.length<=sizeLine/\∀p,H1 p=none->Q (.ref p) (upd H1 p (.lst xs))
theorem Rm{x1}(h:PA X es t):PE X (.Tuple es x1 pos) (km t):=by
 intro A1 s Y H Q I hq;refine wpAny_Tuple_spliced (B2 (h pos A1 s Y H _ I hq) λus s1 ⟨xs,H1,I1,r,z,q⟩=>#[by rw[<-r.length];exact z,?_]);have hf:H1 s1.heap.objs.size=none:=I1.Ao.fresh (lR);refine#[.ref s1.heap.objs.size,upd H1 s1.heap.objs.size (.tup xs),I1.laid (t':=s1.toks) (λb u e=>gP e) (lR) ?_,rfl,q _ hf];exact#[z,us,r,#[_,Heap.get?_push_size _ rfl,rfl,_,rfl]]
theorem ZI(h:PA X es t):PE X (.List es pos) (kq t):=by
 intro A1 s Y H Q I hq;refine wpAny_List_spliced (B2 (h pos A1 s Y H _ I hq) λus s1 ⟨xs,H1,I1,r,z,q⟩=>#[by rw[<-r.length];exact z,?_]);have hf:H1 s1.heap.objs.size=none:=I1.Ao.fresh (lR);refine#[.ref s1.heap.objs.size,upd H1 s1.heap.objs.size (.lst xs),I1.laid (t':=s1.toks) (λb u e=>gP e) (lR) ?_,rfl,q _ hf];exact#[z,us,0,r,Heap.get?_push_size _ rfl]
end
abbrev Sp:=List V->Hp->VK->XK->Prop
abbrev di:=List Env->Hp->Shared->XK->Value->Shared->Prop
structure Gp(P:Program)(w:World)(K:PySem.W.Frag)(mg:Str->Option Value)(base:Heap)(A:Around)(outer:List Env)(s:Shared)(H:Hp):Prop where
 frames:A.frames=some outer
 mod:Mod K mg base
 bs:∀b o,base.get? b=some o->s.heap.get? b=some o/\H b=none
 Tc:base.objs.size<=s.heap.objs.size
 EA:s.heap.FunFrames base outer
 Wk:∀b∈Cv outer,H b=none
 Ao:Ff P w H s.heap
 bare:AllBare s.gens
def CE(outer:List Env)(P:Program)(w:World)(H:Hp)(s:Shared)(Q:VK)(u:Value)(s':Shared):Prop:=
 ∃v H',s'.os=s.os/\AllBare s'.gens/\Un (Cv outer) [] H H' s.heap s'.heap/\Ff P w H' s'.heap/\RelV v u/\Q v H'
def CR(CX:di)(outer:List Env)(P:Program)(w:World)(H:Hp)(s:Shared)(Q:VK)(E:XK)(r:Result)(s':Shared):Prop:=
 match r with
 |.ok (.ret u)=>CE outer P w H s Q u s'
 |.ok _=>False
 |.error e=>CX outer H s E e s'
structure Dd(P:Program)(w:World)(K:PySem.W.Frag)(mg:Str->Option Value)(base:Heap)(CX:di)(k:Nat)(f:Addr)(fd:FuncData)(ps:List Str)(sp:Sp):Prop where
 len:∀vs H Q E,sp vs H Q E->vs.length=ps.length
 run:∀(A:Around) (outer:List Env) (s:Shared) (H:Hp) (args:Args) (us:List Value) (vs:List V) (Q:VK) (E:XK),Bk k A->Gp P w K mg base A outer s H->BindsTo s fd args (ps.zip us)->Vals vs us->sp vs H Q E->
  codeAny (model P w) A (.call (.ref f) args) (CR CX outer P w H s Q E) s
variable{mg:Str->Option Value}{CX:di}{ps:List Str}{sp:Sp}
theorem Dd.imp{P:Program}{K:PySem.W.Frag}{base:Heap}{k:Nat}{fd:FuncData}{sp':Sp}(F:Dd P w K mg base CX k f fd ps sp)
 (h:∀vs H Q E,sp' vs H Q E->sp vs H Q E):Dd P w K mg base CX k f fd ps sp':=
 #[λvs H Q E q=>F.len vs H Q E (h _ _ _ _ q),λA outer s H args us vs Q E hr he hb hv hs=>F.run A outer s H args us vs Q E hr he hb hv (h _ _ _ _ hs)]
theorem Gp.make{P:Program}{K:PySem.W.Frag}{base:Heap}{outer:List Env}(e:Gp P w K mg base A outer s H)(C:Addr)(us:List Value)(kw:List (Str×Value)):
 Gp P w K mg base (A.under (.builtin "type.__call__" #[.ref C::us,kw])) outer s H:=#[by first|exact e.frames|(simpa[Around.under,Code.envs,Code.isFrame,pushEnvs]using e.frames),e.mod,e.bs,e.Tc,e.EA,e.Wk,e.Ao,e.bare]
section
variable{Y:St}{s':Shared}
theorem Inv.bj(I:Inv X A1 Y H s):Gp X.prog X.w X.K X.mg X.base X.A X.stack s H:=
 #[I.ok.frames,I.ok.mod,I.bs,Nat.le_trans I.ok.Tc I.sz,I.stack,I.Ec,I.Ao,I.bare]
theorem Inv.after{Q:VK}(I:Inv X A1 Y H s)(h:CE X.stack X.prog X.w H s Q u s'):EP X A1 Y Q u s':=by
 obtain⟨v,H',os,bare,un,Ao,r,q⟩:=h;obtain⟨hh,g,d,t,os'⟩:=s';obtain rfl:os'=s.os:=os;exact#[v,H',I.call (h':=hh) (g':=g) (d':=d) (t':=t) (ch:=[]) un Ao bare (λb z=>absurd z (by simp)),r,q]
end
def KG(C:Addr)(sp:Sp)(dvs:List V)(E:XK)(t:TA):TE:=λY H Q=>t Y H λvs H1=>∀x dx,H1 x=none->H1 dx=none->dx≠x->
 sp (.ref x::(vs++dvs)) (upd (upd H1 dx (.own x)) x (.ins C dx [])) (λv H2=>v= .Az/\Q (.ref x) H2) E
def Binds(K:PySem.W.Frag)(fd:FuncData)(ps:List Str)(ds:List Value):Prop:=
 ∀(s:Shared) (us:List Value),K.In s.heap->(us++ds).length=ps.length->BindsTo s fd #[us,[]] (ps.zip (us++ds))
theorem Binds.all{K:PySem.W.Frag}{fd:FuncData}(h:∀us:List Value,us.length=ps.length->bindArgs fd #[us,[]]=pure (ps.zip us)):Binds K fd ps []:=λs us _ hl=>by
 rw[append_nil]at hl ⊢;exact .of_eq (h us hl)
def Passes(CX:di)(X:Cx)(E:XK):Prop:=∀(A1:Oa) (Y:St) (H:Hp) (s:Shared) (e:Value) (s':Shared),Inv X A1 Y H s->CX X.stack H s E e s'->X.xe e s'
section
variable{CX:di}{k:Nat}{f C:Addr}{fd:FuncData}{ps:List Str}{sp:Sp}{dvs:List V}{ds:List Value}{E:XK}{x m:Str}{p pos apos:Pos}{e o:Expr}{es:List Expr}{ta:TE}{t:TA}
structure Mk(K:PySem.W.Frag)(C f:Addr):Prop where
 makes:makesIn K C=true
 init:findIn K (.ref C) "__init__"=some (some (.ref f))
 fn:isFn K (.ref f)=true
 kp:keepIn K (.ref C)=true
theorem KP{A1:Oa}{Y:St}{H:Hp}{s:Shared}{Q:VK}{us:List Value}{vs:List V}(M:Mk X.K C f)(F:Dd X.prog X.w X.K X.mg X.base CX k f fd ps sp)(hr:Bk (k+1) X.A)(hb:Binds X.K fd ps ds)(hd:Vals dvs ds)
 (hx:Passes CX X E)(I:Inv X A1 Y H s)(r:Vals vs us)
 (h:∀x dx,H x=none->H dx=none->dx≠x->sp (.ref x::(vs++dvs)) (upd (upd H dx (.own x)) x (.ins C dx [])) (λv H2=>v= .Az/\Q (.ref x) H2) E):
 (X|||(call (.ref C) us)) (EP X A1 Y Q) X.xe s:=by
 have hq:=h (s.heap.objs.size+1) s.heap.objs.size (I.Ao.fresh (Nat.le_succ _)) (I.Ao.fresh (lR)) (Nat.ne_of_lt (Nat.lt_succ_self _));have I2:=Inv.made (C:=C) I;have r2:Vals (V.ref (s.heap.objs.size+1)::(vs++dvs)) (Value.ref (s.heap.objs.size+1)::(us++ds)):=.cons rfl (r.append hd)
 have hl:(Value.ref (s.heap.objs.size+1)::us++ds).length=ps.length:=by
  have e:=r2.length;rw[F.len _ _ _ _ hq]at e;exact e.symm
 refine wpAny_call (RS (f:=f) I.Cn M.makes M.init (beq_iff_eq.mp M.fn) (codeAny_mono (F.run _ X.stack _ _ #[Value.ref (s.heap.objs.size+1)::us,[]] (Value.ref (s.heap.objs.size+1)::(us++ds)) _ _ E (hr.make C us [])
  (I2.bj.make C us []) (hb _ (Value.ref (s.heap.objs.size+1)::us) I2.Cn hl) r2 hq) λr s' hq'=>?_))
 cases r with
 |error e=>exact hx A1 Y _ _ e s' I2 hq'
 |ok fl=>
   cases fl with
   |ret u=>
     obtain⟨v,H',I3,rv,ev,q3⟩:=I2.after hq';subst ev;exact#[rv,#[V.ref (s.heap.objs.size+1),H',I3,rfl,q3]]
   |next=>exact False.elim hq'
   |brk=>exact False.elim hq'
   |cont=>exact False.elim hq'
theorem VA(M:Mk X.K C f)(F:Dd X.prog X.w X.K X.mg X.base CX k f fd ps sp)(hr:Bk (k+1) X.A)(hg:Gl X x)(hm:X.mg x=some (.ref C))(hb:Binds X.K fd ps ds)(hd:Vals dvs ds)(hx:Passes CX X E)
 (ha:PA X (e::es) t)(hdb:ng x:=by decide)(he:starEach (e::es) X.env=(false,eval e X.env)::starEach es X.env:=by rfl)(hpl:(backTo pos (starEach es X.env)).any (·.1)=false:=by rfl):
 PE X (.Call (.Name x p) (e::es) [] pos) (KG C sp dvs E t):=by
 intro A1 s Y H Q I h;refine wpAny_Call_Name_kw (DC I hg hm ?_ hdb);refine callWith_K (h₀:=X.base) I.ok.mod.PB M.kp (B2 (ha pos A1 s Y H _ I h) λus s1 ⟨vs,H1,I1,r,q⟩=>#[I1.Cn,?_]) he hpl;exact KP M F hr hb hd hx I1 r q
theorem Rt(M:Mk X.K C f)(F:Dd X.prog X.w X.K X.mg X.base CX k f fd ps sp)(hr:Bk (k+1) X.A)(hg:Gl X x)(hm:X.mg x=some (.ref C))(hb:Binds X.K fd ps ds)(hd:Vals dvs ds)(hx:Passes CX X E)
 (hdb:ng x:=by decide):PE X (.Call (.Name x p) [] [] pos) (KG C sp dvs E DJ):=by
 intro A1 s Y H Q I h;refine wpAny_Call_Name_kw (DC I hg hm ?_ hdb);exact callWith_K0 I.Cn M.kp (KP (us:=[]) M F hr hb hd hx I .nil h)
end
structure D6(N P:List Str)(sc:Scope):Prop where
 kind:sc.kind= .function
 co:sc.isCoroutine=false
 gen:sc.isGenerator=false
 nd:N.Nodup
 pre:N.take P.length=P
 par:∀x∈P,sc.names.lookup x=some .local\/sc.names.lookup x=some .cell
 ae:∀y∈sc.names,y.2≠.free
theorem Jm{kindOf:Str->Option NameKind}{x:Str}:∀{binds:List (Str×Value)} {m:Str->Option Value},(∀v,(x,v)∉binds)->bindL kindOf binds m x=m x
 |[],_,_=>rfl
 | (n,v)::r,m,h=>by
   unfold bindL;rw[Jm λw hw=>h w (mC hw)];split
   .have:x≠n:=by rintro rfl;exact h v mS
    simp[this]
   .rfl
theorem Jn{kindOf:Str->Option NameKind}{x:Str}:∀{binds:List (Str×Value)} {m:Str->Option Value},(∀v,(x,v)∉binds)->bindC kindOf binds m x=m x
 |[],_,_=>rfl
 | (n,v)::r,m,h=>by
   unfold bindC;rw[Jn λw hw=>h w (mC hw)];split
   .rfl
   .have:x≠n:=by rintro rfl;exact h v mS
    simp[this]
theorem Eu{kindOf:Str->Option NameKind}{x:Str}{v:Value}:∀{P:List Str} {vs:List Value} {i:Nat} {m:Str->Option Value},P.Nodup->P[i]? =some x->vs[i]? =some v->kindOf x=some .local->
 bindL kindOf (P.zip vs) m x=some v
 |[],_,_,_,_,h,_,_=>by simp at h
 |_::_,[],_,_,_,_,h,_=>by simp at h
 | p::P,w::vs,0,m,nd,h1,h2,hk=>by
   simp at h1 h2;subst h1;subst h2;show bindL kindOf ((p,w)::P.zip vs) m p=_;unfold bindL;rw[Jm λv hv=>(nodup_cons.mp nd).1 (of_mem_zip hv).1,iP hk];simp
 | p::P,w::vs,i+1,m,nd,h1,h2,hk=>by
   show bindL kindOf ((p,w)::P.zip vs) m x=_;unfold bindL;exact Eu (i:=i) (nodup_cons.mp nd).2 (by simpa using h1) (by simpa using h2) hk
theorem Jo{kindOf:Str->Option NameKind}{x:Str}{v:Value}:∀{P:List Str} {vs:List Value} {i:Nat} {m:Str->Option Value},P.Nodup->P[i]? =some x->vs[i]? =some v->kindOf x≠some .local->
 bindC kindOf (P.zip vs) m x=some v
 |[],_,_,_,_,h,_,_=>by simp at h
 |_::_,[],_,_,_,_,h,_=>by simp at h
 | p::P,w::vs,0,m,nd,h1,h2,hk=>by
   simp at h1 h2;subst h1;subst h2;show bindC kindOf ((p,w)::P.zip vs) m p=_;unfold bindC;rw[Jn λv hv=>(nodup_cons.mp nd).1 (of_mem_zip hv).1,iN hk];simp
 | p::P,w::vs,i+1,m,nd,h1,h2,hk=>by
   show bindC kindOf ((p,w)::P.zip vs) m x=_;unfold bindC;exact Jo (i:=i) (nodup_cons.mp nd).2 (by simpa using h1) (by simpa using h2) hk
def start(N:List Str)(vs:List V):St:=vs.map some++List.replicate (N.length-vs.length) none
noncomputable def LD(CX:di)(P:Program)(w:World)(K:PySem.W.Frag)(mg:Str->Option Value)(base:Heap)(N:List Str)(qual:Str)(scope:Scope)(f:Addr)(cd:Value)(A:Around)(outer:List Env)(s:Shared)(H:Hp)(E:XK):Cx where
 prog:=P
 w:=w
 K:=K
 mg:=mg
 base:=base
 A:=A.deeper (envOfC qual scope s.heap.objs.size f cd)
 N:=N
 s₀:=s
 H₀:=H
 env:=envOfC qual scope s.heap.objs.size f cd
 outer:=outer
 stack:=envOfC qual scope s.heap.objs.size f cd::outer
 ex:=[]
 calm:=true
 fn:=λ_=>true
 pn:=[]
 xe:=λe s'=>wpAny (model P w) (A.deeper (envOfC qual scope s.heap.objs.size f cd)) (leaving (envOfC qual scope s.heap.objs.size f cd) e) (λ_ s''=>CX outer H s E e s'') (λe' s''=>CX outer H s E e' s'') s'
theorem LH{sc:Scope}{n:Nat}(h:sc.names.lookup x=some .cell):∃c,(cellsFrom n sc.names []).lookup x=some c:=by
 have q:=cellsFrom_some sc.names n [] (.inl h);exact Option.isSome_iff_exists.mp q
variable{qual:Str}
theorem PD{P:Program}{K:PySem.W.Frag}{base:Heap}{N:List Str}{scope:Scope}{cd:Value}{outer:List Env}{s1:Shared}{E:XK}{vs:List V}
 (S:D6 N ps scope)(hd:A.handled=none)(e0:Gp P w K mg base A outer s H)(hl:vs.length=ps.length)(r:Vals vs us)
 (x:InCallC s s.heap.objs.size (bindL (envOfC qual scope s.heap.objs.size f cd).kindOf (ps.zip us) λ_=>none) (cellsFrom (s.heap.objs.size+1) scope.names []) (bindC (envOfC qual scope s.heap.objs.size f cd).kindOf (ps.zip us) λ_=>none) s1):
 Inv (LD CX P w K mg base N qual scope f cd A outer s H E) [] (start N vs) H s1:=by
 have hpl:ps.length<=N.length:=by have:=congrArg List.length S.pre;rw[length_take]at this;lia
 obtain⟨h1,tk,rfl,hk⟩:=x.done;have jl:∀b:Addr,b∉(LD CX P w K mg base N qual scope f cd A outer s H E).ex:=λb z=>absurd (show b∈([]:List Addr)from z) (by simp)
 refine⟨#[e0.mod,S.kind,rfl,rfl,lR,λy z c h1 h2=>?_,λy hy=>?_,λy c _ h=>?_,λ_=>hd,Around.frames_deeper e0.frames,.inr #[rfl,rfl],λb z=>absurd z (jl b),e0.bs,e0.Tc,λb _ _=>jl b,λb z=>absurd z (jl b),e0.EA,e0.Wk],
  rfl,e0.bare,Un.kept hk,#[_,x.toInCall.ns,λi y v h1 h2 h3=>?_],λy c h=>#[_,x.cell y c h],e0.Ao.fresh (lR),λy c h=>?_,λp hp=>absurd (show p∈([]:Oa)from hp) (by simp),e0.Ao.kept hk,?_⟩
 .exact name_of_addr x.apart (PySem.mem_of_lookup h1) (PySem.mem_of_lookup h2)
 .have hy:scope.names.lookup y=some .cell\/scope.names.lookup y=some .free:=hy;rcases hy with hy|hy
  .exact LH hy
  .exact absurd rfl (S.ae _ (PySem.mem_of_lookup hy))
 .exact Nat.le_of_lt (x.above y c (PySem.mem_of_lookup h))
 .have hi:i<vs.length:=by
   unfold start at h2
   by_cases hi:i<vs.length
   .exact hi
   .rw[List.getElem?_append_right (by simpa using hi)]at h2;rw[List.getElem?_replicate]at h2;split at h2<;>cases h2
  have ha:vs[i]? =some v:=by
   unfold start at h2;rw[List.getElem?_append_left (by simpa using hi),List.getElem?_map]at h2;cases e:vs[i]? with
   |none=>rw[e]at h2;cases h2
   |some a=>rw[e]at h2;cases h2;rfl
  obtain⟨u,hu,rv⟩:=r.get ha
  have hp:ps[i]? =some y:=by
   rw[<-S.pre,List.getElem?_take_of_lt (by lia)];exact h1
  have ndP:ps.Nodup:=by rw[<-S.pre];exact S.nd.sublist (List.take_sublist _ _)
  refine#[u,rv,?_];rcases S.par y (List.mem_of_getElem? hp)with k|k
  .exact .inl #[k,Eu ndP hp hu k]
  .obtain⟨c,e⟩:=LH (n:=s.heap.objs.size+1) k;refine .inr #[.inl k,c,e,?_];have q:=x.cell y c e;rw[Jo ndP hp hu (by show scope.names.lookup y≠_;rw[k];decide)]at q;exact q
 .exact e0.Ao.fresh (Nat.le_of_lt (x.above y c (PySem.mem_of_lookup h)))
 .unfold start;show _=N.length;rw[lA,lM,List.length_replicate]
  lia
theorem gN{P:Program}{K:PySem.W.Frag}{base:Heap}{k:Nat}{name:Str}{params:Arguments}{body:List Stmt}{scope:Scope}{dV kV doc pm cdv ct oc:Value}{an od:Option Addr}
 {osl:Array (Option Value)}{N:List Str}(lk:K.lookup f=some #[oc,od,.func (PySem.W.fnOf name qual params body scope dV kV doc pm an cdv ct),osl])(hcd:codeIn K cdv qual=true)(S:D6 N ps scope)
 (len:∀vs H Q E,sp vs H Q E->vs.length=ps.length)
 (hbody:∀(A:Around) (outer:List Env) (s:Shared) (H:Hp) (vs:List V) (Q:VK) (E:XK),Bk k (A.deeper (envOfC qual scope s.heap.objs.size f cdv))->sp vs H Q E->
  ∃t,Nf (LD CX P w K mg base N qual scope f cdv A outer s H E) body t/\t {nx:=λ_ H'=>Q .Az H',rt:=Q} (start N vs) H):
 Dd P w K mg base CX (k+1) f (PySem.W.fnOf name qual params body scope dV kV doc pm an cdv ct) ps sp:=by
 refine#[len,λA outer s H args us vs Q E hr e0 hb r hsp=>?_];have hl:=len _ _ _ _ hsp;have KX:K.In s.heap:=e0.mod.PB.keeps λb o e=>(e0.bs b o e).1
 have lim:s.heap.NoLimit:=e0.mod.nolimit.keeps λb o e=>(e0.bs b o e).1
 have hkind:∀y∈ps.zip us,scope.names.lookup y.1=some .local\/(scope.names.lookup y.1=some .cell/\((cellsFrom (s.heap.objs.size+1) scope.names []).lookup y.1).isSome=true):=λ⟨n,v⟩ hy=>by
  rcases S.par n (of_mem_zip hy).1 with q|q
  .exact .inl q
  .exact .inr #[q,cellsFrom_some _ _ _ (.inl q)]
 refine codeAny_call_function hr.depth (KX _ _ lk) rfl S.co S.gen rfl (codeRec_of KX hcd) (hb _ _ _ _ ?_);refine wpAny_newFunctionEnv_cells S.kind hkind λenv he s1 x=>?_
 subst he;refine#[lim.keeps x.toInCall.keep,codeAny_func ?_];obtain⟨t,ht,hq⟩:=hbody A outer s H vs Q E (hr.deeper _) hsp;have I:Inv (LD CX P w K mg base N qual scope f cdv A outer s H E) [] (start N vs) H s1:=PD S hr.hd e0 hl r x;refine wpAny_mono (ht [] s1 (start N vs) H _ I hq) (λfl s' hs=>?_) λe s' hs=>hs
 have fin:∀{Y':St} {H':Hp} {v:V} {u:Value},Inv (LD CX P w K mg base N qual scope f cdv A outer s H E) [] Y' H' s'->RelV v u->Q v H'->CE outer P w H s Q u s':=
  λ{Y' H' v u} J rv q=>#[v,H',J.os,J.bare,J.base,J.Ao,rv,q]
 cases fl with
 |ret u=>
   obtain⟨v,Y',H',J,rv,q⟩:=hs;exact fin J rv q
 |next=>
   obtain⟨Y',H',J,q⟩:=hs;exact fin (v:=V.Az) (u:=Value.none) J rfl q
 |brk=>
   obtain⟨_,_,_,q⟩:=hs;exact False.elim q
 |cont=>
   obtain⟨_,_,_,q⟩:=hs;exact False.elim q
section
variable{x:Str}{p pos:Pos}{e:Expr}{es:List Expr}{t:TA}{id T:String}{r:List V->Hp->VK->Prop}
def jh(r:List V->Hp->VK->Prop)(t:TA):TE:=λY H Q=>t Y H λvs H1=>r vs H1 Q
theorem Dm(hc:Bc X (.builtin id) r)(hg:Gl X x)(hm:X.mg x=none)(hv:bootBuiltins x=some (.builtin id))(ha:PA X (e::es) t)(hn:x≠"__name__":=by decide)(hdb:ng x:=by decide)
 (he:starEach (e::es) X.env=(false,eval e X.env)::starEach es X.env:=by rfl)(hpl:(backTo pos (starEach es X.env)).any (·.1)=false:=by rfl):PE X (.Call (.Name x p) (e::es) [] pos) (jh r t):=by
 intro A1 s Y H Q I h;refine wpAny_Call_Name_kw (HI I hg hm hv ?_ hn hdb);exact PyProof.Rows.callWith_builtin1 (B2 (ha pos A1 s Y H _ I h) λus s1 ⟨vs,H1,I1,r1,q1⟩=>hc A1 s1 Y H1 vs us Q I1 r1 q1) he hpl
theorem IT(hc:Bc X (.type T) r)(hg:Gl X x)(hm:X.mg x=none)(hv:bootBuiltins x=some (.type T))(ha:PA X (e::es) t)(hn:x≠"__name__":=by decide)(hdb:ng x:=by decide)
 (he:starEach (e::es) X.env=(false,eval e X.env)::starEach es X.env:=by rfl)(hpl:(backTo pos (starEach es X.env)).any (·.1)=false:=by rfl):PE X (.Call (.Name x p) (e::es) [] pos) (jh r t):=by
 intro A1 s Y H Q I h;refine wpAny_Call_Name_kw (HI I hg hm hv ?_ hn hdb);exact PyProof.Rows.callWith_type1 (B2 (ha pos A1 s Y H _ I h) λus s1 ⟨vs,H1,I1,r1,q1⟩=>hc A1 s1 Y H1 vs us Q I1 r1 q1) he hpl
end
end L2
namespace HT
open PySem PyProof.Rows
variable{prog:Program}{w:World}{A:Around}{E:Va}{s:Shared}
theorem WL{vs ws:List Value}{Q:Va}(ht:IsTup s.heap t vs.toArray)(hb:IsTup s.heap b ws.toArray)(hv:vs≠[])
 (h1:ws=[]->Q (.ref t) s)(h2:ws≠[]->Q (.ref s.heap.objs.size) {s with heap:=s.heap.push {cls:=.type "tuple",data:=.seq (vs++ws).toArray}})
 (hsz:vs.length+ws.length<=sizeLine):wpAny (model prog w) A (binaryOp .Add (.ref t) (.ref b)) Q E s:=by
 obtain⟨⟨cls,dd,data,sl⟩,ho,hc,n,hd⟩:=id ht;obtain⟨⟨cls2,dd2,data2,sl2⟩,ho2,hc2,n2,hd2⟩:=id hb;simp only at hc hd hc2 hd2;subst hc hd hc2 hd2;have e:vs.toArray++ws.toArray=(vs++ws).toArray:=by simp
 by_cases hw:ws=[]
 .exact concat_meets #[_,ho,rfl] #[_,ho2,rfl] noFill_tuple_add seq_tuple_add PySem.F.slot_tuple_add PySem.F.entry_tuple_add (PySem.F.args_tuple_add_2 _ _)
   (tuple_addW1 t b vs.toArray ws.toArray n n2 dd dd2 sl sl2 (by simpa using hv) (by simp[hw])) #[ho,ho2,h1 hw]
 .refine concat_meets #[_,ho,rfl] #[_,ho2,rfl] noFill_tuple_add seq_tuple_add PySem.F.slot_tuple_add PySem.F.entry_tuple_add (PySem.F.args_tuple_add_2 _ _)
   (tuple_addW2 t b vs.toArray ws.toArray n n2 dd dd2 sl sl2 (by simpa using hv) (by simpa using hw) (by rw[size_toArray,size_toArray];exact hsz)) #[ho,ho2,?_]
  rw[e];exact h2 hw
noncomputable def KO(n d:Nat):Option Int->Nat
 |none=>d
 |some v=>if v<0 then(v+(n:Int)).toNat else min v.toNat n
theorem WK(v:Int)(n d:Nat):(if v<0 then max (v+(n:Int)) 0 else min v (n:Int))=((KO n d (some v):Nat):Int):=by
 show(if v<0 then max (v+(n:Int)) 0 else min v (n:Int))=(((if v<0 then(v+(n:Int)).toNat else min v.toNat n):Nat):Int)
 by_cases hv:v<0
 .simp only[iP hv];lia
 .simp only[iN hv];lia
end HT
namespace L2
open PySem PySem.Spec PyProof.Rows
section
variable{X:Cx}{e:Expr}{te:TE}{lo hi:Option Expr}{tl th:TO}{pos p2:Pos}
def jW(X:Cx)(r:V->Option Int->Option Int->Hp->VK->Prop):Prop:=
 ∀ (A1:Oa) (s:Shared) (Y:St) (H:Hp) (x:V) (v vl vu:Value) (lo hi:Option Int) (sl:Addr) (Q:VK),Inv X A1 Y H s->RelV x v->s.heap.IsSliceOf sl vl vu .none->IsPart vl lo->IsPart vu hi->r x lo hi H Q->
   ∃T id,typeLookup (.type T) "__getitem__"=pure (some (.builtin id))/\s.TypeIs v T/\(X|||(getItem v (.ref sl))) (EP X A1 Y Q) X.xe s
noncomputable def PX(xs:List V)(lo hi:Option Int):List V:=(xs.drop (HT.KO xs.length 0 lo)).take (HT.KO xs.length xs.length hi-HT.KO xs.length 0 lo)
theorem LF(xs:List V)(lo hi:Option Int):(PX xs lo hi).length<=xs.length:=by
 unfold PX;rw[length_take,length_drop]
 lia
def fw(K:PySem.W.Frag):R2:=λx y H Q=>∃a b xs ys,x= .ref a/\y= .ref b/\FX K H a xs/\FX K H b ys/\xs≠[]/\xs.length+ys.length<=sizeLine/\
 (ys=[]->Q (.ref a) H)/\(ys≠[]->∀p,H p=none->Q (.ref p) (upd H p (.tup (xs++ys))))
theorem Vals.JT{xs:List V}{us:List Value}(r:Vals xs us):us=[]↔xs=[]:=by
 cases r with
 |nil=>simp
 |cons _ _=>simp
theorem VE:Cb X (binaryOp .Add) (fw X.K):=by
 intro A1 s Y H x y v u Q I rx ry h;obtain⟨a,b,xs,ys,rfl,rfl,ha,hb,hx,hz,q1,q2⟩:=h;cases rx;cases ry;obtain⟨its,r1,p1,_⟩:=I.tuple ha;obtain⟨its2,r2,p2,_⟩:=I.tuple hb;refine HT.WL p1 p2 (λz=>hx (r1.JT.mp z)) (λz=>#[.ref a,H,I,rfl,q1 (r2.JT.mp z)]) (λz=>?_) (by rw[<-r1.length,<-r2.length];exact hz);refine#[.ref s.heap.objs.size,_,I.laid (t':=s.toks) (o:=.tup (xs++ys)) (λb ob q=>gP q) (lR) ?_,rfl,q2 (λw=>z (r2.JT.mpr w)) _ (I.Ao.fresh (lR))];exact#[by rw[lA];exact hz,_,r1.append r2,IsTup.new _ _]
end
noncomputable def Ln(n:Nat)(i:Int):Option Nat:=if 0<=i then(if i<n then some i.toNat else none)else if -(n:Int)<=i then some (i+n).toNat else none
noncomputable def YF{α:Type}(xs:List α)(i:Int):Option α:=(Ln xs.length i).bind λj=>xs[j]?
variable{n:Nat}
theorem W6{j:Nat}(h:Ln n i=some j):seqIndex? i n=some j/\j<n/\-(n:Int)<=i/\i<n:=by
 unfold Ln at h
 by_cases h0:0<=i
 .rw[iP h0]at h
  by_cases h1:i<n
  .rw[iP h1]at h;have e:i.toNat=j:=Option.some.inj h;exact#[by rw[seqIndex_of h0 h1,e],by lia,by lia,h1]
  .rw[iN h1]at h;cases h
 .rw[iN h0]at h
  by_cases h1: -(n:Int)<=i
  .rw[iP h1]at h;have e:(i+n).toNat=j:=Option.some.inj h;exact#[by rw[seqIndex_neg (by lia) h1,e],by lia,h1,by lia]
  .rw[iN h1]at h;cases h
variable{α:Type}
theorem Kq{xs:List α}{v:α}(h:YF xs i=some v):∃j,seqIndex? i xs.length=some j/\xs[j]? =some v/\j<xs.length/\-(xs.length:Int)<=i/\i<xs.length:=by
 unfold YF at h;cases e:Ln xs.length i with
 |none=>rw[e]at h;cases h
 |some j=>
   rw[e]at h;obtain⟨h1,h2,h3,h4⟩:=W6 e;exact#[j,h1,h,h2,h3,h4]
def Ks(b:Expr):Prop:=∀o i,subscripted b false o i=operate [o,i] (getItem o i)
def XE(X:Cx)(r:R2):Prop:=
 ∀ (value slice:Expr) (A1:Oa) (s:Shared) (Y:St) (H:Hp) (x y:V) (v u:Value) (Q:VK),Inv X A1 Y H s->RelV x v->RelV y u->r x y H Q->
   subscripted slice false v u=operate [v,u] (getItem v u)->(X|||(subscriptTail value slice v u)) (EP X A1 Y Q) X.xe s
def dI(X:Cx)(id:String)(r:V->List V->Hp->VK->Prop):Prop:=
 ∀ (A1:Oa) (s:Shared) (Y:St) (H:Hp) (x:V) (xs:List V) (v:Value) (us:List Value) (Q:VK),Inv X A1 Y H s->RelV x v->Vals xs us->r x xs H Q->
   (X|||(call (.builtin id) (v::us))) (EP X A1 Y Q) X.xe s
section
variable{X:Cx}{a b:Expr}{ta tb:TE}{pos:Pos}
theorem fK{r:R2}(hr:XE X r)(ha:PE X a ta)(hb:PE X b tb)(hs:Ks b):PE X (.Subscript a b pos) (jg r ta tb):=by
 intro A1 s Y H Q I h;exact Subscript_ (bW ha hb I h λv u s2 x y H2 I2 rx ry q=>hr a b A1 s2 Y H2 x y v u Q I2 rx ry q (hs _ _))
def kR(K:PySem.W.Frag):R2:=λx y H Q=>∃p xs i v,x= .ref p/\y= .int i/\Fd K H p xs/\YF xs i=some v/\Q v H
def kP(K:PySem.W.Frag):R2:=λx y H Q=>∃p xs i v,x= .ref p/\y= .int i/\FX K H p xs/\YF xs i=some v/\Q v H
def kQ:R2:=λx y H Q=>∃z i c,x= .str z/\y= .int i/\z.length<=sizeLine/\YF z.cps.toList i=some c/\Q (.str #[[c].toArray]) H
theorem W5:XE X (kR X.K):=by
 intro value slice A1 s Y H x y v u Q I rx ry h hs;obtain⟨p,xs,i,z,rfl,rfl,hq,he,q⟩:=h;cases rx;obtain⟨t,rfl⟩:=ry;obtain⟨its,r,pl,hz⟩:=I.list hq;obtain⟨j,h1,h2,h3,h4,h5⟩:=Kq he;obtain⟨w,ew,rw'⟩:=r.get h2;have hl:=r.length;have hn:=HH;have fin:EP X A1 Y Q w s:=#[z,H,I,rw',q]
 by_cases h0:0<=i
 .have hj:i.toNat=j:=by
   rw[seqIndex_of h0 h5]at h1;exact Option.some.inj h1
  exact item_listR pl.isList h0 (by lia) (by rw[hj];simpa using ew) fin hs
 .have hj:(i+(its.toArray.size:Int)).toNat=j:=by
   rw[seqIndex_neg (by lia) h4]at h1;rw[size_toArray,<-hl];exact Option.some.inj h1
  exact subscriptTail_builtinR (x:=w) pl.isList.typeIs slot_list_getitem.lookup
   (wpAny_getItem_list_neg (Q:=λr s'=>r=w/\EP X A1 Y Q r s') pl.isList (by lia) (by rw[size_toArray]<;>lia) (by lia) (by rw[hj];simpa using ew) #[rfl,fin]) hs
theorem aM:XE X (kP X.K):=by
 intro value slice A1 s Y H x y v u Q I rx ry h hs;obtain⟨p,xs,i,z,rfl,rfl,hq,he,q⟩:=h;cases rx;obtain⟨t,rfl⟩:=ry;obtain⟨its,r,pl,hz⟩:=I.tuple hq;obtain⟨j,h1,h2,h3,h4,h5⟩:=Kq he;obtain⟨w,ew,rw'⟩:=r.get h2;have hl:=r.length;have hn:=HH;have fin:EP X A1 Y Q w s:=#[z,H,I,rw',q]
 exact subscriptTail_builtinR (x:=w) pl.typeIs slot_tuple_getitem.lookup
  (getItem_tuple (j:=j) (Q:=λr s'=>r=w/\EP X A1 Y Q r s') pl (by lia) (by lia) (by rw[size_toArray,<-hl];exact h1) (by simpa using ew) #[rfl,fin]) hs
theorem aN:XE X kQ:=by
 intro value slice A1 s Y H x y v u Q I rx ry h hs;obtain⟨z,i,c,rfl,rfl,hz,he,q⟩:=h;obtain⟨t,rfl⟩:=rx;obtain⟨t',rfl⟩:=ry;obtain⟨j,h1,h2,h3,h4,h5⟩:=Kq he;have hl:z.cps.toList.length=z.length:=by simp[Str.length]
 rw[hl]at h1 h4 h5;have hn:=HH
 exact tail_any (typeIs_str s z t) slot_str_getitem.lookup (getItem_str (c:=c) (by
  have e1:decide (i < -(2^63:Int))=false:=dF (by lia);have e2:decide (i≥2^63)=false:=dF (by lia)
  rw[e1,e2,Bool.or_false]) (by rw[h1];simpa using h2) #[.str #[[c].toArray],H,I.tok _,#[_,rfl],q]) hs
theorem JD(lo hi:Option Int)(n:Nat):(sliceBounds lo hi none n).1=((HT.KO n 0 lo:Nat):Int)/\(sliceBounds lo hi none n).2.1=((HT.KO n n hi:Nat):Int)/\(sliceBounds lo hi none n).2.2=1:=by
 refine#[?_,?_,rfl]
 .cases lo with
  |none=>simp[sliceBounds,HT.KO]
  |some i=>
    simp only[sliceBounds,HT.KO,Option.getD_none,show(1:Int)>0 by decide,if_true]
    by_cases h:i<0
    .simp only[h,if_true]<;>lia
    .simp only[h,if_false]<;>lia
 .cases hi with
  |none=>simp[sliceBounds,HT.KO]
  |some i=>
    simp only[sliceBounds,HT.KO,Option.getD_none,show(1:Int)>0 by decide,if_true]
    by_cases h:i<0
    .simp only[h,if_true]<;>lia
    .simp only[h,if_false]<;>lia
theorem Ip(its:List Value)(lo hi:Option Int):slicePick its.toArray lo hi none=((its.drop (HT.KO its.length 0 lo)).take (HT.KO its.length its.length hi-HT.KO its.length 0 lo)).toArray:=by
 obtain⟨h1,h2,h3⟩:=JD lo hi its.toArray.size;unfold slicePick;rw[h1,h2,h3];simp only[sliceRange_one,pick_run,size_toArray]<;>rfl
def kL(K:PySem.W.Frag):V->Option Int->Option Int->Hp->VK->Prop:=λx lo hi H Q=>∃a xs,x= .ref a/\Fd K H a xs/\∀p,H p=none->Q (.ref p) (upd H p (.lst (PX xs lo hi)))
theorem V0:jW X (kL X.K):=by
 intro A1 s Y H x v vl vu lo hi sl Q I rx hs pl pu h;obtain⟨a,xs,rfl,hx,q⟩:=h;cases rx;obtain⟨its,r,ht,hz⟩:=I.list hx;have hlen:=r.length;refine#["list",_,slot_list_getitem.lookup,ht.isList.typeIs,?_];refine wpAny_getItem_list_slice ht.isList hs pl pu .none (by simp) ?_ (by rw[size_toArray]<;>lia);rw[Ip,<-hlen];refine#[.ref s.heap.objs.size,_,I.laid (t':=s.toks) (o:=.lst (PX xs lo hi)) (λb ob q=>gP q) (lR) ?_,rfl,q _ (I.Ao.fresh (lR))];exact#[Nat.le_trans (LF xs lo hi) hz,_,0,(r.drop (HT.KO xs.length 0 lo)).take (HT.KO xs.length xs.length hi-HT.KO xs.length 0 lo),Heap.get?_push_size _ rfl]
theorem Kl:Bc X (.type "list") (λxs H Q=>∃p ys,xs=[.ref p]/\(Fd X.K H p ys\/FX X.K H p ys)/\∀l,H l=none->Q (.ref l) (upd H l (.lst ys))):=by
 intro A1 s Y H xs us Q I r h;obtain⟨p,ys,rfl,hq,q⟩:=h;obtain⟨u,rfl,rx⟩:=vals1 r;cases rx
 have fin:∀(its:List Value),Vals ys its->ys.length<=sizeLine->∀(h':Heap) (c':Nat),(∀b o',s.heap.get? b=some o'->h'.get? b=some o')->
  h'.get? s.heap.objs.size=some {cls:=.type "list",dict:=none,data:=.seq its.toArray c',slots:=[].toArray}->EP X A1 Y Q (.ref s.heap.objs.size) {s with heap:=h'}:=λits r' hz h' c' kp e=>
  #[.ref s.heap.objs.size,_,I.laid (t':=s.toks) kp (lR) (show BW X.prog X.w _ h' _ (.lst ys)from#[hz,its,c',r',e]),rfl,q _ (I.Ao.fresh (lR))]
 rcases hq with hq|hq
 .obtain⟨its,r',pl,hz⟩:=I.list hq;have hlen:=r'.length;obtain⟨o,ho,hc,n,hd⟩:=pl.isList;exact call_list_seq p (.inl rfl) ho hc hd (λh' c' kp e=>fin its r' hz h' c' kp e) (by simp only[size_toArray]<;>lia)
 .obtain⟨its,r',pl,hz⟩:=I.tuple hq;have hlen:=r'.length;obtain⟨o,ho,hc,n,hd⟩:=pl;exact call_list_seq p (.inr rfl) ho hc hd (λh' c' kp e=>fin its r' hz h' c' kp e) (by simp only[size_toArray]<;>lia)
theorem EJ:Bc X (.type "tuple") (λxs H Q=>∃p ys,xs=[.ref p]/\((Fd X.K H p ys/\∀l,H l=none->Q (.ref l) (upd H l (.tup ys)))\/(FX X.K H p ys/\Q (.ref p) H))):=by
 intro A1 s Y H xs us Q I r h;obtain⟨p,ys,rfl,h⟩:=h;obtain⟨u,rfl,rx⟩:=vals1 r;cases rx;rcases h with⟨hq,q⟩|⟨hq,q⟩
 .obtain⟨its,r',pl,hz⟩:=I.list hq;have hlen:=r'.length;refine call_tuple_list pl.isList (λh' kp=>?_) (by simp only[size_toArray]<;>lia);have I1:Inv X A1 Y H {s with heap:=h'}:=I.kept (t':=s.toks) kp
  have I2:Inv X A1 Y (upd H h'.objs.size (.tup ys)) {s with heap:=h'.push {cls:=.type "tuple",data:=.seq its.toArray}}:=
   I1.laid (t':=s.toks) (λb o e=>gP e) (lR) (show BW X.prog X.w _ _ _ (.tup ys)from#[hz,its,r',IsTup.new _ _])
  exact#[.ref h'.objs.size,_,I2,rfl,q _ (I1.Ao.fresh (lR))]
 .obtain⟨its,r',pl,hz⟩:=I.tuple hq;exact call_tuple_same pl #[.ref p,H,I,rfl,q]
def jd(K:PySem.W.Frag)(T:String)(x:V)(H:Hp):Prop:=match x with
 |.str _=>T="str"
 |.int _=>T="int"
 | .ref p=>(T="list"/\∃xs,Fd K H p xs)\/(T="tuple"/\∃o,K.lookup p=some o/\o.cls= .type "tuple"/\o.dict=none)\/
  (T="dict"/\((∃kvs,H p=some (.dK kvs))\/∃kvs,H p=some (.dT kvs)))\/(T="set"/\∃S n,H p=some (.set S n))
 |_=>False
theorem Qq{A1:Oa}{Y:St}{H:Hp}{s:Shared}{T:String}(I:Inv X A1 Y H s)(r:RelV x v)(ty:jd X.K T x H):
 s.TypeIs v T/\∀a,v= .ref a->∃ob,s.heap.get? a=some ob/\ob.dict=none:=by
 cases x with
 |str z=>
   obtain⟨t,rfl⟩:=r;cases (show T="str" from ty);exact#[typeIs_str s z t,λ_ e=>nomatch e]
 |int i=>
   obtain⟨t,rfl⟩:=r;cases (show T="int" from ty);exact#[typeIs_int s i t,λ_ e=>nomatch e]
 |ref p =>
   cases r;rcases ty with⟨rfl,xs,hq⟩|⟨rfl,o,hk,hc,hd⟩|⟨rfl,hk⟩|⟨rfl,S,n,hk⟩
   .obtain⟨its,_,pl,_⟩:=I.list hq;refine#[pl.isList.typeIs,λa e=>?_];cases e;obtain⟨o,n,e,c,hd,_⟩:=pl;exact#[o,e,hd]
   .refine#[#[o,I.Cn p o hk,hc],λa e=>?_];cases e;exact#[o,I.Cn _ o hk,hd]
   .have z:∃o,s.heap.get? p=some o/\o.ExactDict:=by
     rcases hk with⟨kvs,hk⟩|⟨kvs,hk⟩
     .obtain⟨_,_,_,_,o,_,_,e,ex,_⟩:=I.Ao p _ hk;exact#[o,e,ex]
     .obtain⟨_,_,_,_,o,_,_,e,ex,_⟩:=I.Ao p _ hk;exact#[o,e,ex]
    obtain⟨o,e,ex⟩:=z;refine#[#[o,e,ex.1],λa e2=>?_];cases e2;exact#[o,e,ex.2.1]
   .obtain⟨o,_,_,_,e,ex,_⟩:=I.Ao p _ hk;refine#[#[o,e,ex.1],λa e2=>?_];cases e2;exact#[o,e,ex.2.1]
 |_=>exact False.elim ty
def kr(K:PySem.W.Frag)(T:String)(r:V->List V->Hp->VK->Prop)(to:TE):TE:=λY H Q=>to Y H λx H1=>jd K T x H1/\r x [] H1 Q
def nX(K:PySem.W.Frag)(T:String)(r:V->List V->Hp->VK->Prop)(to:TE)(t:TA):TE:=λY H Q=>to Y H λx H1=>jd K T x H1/\t Y H1 λxs H2=>r x xs H2 Q
variable{o e:Expr}{es:List Expr}{to:TE}{t:TA}{name:Str}{apos cpos:Pos}{T id:String}{r:V->List V->Hp->VK->Prop}
theorem ZL(pa:PlainAttrs T)(A4:Slot T name id)(hty:typeOf (.builtin id)=pure (.type "method_descriptor"))(hm:dI X id r)(ho:PE X o to)
 (hbase:attributeBase o name X.env (eval o X.env)=eval o X.env:=by rfl)(hline:(apos.endLine==cpos.line)=true:=by rfl):PE X (.Call (.Attribute o name apos) [] [] cpos) (kr X.K T r to):=by
 intro A1 s Y H Q I h;refine wpAny_Call_method0_late hbase hline (B2 (ho A1 s Y H _ I h) λv s1 ⟨x,H1,I1,r1,ty,q1⟩=>?_);obtain⟨h1,h2⟩:=Qq I1 r1 ty;exact#[T,id,pa,A4,hty,h1,h2,Calls.callWith_builtin rfl (PySem.evalArgs_none (hm A1 s1 Y H1 x [] v [] Q I1 r1 .nil q1))]
theorem Ry(pa:PlainAttrs T)(A4:Slot T name id)(hty:typeOf (.builtin id)=pure (.type "method_descriptor"))(hm:dI X id r)(ho:PE X o to)(ha:PA X (e::es) t)
 (hbase:attributeBase o name X.env (eval o X.env)=eval o X.env:=by rfl)
 (hfew:((backTo cpos (starEach (e::es) X.env)).all (λx=>!x.1)&&(backToKw cpos (keywordEach [] X.env)).all (λx=>x.1.isSome)
  && decide ((e::es).length+([]:List Keyword).length+(if([]:List Keyword).isEmpty then 0 else 1)<30))=true:=by rfl)
 (hline:(apos.endLine==cpos.line)=true:=by rfl)(hs:starEach (e::es) X.env=(false,eval e X.env)::starEach es X.env:=by rfl)(hplain:(backTo cpos (starEach es X.env)).any (·.1)=false:=by rfl):
 PE X (.Call (.Attribute o name apos) (e::es) [] cpos) (nX X.K T r to t):=by
 intro A1 s Y H Q I h;refine wpAny_Call_method_late hbase hfew hline rfl (B2 (ho A1 s Y H _ I h) λv s1 ⟨x,H1,I1,r1,ty,q1⟩=>?_);obtain⟨h1,h2⟩:=Qq I1 r1 ty;refine#[T,id,pa,A4,hty,h1,h2,?_];have hA:=ha cpos A1 s1 Y H1 _ I1 q1;rw[hs]at hA ⊢;refine Calls.callWith_builtin (by show(false||(backTo cpos (starEach es X.env)).any (·.1))=false;rw[hplain]<;>rfl) (Calls.evalArgs_plain ?_);exact B2 hA λus s2 ⟨vs,H2,I2,r2,q2⟩=>hm A1 s2 Y H2 x vs v us Q I2 r1 r2 q2
end
def mW(X:Cx)(id:String)(r:V->List V->Hp->VK->Prop):Prop:=
 ∀ (A1:Oa) (s:Shared) (Y:St) (H:Hp) (x:V) (xs:List V) (v:Value) (us:List Value) (Q:VK),Inv X A1 Y H s->RelV x v->Vals xs us->r x xs H Q->
   (X|||(call (.builtin id) (v::us))) (EP X A1 Y Q) X.xe s
theorem Vals.one:∀{x:V} {us:List Value},Vals [x] us->∃u,us=[u]/\RelV x u
 |_,_,.cons r .nil=>#[_,rfl,r]
theorem Vals.zero:∀{us:List Value},Vals [] us->us=[]
 |_,.nil=>rfl
theorem Vals.dropLast{xs:List V}{us:List Value}(h:Vals xs us):Vals xs.dropLast us.dropLast:=by
 induction h with
 |nil=>exact .nil
 |cons r t ih=>
   cases t with
   |nil=>exact .nil
   |cons q t'=>exact .cons r ih
theorem N6(l:List α):l.eraseIdx (l.length-1)=l.dropLast:=by
 induction l with
 |nil=>rfl
 |cons a r ih=>
   cases r with
   |nil=>rfl
   |cons b r=>
     have e:(a::b::r).length-1=((b::r).length-1)+1:=by
      have h1:(a::b::r).length=r.length+2:=rfl;have h2:(b::r).length=r.length+1:=rfl
      lia
     rw[e,List.eraseIdx_cons_succ,ih]
     all_goals rfl
variable{X:Cx}{A1:Oa}{Y:St}{H:Hp}{s:Shared}{l b:Addr}{xs ys zs:List V}
variable{its:List Value}{t':Nat}
theorem Inv.az{its':List Value}{f:Array Value->Array Value}(I:Inv X A1 Y H s)(hH:H l=some (.lst xs))
 (e:s.heap.get? l=some {cls:=.type "list",data:=.seq its.toArray n})(hf:f its.toArray=its'.toArray)(hv:Vals ys its')(hz:ys.length<=sizeLine):
 Inv X A1 Y (upd H l (.lst ys)) {s with heap:=s.heap.update l (Obj.mapSeq f),toks:=t'}:=by
 have q:=PySem.IsL.update e f;rw[hf]at q;refine I.write (x:=l) (e:=l) (by rw[hH];exact trivial) (.inl rfl) (λb' u hb hu=>(Heap.get?_update_other s.heap (Obj.mapSeq f) (Ne.symm hb)).trans hu) #[_,q] ?_;exact#[hz,its',_,hv,q]
theorem Inv.lq(I:Inv X A1 Y H s)(hv:Vals ys its)(hz:ys.length<=sizeLine):
 Inv X A1 Y (upd H s.heap.objs.size (.lst ys)) {s with heap:=s.heap.push {cls:=.type "list",data:=.seq its.toArray},toks:=t'}:=
 I.laid (λ_ _ q=>gP q) (lR) #[hz,its,0,hv,Heap.get?_push_size _ rfl]
theorem Inv.fresh(I:Inv X A1 Y H s):H s.heap.objs.size=none:=I.Ao.fresh (lR)
theorem Inv.Pw(I:Inv X A1 Y H s)(hH:H l=some (.lst xs)):xs.length<=sizeLine/\∃(its:List Value) (n:Nat),Vals xs its/\xs.length=its.length/\s.heap.get? l=some {cls:=.type "list",data:=.seq its.toArray n}:=by
 obtain⟨z,its,n,r,e⟩:=I.Ao l _ hH;exact#[z,its,n,r,r.length,e]
theorem RH(h:n<=sizeLine):Builtin.List.listTooLong n=false:=by
 unfold Builtin.List.listTooLong;exact dF (by lia)
def NJ:V->List V->Hp->VK->Prop:=λx vs H Q=>∃l xs y,x= .ref l/\vs=[y]/\H l=some (.lst xs)/\xs.length<sizeLine/\Q .Az (upd H l (.lst (xs++[y])))
theorem Po:mW X "list.append" NJ:=by
 intro A1 s Y H x vs v us Q I rx rv h;obtain⟨l,xs,y,rfl,rfl,hH,hz,q⟩:=h;cases rx;obtain⟨u,rfl,ru⟩:=rv.one;obtain⟨z,its,n,r,hl,e⟩:=I.Pw hH;refine call_meets F.slot_list_append #[_,e,rfl] F.entry_list_append (F.args_list_append_2 _ _) (PySem.list_append l its.toArray n u (by rw[size_toArray];lia)) #[e,?_];refine#[.Az,_,I.az (its':=its++[u]) hH e (by simp) (r.append (.cons ru .nil)) ?_,rfl,q];rw[lA,lS]
 lia
def NI:V->List V->Hp->VK->Prop:=λx vs H Q=>∃l b xs zs,x= .ref l/\vs=[.ref b]/\H l=some (.lst xs)/\H b=some (.lst zs)/\xs.length+zs.length<=sizeLine/\Q .Az (upd H l (.lst (xs++zs)))
theorem Pn:mW X "list.extend" NI:=by
 intro A1 s Y H x vs v us Q I rx rv h;obtain⟨l,b,xs,zs,rfl,rfl,hH,hB,hz,q⟩:=h;cases rx;obtain⟨u,rfl,ru⟩:=rv.one;cases ru;obtain⟨z,its,n,r,hl,e⟩:=I.Pw hH;obtain⟨z2,its2,n2,r2,hl2,e2⟩:=I.Pw hB;have hsz:its.toArray.size+its2.toArray.size<=sizeLine:=by rw[size_toArray,size_toArray];lia
 have hlong:¬(!its.toArray.isEmpty&&Builtin.List.listTooLong (its.toArray.size+its2.toArray.size))=true:=by
  rw[RH hsz,Bool.and_false];exact Bool.false_ne_true
 refine call_meets F.slot_list_extend #[_,e,rfl] F.entry_list_extend (F.args_list_extend_2 _ _)
  (AutoSeq1.list_extend_list_list_0 l its.toArray n b its2.toArray n2 hlong (by rw[size_toArray];lia) (by lia)) #[e,e2,?_]
 refine#[.Az,_,I.az (its':=its++its2) hH e (by simp) (r.append r2) ?_,rfl,q];rw[lA]
 lia
def ft:V->List V->Hp->VK->Prop:=λx vs H Q=>∃l xs y,x= .ref l/\vs=[]/\H l=some (.lst xs)/\xs[xs.length-1]? =some y/\Q y (upd H l (.lst xs.dropLast))
theorem ak:mW X "list.pop" ft:=by
 intro A1 s Y H x vs v us Q I rx rv h;obtain⟨l,xs,y,rfl,rfl,hH,hy,q⟩:=h;cases rx;have hus:=rv.zero;subst hus;obtain⟨z,its,n,r,hl,e⟩:=I.Pw hH;obtain⟨u,hu,ru⟩:=r.get hy
 have hy':its.toArray[its.toArray.size-1]? =some u:=by
  show its.toArray[its.length-1]? =some u;rw[<-Array.getElem?_toList,<-hl];exact hu
 refine call_meets F.slot_list_pop #[_,e,rfl] F.entry_list_pop (F.args_list_pop_1 _) (MeetsSeq.list_pop_last l its.toArray n u hy' (by rw[size_toArray];lia)) #[e,?_];refine#[y,_,I.az (its':=its.dropLast) hH e ?_ r.dropLast ?_,ru,q]
 .show its.toArray.eraseIdxIfInBounds (its.toArray.size-1)=its.dropLast.toArray;rw[size_toArray,List.eraseIdxIfInBounds_toArray,N6]
 .rw[List.length_dropLast]
  lia
def kT:R2:=λx y H Q=>∃l b xs zs,x= .ref l/\y= .ref b/\H l=some (.lst xs)/\H b=some (.lst zs)/\xs.length+zs.length<=sizeLine/\∀p,H p=none->Q (.ref p) (upd H p (.lst (xs++zs)))
theorem ZS:Cb X (binaryOp .Add) kT:=by
 intro A1 s Y H x y v u Q I rx ry h;obtain⟨l,b,xs,zs,rfl,rfl,hH,hB,hz,q⟩:=h;cases rx;cases ry;obtain⟨z,its,n,r,hl,e⟩:=I.Pw hH;obtain⟨z2,its2,n2,r2,hl2,e2⟩:=I.Pw hB;refine PySem.P.add_list e e2 ?_ (by rw[size_toArray,size_toArray];lia);have ea:its.toArray++its2.toArray=(its++its2).toArray:=by simp
 rw[ea];exact#[.ref _,_,I.lq (t':=s.toks) (r.append r2) (by rw[lA];lia),rfl,q _ I.fresh]
variable{prog:Program}{w:World}{A:Around}{E:Va}
variable{a:Addr}{y v:V}{u r:Value}{o:Option V}
variable{kvs:List (Key×V)}{k:Key}
structure M1(X:Cx)(o:Expr)(m:Str)(apos:Pos)(e:Expr)(cpos:Pos):Prop where
 base:attributeBase o m X.env (eval o X.env)=eval o X.env
 gR:((backTo cpos (starEach [e] X.env)).all (λx=>!x.1)&&(backToKw cpos (keywordEach [] X.env)).all (λx=>x.1.isSome)
  && decide (([e]:List Expr).length+([]:List Keyword).length+(if([]:List Keyword).isEmpty then 0 else 1)<30))=true
 line:(apos.endLine==cpos.line)=true
 trees:backTo cpos (starEach [e] X.env)=[(false,eval e X.env)]
structure M2(X:Cx)(o:Expr)(m:Str)(apos:Pos)(e f:Expr)(cpos:Pos):Prop where
 base:attributeBase o m X.env (eval o X.env)=eval o X.env
 gR:((backTo cpos (starEach [e,f] X.env)).all (λx=>!x.1)&&(backToKw cpos (keywordEach [] X.env)).all (λx=>x.1.isSome)
  && decide (([e,f]:List Expr).length+([]:List Keyword).length+(if([]:List Keyword).isEmpty then 0 else 1)<30))=true
 line:(apos.endLine==cpos.line)=true
 trees:backTo cpos (starEach [e,f] X.env)=[(false,eval e X.env),(false,eval f X.env)]
variable{d:V}
end L2
namespace Att
open PySem PySem.W PySem.Calls PyProof.Rows
variable{h:Heap}
theorem GO{P:Params}:∀(ns:List Int) (vs:List Value),WellAll P h vs (ns.map WData.int)->IntsAre vs ns:=by
 intro ns
 induction ns with
 |nil=>
   intro vs w;rw[map_nil]at w;cases w;exact .nil
 |cons n ns ih=>
   intro vs w;rw[map_cons]at w;cases w with
   |cons a b=>
     cases a;exact .cons _ _ (ih _ b)
variable{n:Nat}
theorem OV{l:OpenLaw}(hn:l.most=some n){P:Params}{args:List WData}{vals:List Value}
 (hpre:l.row.toRowW.claim.pre args=true)(hwl:WellAll P h vals args):
 ∃a vs ns,vals=[Value.ref a]/\args=[WData.list (ns.map WData.int)]/\h.get? a=some {cls:=.type "list",data:=.seq vs.toArray}/\IntsAre vs ns/\ns.length<=n:=by
 have hsh:WShape.hasAll [] args [.list .int]=true:=(pre_splitW hpre).1;have hc:l.pre.holds [] {args:=args}=true:=(pre_splitW hpre).2;obtain⟨d,r,rfl,h1,h2⟩:=hasAllW_cons hsh;obtain rfl:=hasAllW_nil h2;obtain⟨xs,rfl,h3⟩:=hasW_list h1;obtain⟨ns,rfl⟩:=items_int h3
 have hlen:ns.length<=n:=by
  unfold OpenLaw.pre at hc
  have h4:(WTm.not (.lt (.lit (.int (n:Int))) (.len (.arg 0)))).holds [] {args:=[.list (ns.map .int)]}=true:=by
   have h4:=(holds_andW hc).1;rw[hn]at h4;exact h4
  have h5:=condW_of h4 (w_not (w_lt w_lit (w_len_list (w_arg rfl))));rw[lM]at h5;refine Nat.le_of_not_lt λq=>?_
  have q':(n:Int)<((ns.length:Nat):Int):=by lia
  first
   |(rw[dZ q']at h5;exact absurd h5 (by decide))
   |(simp at h5;lia)
 cases hwl with
 |cons w1 w2=>
   cases w2;cases w1 with
   |list ho hall=>exact#[_,_,ns,rfl,rfl,ho,GO ns _ hall,hlen]
theorem P6(l:OpenLaw)(args:List WData):l.row.toRowW.claim.post args (.bool true) args=true:=
 postW_of (r:=l.row.toRowW) (X:=(true==true))
  (show WShape.has [] (.bool true) .bool=true by first|rfl|decide|simp[WShape.has,WShape.arms,WShape.armsAll])
  (show(WTm.eq .res (.lit (.bool true))).value [] {args:=args,res:=some (.bool true),after:=args}=some (.bool (true==true))from w_eq_bool (w_res rfl) w_lit) rfl
theorem LM{l:OpenLaw}{q:Program}{loose:List Str}{XP:(Str->Option Value)->Heap->Prop}{YP:World->Heap->Prop}{d:DefRec}
 (hn:l.most=some n)(hdf:d.params.defaults=[])
 (call:∀(w:World) (s₀ s₁:Shared) (mg mb:Str->Option Value) (fa:Addr) (o:Obj) (pm cd doc:Value) (a:Addr) (vs:List Value) (ns:List Int),
  Ground q loose [] XP w s₀ mg mb s₁.heap->YP w s₁.heap->
  s₁.heap.get? fa=some o->o.data= .func (docDef d.name d.params d.body d.scope pm cd doc)->s₁.heap.CodeRec cd d.name->mg d.name=some (.ref fa)->
  s₁.heap.get? a=some {cls:=.type "list",data:=.seq vs.toArray}->IntsAre vs ns->ns.length<=n->s₁.gens= [].toArray->
  codeAny (model l.prog w) callerA (.call (.ref fa) #[[.ref a],[]]) (λr s'=>r= .ok (.ret (.bool true))/\OldK s₁.heap s'.heap/\s'.os=s₁.os/\AllBare s'.gens) s₁):
 WalkO q loose XP YP l.row.toRowW d [] (λf vs=>PySem.call f vs):=by
 intro w s₀ s₁ mg mb G xYY fa o pm cd doc dV kV ho hd hcd hD hmg hg args vals as hpre hlay hrd hwl hlo;obtain rfl:dV= .none:=Dflts.none hD hdf;obtain rfl:kV= .none:=Dflts.noKw hD;obtain⟨a,vs,ns,rfl,rfl,hobj,hints,hlen⟩:=OV hn hpre hwl;refine enter_call (codeAny_mono (call w s₀ s₁ mg mb fa o pm cd doc a vs ns G xYY ho (fd_plain hd) hcd hmg hobj hints hlen hg) λr s' hq=>?_);obtain⟨rfl,h2,h3,h4⟩:=hq;exact#[.inl #[.bool true,.bool true,[],rfl,λ_=>rfl,.bool true,P6 l _,λ_=>#[List.Pairwise.nil,λ_ hm=>(nomatch hm)]],h2,h3,h4]
variable{prog:Program}{w:World}{A:Around}{E:Va}{s:Shared}{K:Frag}
end Att
namespace L2
open PySem PySem.Spec PyProof.Rows
theorem IB:∀{vs:List Value} {ns:List Int},IntsAre vs ns->Vals (ns.map V.int) vs
 |_,_,.nil=>.nil
 |_,_,.cons n t h=>.cons #[t,rfl] (IB h)
noncomputable def inClass(s:Stmt)(j:Nat):Stmt:=match s with
 |.ClassDef _ _ _ body _ _ _ _ _ _ _=>body.getD j (.Pass #[0,0,0,0])
 |_=>.Pass #[0,0,0,0]
noncomputable def Ke(s:Stmt):Arguments:=match s with
 |.FunctionDef _ a _ _ _ _ _ _ _ _=>a
 |_=>{posonlyargs:=[],args:=[],vararg:=none,kwonlyargs:=[],kw_defaults:=[],kwarg:=none,defaults:=[]}
def Ca(s:Stmt):List Stmt:=match s with
 |.FunctionDef _ _ b _ _ _ _ _ _ _=>b
 |_=>[]
noncomputable def Am(s:Stmt):Scope:=match s with
 |.FunctionDef _ _ _ _ _ _ sc _ _ _=>sc
 |_=>{kind:=.function,names:=[],isGenerator:=false,isCoroutine:=false}
abbrev E0:XK:=λ_ _ _=>False
structure OC(K:PySem.W.Frag)(x qual:Str)(st:Stmt)(f:Addr)(fd:FuncData):Prop where
 ex:∃(oc:Value) (od:Option Addr) (kV doc pm:Value) (an:Option Addr) (cdv ct:Value) (osl:Array (Option Value)),
   fd=PySem.W.fnOf x qual (Ke st) (Ca st) (Am st) .none kV doc pm an cdv ct/\K.lookup f=some #[oc,od,.func fd,osl]/\codeIn K cdv qual=true
 kp:keepIn K (.ref f)=true
section
variable{P:Program}{w:World}{K:PySem.W.Frag}{mg:Str->Option Value}{base:Heap}
theorem OC.binds{qual:Str}{st:Stmt}{fd:FuncData}{ps:List Str}(F:OC K x qual st f fd)
 (h:∀(kV doc pm:Value) (an:Option Addr) (cdv ct:Value) (us:List Value),us.length=ps.length->bindArgs (PySem.W.fnOf x qual (Ke st) (Ca st) (Am st) .none kV doc pm an cdv ct) #[us,[]]=pure (ps.zip us)):Binds K fd ps []:=by
 obtain⟨oc,od,kV,doc,pm,an,cdv,ct,osl,rfl,lk,hcd⟩:=F.ex;exact .all (h kV doc pm an cdv ct)
end
variable{X:Cx}
theorem W9{A B:Prop}(h:B):if false=true then A else B:=by
 rw[iN Bool.false_ne_true];exact h
theorem W8{A B:Prop}(h:A):if true=true then A else B:=by
 rw[iP rfl];exact h
def BV(H H':Hp):Prop:=∀b o,H b=some o->H' b=some o
theorem BV.refl(H:Hp):BV H H:=λ_ _ h=>h
variable{H:Hp}
theorem BV.trans{H1 H2:Hp}(a:BV H H1)(b:BV H1 H2):BV H H2:=λc o h=>b c o (a c o h)
theorem BV.free{H':Hp}(e:BV H H')(h:H' l=Option.none):H l=Option.none:=by
 cases q:H l with
 |none=>rfl
 |some o=>
   rw[e l o q]at h;cases h
noncomputable def GD(cells:List (Str×Addr)):List (Str×NameKind)->List (Str×Addr)->List (Str×Addr)
 |[],cs=>cs
 |(n,k)::r,cs=>if(k==NameKind.free)=true then GD cells r ((n,(cells.lookup n).getD 0)::cs)else GD cells r cs
variable{env:Env}
theorem Oo:∀(l:List (Str×NameKind)) (cs:List (Str×Addr)),(∀x∈l,x.2= .free->∃c,env.cells.lookup x.1=some c)->
 (forIn l cs (λ(x:Str×NameKind) (r:List (Str×Addr))=>(match x with|(name,kind)=>if(kind==NameKind.free)=true then(do let a <-cellOf env name;pure (ForInStep.yield ((name,a)::r)))else pure (ForInStep.yield r):Sem _)))=(pure (GD env.cells l cs):Sem _)
 |[],cs,_=>by simp[GD]
 | (n, k)::r,cs,h=>by
   have ih:=λcs'=>Oo r cs' λx hx=>h x (mC hx)
   rw[List.forIn_cons]
   by_cases hk:k= .free
   .subst hk;obtain⟨c,e⟩:=h (n,.free) mS rfl
    have hb:(if(NameKind.free==NameKind.free)=true then(do let a <-cellOf env n;pure (ForInStep.yield ((n,a)::cs)))else pure (ForInStep.yield cs):Sem (ForInStep (List (Str×Addr))))=pure (ForInStep.yield ((n,c)::cs)):=by
     have e:env.cells.lookup n=some c:=e;rw[iP (by rfl)];unfold cellOf;rw[e];exact pure_bind _ _
    show((if(NameKind.free==NameKind.free)=true then(do let a <-cellOf env n;pure (ForInStep.yield ((n,a)::cs)))else pure (ForInStep.yield cs):Sem (ForInStep (List (Str×Addr)))) >>= _)=_;rw[hb,pure_bind];refine(ih _).trans ?_;have e:env.cells.lookup n=some c:=e;show _=pure (if(NameKind.free==NameKind.free)=true then GD env.cells r ((n,(env.cells.lookup n).getD 0)::cs)else GD env.cells r cs);rw[iP (by rfl),e];rfl
   .have hb:(k==NameKind.free)=false:=by simpa using hk
    show((if(k==NameKind.free)=true then(do let a <-cellOf env n;pure (ForInStep.yield ((n,a)::cs)))else pure (ForInStep.yield cs):Sem (ForInStep (List (Str×Addr)))) >>= _)=_;rw[iN (by rw[hb];decide),pure_bind];refine(ih _).trans ?_;show _=pure (if(k==NameKind.free)=true then GD env.cells r ((n,(env.cells.lookup n).getD 0)::cs)else GD env.cells r cs);rw[iN (by rw[hb];decide)]
theorem CT{scope:Scope}(h:∀x∈scope.names,x.2= .free->∃c,env.cells.lookup x.1=some c):closureFor scope env=pure (GD env.cells scope.names []):=by
 unfold closureFor;have:=Oo (env:=env) scope.names [] h
 first
  |(simp only[bind_pure];exact this)
  |(rw[show(forIn scope.names ([]:List (Str×Addr)) _:Sem _)=_ from this];rfl)
theorem FO{cells:List (Str×Addr)}{c:Addr}:∀(l:List (Str×NameKind)) (cs:List (Str×Addr)),(∀y∈l,y.2= .free->∃c,cells.lookup y.1=some c)->(∀y d,cs.lookup y=some d->cells.lookup y=some d)->
 (GD cells l cs).lookup x=some c->cells.lookup x=some c
 |[],cs,_,hc,e=>hc x c e
 | (n, k)::r,cs,hl,hc,e=>by
   have hl':∀y∈r,y.2= .free->∃c,cells.lookup y.1=some c:=λy hy=>hl y (mC hy)
   unfold GD at e
   by_cases hk:(k==NameKind.free)=true
   .rw[iP hk]at e;refine FO r _ hl' (λy d q=>?_) e;obtain⟨d',e'⟩:=hl (n,k) mS (by simpa using hk);rw[lookup_cons]at q;cases hy:y==n with
    |true=>
      rw[hy]at q;have:y=n:=by simpa using hy
      subst this;dsimp only at e';rw[e']at q ⊢;exact q
    |false=>rw[hy]at q;exact hc y d q
   .rw[iN hk]at e;exact FO r cs hl' hc e
theorem Et{cells:List (Str×Addr)}{x:Str}:∀(l:List (Str×NameKind)) (cs:List (Str×Addr)),((∃y∈l,y.1=x/\y.2= .free)\/∃c,cs.lookup x=some c)->∃c,(GD cells l cs).lookup x=some c
 | [],cs,h=>by
   rcases h with⟨y,hy,_⟩|h
   .simp at hy
   .exact h
 | (n, k)::r,cs,h=>by
   unfold GD
   by_cases hk:(k==NameKind.free)=true
   .rw [iP hk];refine Et r _ ?_;rcases h with⟨y,hy,e1,e2⟩|⟨c,h⟩
    .rcases mK hy with q|q
     .refine .inr ?_;subst q;have e1:n=x:=e1;subst e1;exact#[_,by rw[lookup_cons];simp;rfl]
     .exact .inl #[y,q,e1,e2]
    .refine .inr ?_;rw[lookup_cons];cases hy:x==n with
     |true=>exact#[_,rfl]
     |false=>exact#[c,h]
   .rw [iN hk];refine Et r cs ?_;rcases h with⟨y,hy,e1,e2⟩|h
    .rcases mK hy with q|q
     .subst q;have e2:k= .free:=e2;subst e2;exact absurd rfl hk
     .exact .inl #[y,q,e1,e2]
    .exact .inr h
noncomputable def B0(X:Cx)(N:List Str)(scope:Scope)(C:Addr)(s:Shared)(H:Hp)(fp:List Addr):Cx where
 prog:=X.prog
 w:=X.w
 K:=X.K
 mg:=X.mg
 base:=X.base
 A:=X.A
 N:=N
 s₀:=s
 H₀:=H
 env:=compEnvC scope (GD X.env.cells scope.names []) C X.env
 outer:=X.stack
 stack:=X.stack
 ex:=fp
 calm:=X.calm
 fn:=λ_=>false
 pn:=[]
 xe:=λ_ _=>False
def BZ(fr:List (Option Nat))(Y:St):St:=fr.map λo=>o.bind λi=>(Y[i]?).join
noncomputable def N9(N0:List Str)(sc0:Scope)(N:List Str)(scope:Scope)(fr:List (Option Nat)):Bool:=
 (scope.kind == .function)&&scope.names.all (λy=>y.2 != .cell)&&scope.names.all (λy=>y.2 != .local||scope.names.lookup y.1==some .local) &&
 scope.names.all (λy=>y.2 != .free||sc0.names.lookup y.1==some .cell||sc0.names.lookup y.1==some .free)&&(fr.length==N.length) &&
 (List.range fr.length).all λj=>match fr[j]? with
  |some (some i)=>(N[j]? == N0[i]?)&&(match N[j]? with|some x=>scope.names.lookup x==some .free|none=>false)
  |_=>true
structure DF(N0:List Str)(sc0:Scope)(N:List Str)(scope:Scope)(fr:List (Option Nat)):Prop where
 kind:scope.kind= .function
 DT:∀y∈scope.names,y.2≠.cell
 own:∀y∈scope.names,y.2= .local->scope.names.lookup y.1=some .local
 free:∀y∈scope.names,y.2= .free->sc0.names.lookup y.1=some .cell\/sc0.names.lookup y.1=some .free
 len:fr.length=N.length
 Wj:∀(j i:Nat),fr[j]? =some (some i)->∃x,N[j]? =some x/\N0[i]? =some x/\scope.names.lookup x=some .free
theorem DF.of{N0:List Str}{sc0:Scope}{N:List Str}{scope:Scope}{fr:List (Option Nat)}(h:N9 N0 sc0 N scope fr=true):DF N0 sc0 N scope fr:=by
 unfold N9 at h;simp only[bA,all_eq_true]at h;obtain⟨⟨⟨⟨⟨h1,h2⟩,h3⟩,h4⟩,h5⟩,h6⟩:=h;refine#[by simpa using h1,λy hy=>by simpa using h2 y hy,λy hy e=>?_,λy hy e=>?_,by simpa using h5,λj i e=>?_]
 .have:=h3 y hy;simp[e]at this;exact this
 .have:=h4 y hy;simp[e]at this;exact this
 .have hj:j<fr.length:=(List.getElem?_eq_some_iff.mp e).1;have q:=h6 j (mem_range.mpr hj);rw[e]at q;dsimp only at q;rw[bA]at q;obtain⟨q1,q2⟩:=q;cases ex:N[j]? with
  |none=>rw[ex]at q2;cases q2
  |some x=>
    rw[ex]at q1 q2;exact#[x,rfl,(by simpa using q1:some x=N0[i]?).symm,by simpa using q2]
theorem BM{env:Env}:∀{names:List (Str×NameKind)} {x:Str},names.lookup x=some .free->
 (names.map λ(n,k)=>if(k^^^n&&&env)then(n,NameKind.cell)else(n,k)).lookup x=some .free\/
 (names.map λ(n,k)=>if(k^^^n&&&env)then(n,NameKind.cell)else(n,k)).lookup x=some .cell
 |[],_,h=>by simp at h
 | (n,k)::r,x,h=>by
   have ih:=@BM env r x;show List.lookup x ((if(k^^^n&&&env)=true then(n,NameKind.cell)else(n,k))::_)=_\/List.lookup x ((if(k^^^n&&&env)=true then(n,NameKind.cell)else(n,k))::_)=_;cases hx:x==n with
   |true=>
     simp only[lookup_cons,hx]at h;cases h
     by_cases hc:(NameKind.free==NameKind.free&&env.scope.kind == .function&&env.kindOf n==some .cell)=true
     .rw[iP hc];right;rw[lookup_cons,hx]
     .rw[iN hc];left;rw[lookup_cons,hx]
   |false=>
     simp only[lookup_cons,hx]at h
     by_cases hc:(k^^^n&&&env)=true
     .rw[iP hc];simp only[lookup_cons,hx];exact ih h
     .rw[iN hc];simp only[lookup_cons,hx];exact ih h
theorem Fw{env:Env}:∀{names:List (Str×NameKind)} {x:Str},(∀y∈names,y.2≠.cell)->
 ((names.map λ(n,k)=>if(k^^^n&&&env)then(n,NameKind.cell)else(n,k)).lookup x=some .cell\/
 (names.map λ(n,k)=>if(k^^^n&&&env)then(n,NameKind.cell)else(n,k)).lookup x=some .free)->∃y∈names,y.1=x/\y.2= .free
 |[],_,_,h=>by simp at h
 | (n, k)::r,x,hn,h=>by
   have ih:=@Fw env r x λy hy=>hn y (mC hy)
   have hnk:k≠.cell:=hn (n,k) mS
   have h:List.lookup x ((if(k^^^n&&&env)=true then(n,NameKind.cell)else(n,k))::(r.map λ(n,k)=>if(k^^^n&&&env)then(n,NameKind.cell)else(n,k)))=some .cell\/
    List.lookup x ((if(k^^^n&&&env)=true then(n,NameKind.cell)else(n,k))::(r.map λ(n,k)=>if(k^^^n&&&env)then(n,NameKind.cell)else(n,k)))=some .free:=h
   by_cases hc:(k^^^n&&&env)=true
   .rw [iP hc]at h;cases hx:x==n with
    |true=>
      have hk:k= .free:=by
       simp only[bA]at hc;simpa using hc.1.1
      exact#[(n,k),mS,(by simpa using hx:x=n).symm,hk]
    |false=>
      simp only[lookup_cons,hx]at h;obtain⟨y,hy,q⟩:=ih h;exact#[y,mC hy,q]
   .rw[iN hc]at h;cases hx:x==n with
    |true=>
      simp only[lookup_cons,hx,Option.some.injEq]at h;refine#[(n,k),mS,(by simpa using hx:x=n).symm,?_];rcases h with h|h
      .exact absurd h hnk
      .exact h
    |false=>
      simp only[lookup_cons,hx]at h;obtain⟨y,hy,q⟩:=ih h;exact#[y,mC hy,q]
section
variable{A1:Oa}{Y:St}{H:Hp}{s:Shared}{N:List Str}{scope:Scope}{fr:List (Option Nat)}{fp:List Addr}{C:Addr}
theorem Ia(I:Inv X A1 Y H s)(ok:DF X.N X.env.scope N scope fr)(hf:∀b∈fp,Gn X A1 H b)(hfl:∀b∈fp,b<s.heap.objs.size){h1:Heap}{m:Str->Option Value}{tk:Nat}(hC:s.heap.objs.size<=C)(hns:h1.Ns C m)
 (k:∀b o,s.heap.get? b=some o->h1.get? b=some o):Inv (B0 X N scope C s H fp) [] (BZ fr Y) H {s with heap:=h1,toks:=tk}:=by
 have hcl:∀y∈scope.names,y.2= .free->∃c,X.env.cells.lookup y.1=some c:=λy hy e=>I.ok.has y.1 (ok.free y hy e)
 have Wj:∀{x:Str} {c:Addr},(GD X.env.cells scope.names []).lookup x=some c->X.env.cells.lookup x=some c:=λ{x c} e=>FO scope.names [] hcl (λy d q=>by simp at q) e
 refine⟨#[I.ok.mod,ok.kind,I.ok.glob,I.ok.blt,hC,λx y c e1 e2=>I.ok.inj x y c (Wj e1) (Wj e2),λx hx=>?_,λx c hf' _=>?_,I.ok.hd,I.ok.frames,.inl rfl,λb hb=>#[?_,λx c e=>?_],I.bs,Nat.le_trans I.ok.Tc I.sz,λb o e hb=>?_,λb hb hs=>?_,I.stack,I.Ec],
  rfl,I.bare,Un.kept k,#[m,hns,λj x v e1 e2 e3=>?_],λx c e=>?_,I.Ao.fresh hC,λx c e=>I.D4 x c (Wj e),λp hp=>?_,I.Ao.kept k,?_⟩
 .obtain⟨y,hy,e1,e2⟩:=Fw (env:=X.env) ok.DT hx;exact Et scope.names [] (.inl #[y,hy,e1,e2])
 .exact absurd hf' (by show ¬(false=true);decide)
 .exact Nat.ne_of_lt (Nat.lt_of_lt_of_le (hfl b hb) hC)
 .exact(hf b hb).2.2.2.2.1 x c (Wj e)
 .rcases(hf b hb).2.2.2.1 with z|z
  .exact I.ok.Pf b o e z
  .exact absurd (Nat.lt_of_lt_of_le (Heap.lt_size e) (Nat.le_trans I.ok.Tc z)) (Nat.lt_irrefl _)
 .rcases mK (I.Hj b hs)with e|e
  .exact(hf b hb).2.1 e
  .exact(hf b hb).2.2.1 e
 .have e2:(fr.map λo=>o.bind λi=>(Y[i]?).join)[j]? =some (some v):=e2;rw[List.getElem?_map]at e2;cases ef:fr[j]? with
  |none=>rw[ef]at e2;cases e2
  |some o=>
    rw[ef]at e2;have e2:(o.bind λi=>(Y[i]?).join)=some v:=Option.some.inj e2;cases o with
    |none=>cases e2
    |some i=>
      have e2:(Y[i]?).join=some v:=e2
      have eY:Y[i]? =some (some v):=by
       cases q:Y[i]? with
       |none=>rw[q]at e2;cases e2
       |some z=>rw[q]at e2;exact congrArg some e2
      obtain⟨x',n1,n2,fx⟩:=ok.Wj j i ef;have:x'=x:=Option.some.inj (n1.symm.trans e1);subst this;have hsc:=ok.free _ (PySem.mem_of_lookup fx) rfl;obtain⟨m0,hn0,hl0⟩:=I.loc;obtain⟨u,r,l⟩:=hl0 i x' v n2 eY (by rcases hsc with z|z;exact .inr (.inl z);exact .inr (.inr z));refine#[u,r,?_];rcases l with⟨q,_⟩|⟨_,c,ec,⟨oc,hoc,hod⟩⟩
      .have q:X.env.scope.names.lookup x'=some .local:=q;rcases hsc with z|z
       .rw[z]at q;cases q
       .rw[z]at q;cases q
      .obtain⟨c',e'⟩:=Et (cells:=X.env.cells) scope.names [] (.inl #[_,PySem.mem_of_lookup fx,rfl,rfl]);have:c'=c:=Option.some.inj ((Wj e').symm.trans ec);subst this;refine .inr #[?_,c',e',oc,k _ _ hoc,hod];rcases BM (env:=X.env) fx with z|z
       .exact .inr z
       .exact .inl z
 .obtain⟨v,oc,hoc,hod⟩:=I.cell x c (Wj e);exact#[v,oc,k _ _ hoc,hod]
 .exact absurd (show p∈([]:Oa)from hp) (by simp)
 .unfold BZ;rw[lM];exact ok.len
theorem Inv.dW{xs:List V}{its:List Value}{n:Nat}(I:Inv X A1 Y H s)(hD:Gn X A1 H D)(hz:xs.length<=sizeLine)(r:Vals xs its)(e:s.heap.get? D=some {cls:=.type "list",data:=.seq its.toArray n}):
 Inv X A1 Y (upd H D (.lst xs)) s:=by
 have hn:=hD.1;have ne:∀b u,H b=some u->b≠D:=λb u q=>AL q hn
 refine I.step (h':=s.heap) (g':=s.gens) (d':=s.drawn) (t':=s.toks) (ch:=[D]) (λb hb=>?_) (λb o _ _ _ q _=>q) (λb o _ _ _ q _=>#[o.slots,q]) (λb o hb _ q=>?_) (λb o _ q=>#[o,q])
  (λb xs q=>by rw[Ab (ne b _ q)];exact q) (λb o u q=>by rw[Ab (ne b _ q)];exact q) (λb ps q=>#[[].toArray,by rw[Ab (ne b _ q),q];simp]) (λm q=>q) (λb u q=>?_) I.bare
 .have:b=D:=by simpa using hb
  subst this;exact#[hD.2.2.2.1,hD.2.1,hD.2.2.2.2.1,hD.2.2.2.2.2]
 .rw[Ab (λz=>hb (by simp[z]))];exact q
 .by_cases hb:b=D
  .subst hb;rw[Ar]at q;cases q;exact#[hz,its,n,r,e]
  .rw[Ab hb]at q;exact(I.Ao b u q).Di (λc v _ z=>z) (λc z=>by rw[Ab (ne c _ z)];exact z) λc xs z=>by rw[Ab (ne c _ z)];exact z
def CompEnd(X:Cx)(A1:Oa)(Y:St)(Q:List V->Hp->Prop)(acc:Value)(C:Addr)(r:Result)(s':Shared):Prop:=
 r= .ok .next/\∃(D:Addr) (H':Hp) (xs:List V),acc= .ref D/\H' D=none/\Inv X A1 Y (upd H' D (.lst xs)) s'/\(∃m,s'.heap.Ns C m)/\Gn X A1 (upd H' D (.lst xs)) C/\Q xs H'
end
variable{prog:Program}{w:World}{A:Around}{R:Result->Shared->Prop}{s:Shared}
end L2
namespace L2
open PySem PySem.Spec PyProof.Rows
section
variable{X:Cx}{tg e:Expr}{pos p p1 p2 p3:Pos}{ta te:TE}
def kK:V->Option Int->Option Int->Hp->VK->Prop:=λx lo hi H Q=>∃y,x= .str y/\y.length<=sizeLine/\Q (.str (Txt.slice y lo hi)) H
theorem Mg:jW X kK:=by
 intro A1 s Y H x v vl vu lo hi sl Q I rx hs pl pu h;obtain⟨y,rfl,hz,q⟩:=h;obtain⟨t,rfl⟩:=rx;refine#["str",_,F.slot_str_getitem.lookup,typeIs_str _ _ _,?_];have fin:∀t' k,EP X A1 Y Q (.str (Txt.slice y lo hi) t') {s with toks:=k}:=λt' k=>#[.str (Txt.slice y lo hi),H,I.tok k,#[t',rfl],q]
 obtain⟨o,h1,h2,h3⟩:=hs;cases pl with
 |none=>
   cases pu with
   |none=>exact wpAny_getItem_str_slice (l:=none) (u:=none) (st:=none) #[o,h1,h2,h3] rfl (post_val_or_str #[Nat.le_trans (Txt.slice_le y _ _) hz,fin])
   |int j u=>exact wpAny_getItem_str_slice (l:=none) (u:=some (j,u)) (st:=none) #[o,h1,h2,h3] rfl (post_val_or_str #[Nat.le_trans (Txt.slice_le y _ _) hz,fin])
 |int i u=>
   cases pu with
   |none=>exact wpAny_getItem_str_slice (l:=some (i,u)) (u:=none) (st:=none) #[o,h1,h2,h3] rfl (post_val_or_str #[Nat.le_trans (Txt.slice_le y _ _) hz,fin])
   |int j u'=>exact wpAny_getItem_str_slice (l:=some (i,u)) (u:=some (j,u')) (st:=none) #[o,h1,h2,h3] rfl (post_val_or_str #[Nat.le_trans (Txt.slice_le y _ _) hz,fin])
theorem LI(hc:X.calm=true):Bc X (.builtin "all") (λxs H Q=>∃(l:Addr) (bs:List Bool),xs=[.ref l]/\Fd X.K H l (bs.map V.bl)/\Q (.bl (bs.all id)) H):=by
 intro A1 s Y H xs us Q I r h;obtain⟨l,bs,rfl,hq,q⟩:=h;obtain⟨u,rfl,ru⟩:=vals1 r;cases ru;obtain⟨its,rv,pl,hz⟩:=I.list hq;have hlen:=rv.length;rw[lM]at hlen;refine call_all_walk (wpAny_pyIter_list pl.isList ?_);have lt:l<s.heap.objs.size:=Heap.lt_size pl.isList.choose_spec.1;refine#[_,_,_,_,_,_,λi=>(bs[i]?).getD true,rfl,Walks.list (A:=X.A.in1) (show X.A.in1.handled=none from I.ok.hd hc) _ l (Nat.ne_of_lt lt) its.toArray,#[#[_,Heap.get?_push_size _ rfl,rfl,rfl],pl.isList.at λo e=>gP e],?_,λh' tk hk=>?_]
 .intro i v s' Q' E' hP hQ;have hP:its.toArray[i]? =some v:=hP;rw[List.getElem?_toArray]at hP
  have hi:i<bs.length:=by
   have:=(List.getElem?_eq_some_iff.mp hP).1
   lia
  have hb:(bs.map V.bl)[i]? =some (.bl bs[i]):=by rw[List.getElem?_map,List.getElem?_eq_getElem hi];rfl
  obtain⟨u,hu,ru⟩:=rv.get hb;have:u=v:=Option.some.inj (hu.symm.trans hP);subst this;cases ru;refine wpAny_truthy_bool ?_;have e:(bs[i]?).getD true=bs[i]:=by rw[List.getElem?_eq_getElem hi];rfl
  have hQ:Q' ((bs[i]?).getD true) s':=hQ;rw[e]at hQ;exact hQ
 .have e:(List.range its.toArray.size).all (λi=>(bs[i]?).getD true)=bs.all id:=by
   rw[size_toArray,<-hlen];rw[Bool.eq_iff_iff,all_eq_true,all_eq_true];constructor
   .intro h b hb;obtain⟨i,hi,e⟩:=List.mem_iff_getElem.mp hb;have:=h i (mem_range.mpr hi);rw[List.getElem?_eq_getElem hi,e]at this;exact this
   .intro h i hi;have hi:=mem_range.mp hi;have:=h bs[i] (getElem_mem hi);rw[List.getElem?_eq_getElem hi];exact this
  have ee:EP X A1 Y Q (.bool (bs.all id)) {s with heap:=h',toks:=tk}:=by
   refine#[.bl (bs.all id),H,I.kept (t':=tk) λb o e=>hk b o (λz=>?_) (gP e),rfl,q];exact absurd (Heap.lt_size e) (by rw[mE z];exact Nat.lt_irrefl _)
  rw[e];exact ee
end
variable{g:TG}{te:TE}{Y:St}{H:Hp}{Q:List V->Hp->Prop}{K:PySem.W.Frag}{a:Addr}{xs:List V}
end L2
namespace L2
open PySem PySem.Spec PyProof.Rows
section
variable{X:Cx}{tg e:Expr}{pos p p1 p2 p3:Pos}{ta te:TE}
def nT(y:Str):It:=#[λi _=>i<y.length,λi H x H'=>H'=H/\∃c,y.cps[i]? =some c/\x= .str #[[c].toArray],λi _=>y.length<=i]
variable{w:World}
theorem Qt{P:Program}{K:PySem.W.Frag}{tg:Expr}(it:Addr)(y:Str)(t:Tok):Turn P w K tg (nT y) [it] it (λi h=>h.IsStrIter it "str_ascii_iterator" y t i) where
 mem:=by simp
 obj:=λi h st b hb=>by
  have e:b=it:=by simpa using hb
  subst e;obtain⟨o,e,c,d⟩:=st;exact#[o,e,λv z=>by rw[d]at z;cases z]
 keep:=λi h h' st k=>by
  obtain⟨o,e,r⟩:=st;exact#[o,k it (by simp) o e,r]
 item:=by
  intro X hP hw hK hc i A1 s Y H E I hf st hg;subst hP hw hK;have hg:i<y.cps.size:=hg;obtain⟨f0,f1,f2,f3,f4,f5⟩:=hf it (by simp);refine wpAny_pyNext_ascii_item st (c:=y.cps[i]) (Array.getElem?_eq_getElem hg) λh' st' sb=>?_
  have I1:Inv X A1 Y H {s with heap:=h',toks:=s.toks+1}:=I.turned (λb o hb e=>(sb.2 b hb).trans e) f0 f1 f3 f4 f5;obtain⟨o,e,c,d⟩:=id st';exact#[_,rfl,Lu (s:={s with heap:=h',toks:=s.toks+1}) e c d (by decide) #[.str #[[y.cps[i]].toArray],H,I1,#[_,rfl],#[rfl,_,Array.getElem?_eq_getElem hg,rfl],st',λb hb=>(hf b hb).1]]
 done:=by
  intro X hP hw hK hc i A1 s Y H E I hf st hg;subst hP hw hK;have hg:y.cps.size<=i:=hg;obtain⟨f0,f1,f2,f3,f4,f5⟩:=hf it (by simp);exact wpAny_pyNext_ascii_end (I.ok.hd hc) st (Array.getElem?_eq_none hg) λh' eb=>#[rfl,I.turned (t':=s.toks) (λb o hb e=>eb b o hb e) f0 f1 f3 f4 f5]
 self:=λA i s Q E st h=>by
  refine wpAny_pyIter_slot st.typeIs PySem.F.slot_str_ascii_iterator_iter (wpAny_call_entry PySem.F.slot_str_ascii_iterator_iter st.typeIs PySem.F.entry_str_ascii_iterator_iter ?_ (PySem.F.args_str_ascii_iterator_iter_1 _));show wpAny _ _ (ret (.ref it)) _ _ s;exact wP #[_,rfl,"str_ascii_iterator",_,st.typeIs,PySem.F.slot_str_ascii_iterator_next.lookup,h]
theorem Pb:Cb X (compareOp .LtE) (λx y H Q=>∃i j,x= .str i/\y= .str j/\Q (.bl (!decide (j.cps.toList<i.cps.toList))) H):=by
 intro A1 s Y H x y v u Q I rx ry h;obtain⟨i,j,rfl,rfl,q⟩:=h;obtain⟨t,rfl⟩:=rx;obtain⟨t',rfl⟩:=ry;exact PySem.P.le_str (N2 I q rfl)
def mY(lo c:Int)(n:Nat):It:=#[λi _=>i<n,λi H x H'=>H'=H/\x= .int (lo+i*c),λi _=>n<=i]
theorem Kz{P:Program}{K:PySem.W.Frag}{tg:Expr}(it:Addr)(lo c:Int)(n:Nat):Turn P w K tg (mY lo c n) [it] it (λi h=>IsRangeIter h it (lo+(i:Nat)*c) ((n:Int)-(i:Nat)) c) where
 mem:=by simp
 obj :=λi h st b hb=>by
  have e:b=it:=by simpa using hb
  subst e
  exact⟨_,st,λv z=>by
   have z':Data.fields _=Data.cell v:=z
   cases z'⟩
 keep:=λi h h' st k=>k it (by simp) _ st
 item:=by
  intro X hP hw hK hc i A1 s Y H E I hf st hg;subst hP hw hK;obtain⟨f0,f1,f2,f3,f4,f5⟩:=hf it (by simp);have W:=Walks.range (prog:=X.prog) (w:=X.w) (I.ok.hd hc) it lo c n;refine W.item i s _ _ hg st λv h' tk hv st' kk=>?_
  obtain⟨t,rfl⟩:=hv;have I1:Inv X A1 Y H {s with heap:=h',toks:=tk}:=I.turned (λb o hb e=>kk b o (by simpa using hb) e) f0 f1 f3 f4 f5;exact#[_,rfl,Lu (s:={s with heap:=h',toks:=tk}) (n:="range_iterator") st' rfl rfl (by decide) #[.int (lo+i*c),H,I1,#[t,rfl],#[rfl,rfl],st',λb hb=>(hf b hb).1]]
 done:=by
  intro X hP hw hK hc i A1 s Y H E I hf st hg;subst hP hw hK;obtain⟨f0,f1,f2,f3,f4,f5⟩:=hf it (by simp);exact wpAny_pyNext_range_end (I.ok.hd hc) st (by have:n<=i:=hg;lia) λh' eb=>#[rfl,I.turned (t':=s.toks) (λb o hb e=>eb b o hb e) f0 f1 f3 f4 f5]
 self:=λ_ _ _ _ _ st h=>wpAny_pyIter_rangeiter st h
def gG(ta:TA):TI:=λY H R=>ta Y H λvs H1=>∃(i j k:Int) (n:Nat),vs=[.int i,.int j,.int k]/\0<k/\k<1000000/\Builtin.Range.small i j k=true/\Builtin.Range.rangeSize i j k=n/\R (mY i k n) H1
theorem P7{a b c:Expr}{ta:TA}{p pos:Pos}(hg:Gl X "range")(hm:X.mg "range"=none)(ha:PA X [a,b,c] ta)(hs:starEach [a,b,c] X.env=[(false,eval a X.env),(false,eval b X.env),(false,eval c X.env)]:=by rfl)
 (hs2:starEach [b,c] X.env=[(false,eval b X.env),(false,eval c X.env)]:=by rfl):PI X tg (.Call (.Name "range" p) [a,b,c] [] pos) (gG ta):=by
 intro A1 s Y H R I h;refine Call_ (HI I hg hm boot_range (PyProof.Rows.callWith_type1 (B2 (ha pos A1 s Y H _ I h) λus s1 ⟨vs,H1,I1,r1,q1⟩=>?_) (by rw[hs,hs2]) (by rw[hs2];rfl)));obtain⟨i,j,k,n,e,q1,q2,q3,q4,q⟩:=q1;subst e;cases r1 with
 |cons r rr=>
   cases rr with
   |cons r' rr=>
     cases rr with
     |cons r'' rr=>
       cases rr;obtain⟨t,rfl⟩:=r;obtain⟨t',rfl⟩:=r';obtain⟨t'',rfl⟩:=r'';refine call_range_3 (by lia) ?_ (.inl (PyProof.noPylong_small (by lia)));have I2:Inv X A1 Y H1 {s1 with heap:=s1.heap.push {cls:=.type "range",data:=.fields [.int i t,.int j t',.int k t''].toArray}}:=I1.kept (t':=s1.toks) λb o e=>gP e
       refine wpAny_pyIter_range (IsRange.new ..) q3 ?_;refine#[_,[(s1.heap.push {cls:=.type "range",data:=.fields [.int i t,.int j t',.int k t''].toArray}).objs.size],_,_,H1,rfl,I2.kept (t':=s1.toks) λb o e=>gP e,Kz _ i k n,?_,λb hb=>?_,q]
       .show IsRangeIter _ _ (i+((0:Nat):Int)*k) ((n:Int)-((0:Nat):Int)) k;rw[show i+((0:Nat):Int)*k=i by simp,show(n:Int)-((0:Nat):Int)=Builtin.Range.rangeSize i j k by rw[q4];simp];exact Heap.get?_push_size _ rfl
       .have e:b=(s1.heap.push {cls:=.type "range",data:=.fields [.int i t,.int j t',.int k t''].toArray}).objs.size:=by simpa using hb
        subst e;exact I2.Sw (lR) (I2.Ao.fresh (lR))
end
end L2
namespace Kd
open PySem L2
def dd(ks:List Int)(n:Int):List Int:=if n∈ks then ks else ks++[n]
end Kd
namespace Iv
open PySem
inductive P where
 |Az|bl (b:Bool)|int (i:Int)|str (x:Str)|tup (ps:List P)|fn (i:Nat)|box (t:Nat)(ps:List P)
 deriving Inhabited
instance:DecidableEq P:=λ_ _=>Classical.propDecidable _
mutual
def P.depth:P->Nat
 |.tup ps=>P.SO ps+1
 |_=>0
def P.SO:List P->Nat
 |[]=>0
 |p::ps=>max p.depth (P.SO ps)
end
inductive B where
 |p (x:P)|lst (ps:List P)|ro (ps:List P)
instance:DecidableEq B:=λ_ _=>Classical.propDecidable _
instance:DecidableEq B:=λ_ _=>Classical.propDecidable _
inductive C where
 |b (x:B)|obj (c:Nat)(fs:List (Str×B))
instance:DecidableEq C:=λ_ _=>Classical.propDecidable _
instance:DecidableEq C:=λ_ _=>Classical.propDecidable _
abbrev C.p(x:P):C:=.b (.p x)
abbrev C.lst(x:List P):C:=.b (.lst x)
def C.cp:C->Bool
 |.b (.p _)=>true
 |.b (.ro _)=>true
 |_=>false
def C.nf:C->C
 |.b (.ro ps)=>.b (.lst ps)
 |c=>c
abbrev Env:=List (Option C)
inductive Res(α:Type) where
 |A2|ok (a:α)(U:Env)|err (x:Nat)(p:P)(U:Env)
namespace Res
variable{α β:Type}
def bind(r:Res α)(f:α->Env->Res β):Res β:=match r with
 |.A2=>.A2
 |.ok a U=>f a U
 |.err x p U=>.err x p U
@[simp] theorem bV (f:α->Env->Res β):(Res.A2:Res α).bind f= .A2:=rfl
@[simp] theorem A5 (a:α) (U:Env) (f:α->Env->Res β):(Res.ok a U).bind f=f a U:=rfl
@[simp] theorem iD (x:Nat) (p:P) (U:Env) (f:α->Env->Res β):(Res.err x p U:Res α).bind f= .err x p U:=rfl
def of(o:Option α)(U:Env):Res α:=match o with
 |some a=>.ok a U
 |none=>.A2
@[simp] theorem NR (a:α) (U:Env):of (some a) U= .ok a U:=rfl
@[simp] theorem of_none (U:Env):of (none:Option α) U= .A2:=rfl
end Res
inductive CR where
 |A2|ok (c:C)(outs:List (Option C))|err (x:Nat)(p:P)
inductive Ty where
 |int|bool|str|tuple|cls (cs:List Nat)
inductive IK where
 |op|Co
inductive O where
 |add|sub|mul|mod|fdiv|pow|band|shr|neg
 |eq|ne|lt|le|gt|ge|is|Uy|dw|Qc|chain (a b:O)
 |idx|Cm (lo hi:Bool)
 |len|F0 (t:Ty)|list (k:IK)|tuple (k:IK)|dict (k:IK)|min|max|sum|all|any|sorted|abs|str|int|DB
 |join (sep:Str)|upper|lP|index|iter (k:IK)|Lo|id|sw
inductive MO where
 |append|extend|pop|nE|clear|reverse|insert|update
inductive Tg where
 |nm (i:Nat)|tup (is:List Nat)
def Tg.slots:Tg->List Nat
 |.nm i=>[i]
 |.tup is=>is
inductive T where
 |An (p:P)|A3 (i:Nat)|Aw (i:Nat)(f:Str)
 |tup (ts:List T)|lst (ts:List T)|E4 (ts:List T)
 |A0 (o:O)(ts:List T)|Ey (m:MO)(o:T)(ts:List T)
 |and (a b:T)|or (a b:T)|not (a:T)
 |call (f:Nat)(ts:List T)|Al (m:Str)(o:T)(ts:List T)|make (c:Nat)(ts:List T)|Fc (i:Nat)(ts:List T)|Cy (i:Nat)|Dp (m:Str)(i l:Nat)(Cr:Option Nat)
 |comp (g:Tg)(k:IK)(its:List T)(cond:List T)(elt:T)(fr:List (Option Nat))
def O.same:O->O->Bool
 |.add,.add=>true
 |_,_=>false
def P.same:P->P->Bool
 |.int i,.int j=>decide (i=j)
 |_,_=>false
mutual
noncomputable def T.same:T->T->Bool
 |.An p,u=>(match u with| .An q=>P.same p q|_=>false)
 |.A3 i,u=>(match u with| .A3 j=>decide (i=j)|_=>false)
 |.A0 o ts,u=>(match u with| .A0 p us=>O.same o p&&T.Gr ts us|_=>false)
 |.call f ts,u=>(match u with| .call g us=>decide (f=g)&&T.Gr ts us|_=>false)
 |.Al m o ts,u=>(match u with| .Al n p us=>decide (m=n)&&T.same o p&&T.Gr ts us|_=>false)
 |_,_=>false
noncomputable def T.Gr:List T->List T->Bool
 |[],us=>us.isEmpty
 |t::ts,us=>(match us with|u::us=>T.same t u&&T.Gr ts us|[]=>false)
end
inductive S where
 |asg (g:Tg)(t:T)|Hr (i:Nat)(f:Str)(v:T)|expr (t:T)
 |ret (t:Option T)|ifs (c:T)(a b:List S)|M3 (c:T)(b:List S)|C3 (g:Tg)(k:IK)(its:List T)(b:List S)
 |pass|raise (x:Nat)|UA (i f:Nat)(ts:List T)(c g e:Nat)
def IK.ok(_:IK):Bool:=true
noncomputable def O.ok:O->Bool
 |.iter _=>false
 |.Lo=>false
 |.band=>false
 |.shr=>false
 |.upper=>false
 |.index=>false
 |.any=>false
 |.dict _=>false
 |.list .op=>true
 |.sorted=>true
 |.lP=>false
 |.list _=>false
 |.tuple .op=>true
 |.tuple _=>false
 |.F0 (.cls _)=>false
 |_=>true
def MO.ok:MO->Bool
 |.append=>true
 |.extend=>true
 |.pop=>true
 |.clear=>true
 |.reverse=>true
 |_=>false
def big:Nat:=100000
def B.pure:B->Option P
 |.p x=>some x
 |_=>none
def C.pure:C->Option P
 |.b (.p x)=>some x
 |_=>none
noncomputable def my:P->P->Bool
 |.bl _,.int _=>false
 |.int _,.bl _=>false
 |.fn _,_=>false
 |.box _ _,_=>false
 |_,.fn _=>false
 |_,.box _ _=>false
 |_,_=>true
mutual
def mx:P->P->Bool
 |.tup a,.tup b=>Yy a b
 |a,b=>my a b
def Yy:List P->List P->Bool
 |x::a,y::b=>mx x y&&Yy a b
 |_,_=>true
end
noncomputable def DM:P->P->Option Bool
 |.int i,.int j=>some (decide (i=j))
 |.str i,.str j=>some (decide (i=j))
 |_,_=>none
mutual
def gJ:P->Bool
 |.int _=>true
 |.str _=>true
 |.tup ps=>Sl ps
 |_=>false
def Sl:List P->Bool
 |[]=>true
 |p::ps=>gJ p&&Sl ps
end
noncomputable def Ln(n:Nat)(i:Int):Option Nat:=if 0<=i then(if i<n then some i.toNat else none)else(if -(n:Int)<=i then some (i+n).toNat else none)
noncomputable def N8(n d:Nat):Option Int->Nat
 |none=>d
 |some v=>if v<0 then(v+n).toNat else min v.toNat n
noncomputable def cut{α:Type}(xs:List α)(lo hi:Option Int):List α:=(xs.drop (N8 xs.length 0 lo)).take (N8 xs.length xs.length hi-N8 xs.length 0 lo)
def sign(c:Nat):P:=.str #[[c].toArray]
def signs(x:Str):List P:=x.cps.toList.map sign
def Aq(lo hi:Int):List P:=(List.range (hi-lo).toNat).map λk=>.int (lo+(k:Nat))
noncomputable def F9:List P->Option (List Bool)
 |[]=>some []
 |.bl i::r=>(F9 r).map (i::·)
 |_::_=>none
noncomputable def Bw:List P->Option (List Str)
 |[]=>some []
 |.str i::r=>(Bw r).map (i::·)
 |_::_=>none
noncomputable def DZ(t:Ty)(c:C):Option Bool:=match t,c with
 |.int,.b (.p (.int _))=>some true
 |.int,.b (.p (.bl _))=>some true
 |.bool,.b (.p (.bl _))=>some true
 |.str,.b (.p (.str _))=>some true
 |.tuple,.b (.p (.tup _))=>some true
 |.cls cs,.obj c _=>some (cs.contains c)
 |_,.obj _ _=>none
 |_,.b (.p (.fn _))=>none
 |.str,.b (.p (.box 0 _))=>some false
 |_,.b (.p (.box _ _))=>none
 |.cls _,_=>none
 |_,.b (.p _)=>some false
 |_,_=>none
def Ky{α:Type}(xs:List α):Option (List α):=if xs.length<=big then some xs else none
noncomputable def LS:C->C->Option C
 |.b (.p (.int i)),.b (.p (.int j))=>some (.p (.int (i+j)))
 |.b (.p (.str i)),.b (.p (.str j))=>if i.length+j.length<=big then some (.p (.str (i++j)))else none
 |.b (.p (.tup i)),.b (.p (.tup j))=>if i.isEmpty then none else(Ky (i++j)).map λz=>.p (.tup z)
 |.b (.lst i),.b (.lst j)=>(Ky (i++j)).map λz=>.lst z
 |_,_=>none
def jq:P->P->Option Bool
 |.int i,.int j=>some (decide (i<j))
 |_,_=>none
noncomputable def gx:P->P->Option Bool
 |.int i,.int j=>some (decide (i<=j))
 |.str i,.str j=>some (decide (i.cps.toList<=j.cps.toList))
 |_,_=>none
noncomputable def Qg:C->C->Option Bool
 |.b (.p a),.b (.p b)=>DM a b
 |.b (.lst a),.b (.lst [])=>some a.isEmpty
 |_,_=>none
noncomputable def memC(x:Str)(c:C):Option Bool:=match c with
 |.b (.lst ps)=>(Bw ps).map λxs=>xs.contains x
 |_=>none
noncomputable def Cj(o:O)(a b:C):Option Bool:=match o with
 |.eq=>Qg a b
 |.ne=>(Qg a b).map (!·)
 |.lt=>match a,b with| .b (.p x),.b (.p y)=>jq x y|_,_=>none
 |.gt=>match a,b with| .b (.p x),.b (.p y)=>jq y x|_,_=>none
 |.le=>match a,b with| .b (.p x),.b (.p y)=>gx x y|_,_=>none
 |.ge=>match a,b with| .b (.p (.int x)),.b (.p (.int y))=>some (decide (y<=x))|_,_=>none
 |.Qc=>match a with| .b (.p (.str x))=>(memC x b).map (!·)|_=>none
 |.Uy=>match b with| .b (.p .Az)=>some (!decide (a= .p .Az))|_=>none
 |_=>none
noncomputable def CP(c i:C):Option C:=match c.nf,i with
 |.b (.lst ps),.b (.p (.int i))=>(Ln ps.length i).bind λk=>(ps[k]?).map λx=>.p x
 |.b (.p (.tup ps)),.b (.p (.int i))=>(Ln ps.length i).bind λk=>(ps[k]?).map λx=>.p x
 |.b (.p (.str x)),.b (.p (.int i))=>if x.length<=big then(Ln x.length i).bind λk=>(x.cps.toList[k]?).map λc=>.p (sign c)else none
 |_,_=>none
noncomputable def D7(x:Str)(lo hi:Option Int):Option Str:=match lo,hi with
 |none,some j=>if 0<=j/\j<=x.length/\x.length<=big then some #[(x.cps.toList.take j.toNat).toArray]else none
 |some i,none=>if 0<=i/\x.length<=big then some #[(x.cps.toList.drop i.toNat).toArray]else none
 |some i,some j=>if 0<=i/\i<=j/\j<=x.length/\x.length<=big then some #[((x.cps.toList.drop i.toNat).take (j-i).toNat).toArray]else none
 |_,_=>none
def CI(x:C)(lo hi:Option Int):Option C:=match x.nf with
 |.b (.lst ps)=>some (.lst (cut ps lo hi))
 |.b (.p (.str x))=>(D7 x lo hi).map λy=>.p (.str y)
 |_=>none
noncomputable def QW(c:C):Option (List P):=match c.nf with
 |.b (.lst ps)=>some ps
 |.b (.p (.tup ps))=>some ps
 |.b (.p (.str x))=>if x.length<=big/\x.cps.all (λc=>decide (c<128))=true then some (signs x)else none
 |_=>none
noncomputable def OU(c:C):Option (List P):=match c.nf with
 |.b (.lst ps)=>some ps
 |.b (.p (.tup ps))=>some ps
 |_=>none
noncomputable def DO(c:C):Option (List P):=match c.nf with
 |.b (.lst ps)=>some ps
 |.b (.p (.tup ps))=>some ps
 |_=>none
def kx:C->Option (List P)
 |.b (.p (.tup ps))=>some ps
 |_=>none
noncomputable def B5(k:IK)(cs:List C):Option (List P):=match k,cs with
 |.op,[c]=>QW c
 |.Co,[.b (.p (.int n))]=>if n.natAbs<2^61 then some (Aq 0 n)else none
 |.Co,[.b (.p (.int a)),.b (.p (.int n)),.b (.p (.int s))]=>if 0<s/\s<1000000/\a.natAbs<2^61/\n.natAbs<2^61 then some ((List.range ((n-a+s-1)/s).toNat).map λk=>.int (a+s*(k:Nat)))else none
 |_,_=>none
noncomputable def JZ(c:C):Option C:=match c.nf with
 |.b (.lst ps)=>some (.p (.int ps.length))
 |.b (.p (.tup ps))=>some (.p (.int ps.length))
 |.b (.p (.str x))=>if x.length<=big then some (.p (.int x.length))else none
 |_=>none
noncomputable def AB:List Str->Nat
 |[]=>0
 |x::r=>if r.contains x then AB r else AB r+1
noncomputable def Lm(sep:Str)(xs:List Str):Str:=#[(xs.drop 1).foldl (λacc p=>acc++sep.cps++p.cps) (xs.headD #[[].toArray]).cps]
noncomputable def E1(f:Int->Int->Option Int):C->C->Option C
 |.b (.p (.int i)),.b (.p (.int j))=>(f i j).map λk=>.p (.int k)
 |_,_=>none
def eK(i j:Int):Option Int:=some (i-j)
noncomputable def RN(i j:Int):Option Int:=if(-(2^64)<i/\i<2^64)\/(-(2^64)<j/\j<2^64)then some (i*j)else none
def Pp(i j:Int):Option Int:=if 0<j then some (i%j)else none
noncomputable def Jc(i j:Int):Option Int:=if 0<j/\j<1073741824 then some (i/j)else none
noncomputable def P5(i j:Int):Option Int:=if 0<=j/\j<=1000/\i.natAbs<2^64 then some (i^j.toNat)else none
def gj(i j:Int):Option Int:=some (if j<i then j else i)
noncomputable def mulC(a b:C):Option C:=match a,b with
 |.b (.p (.str x)),.b (.p (.int j))=>if x.length=1/\2<=j/\j<=1000 then some (.p (.str #[(List.replicate j.toNat x.cps).foldl (·++·) [].toArray]))else none
 |a,b=>E1 RN a b
noncomputable def F3(f:Int->Option P):C->Option C
 |.b (.p (.int i))=>(f i).map λk=>.p k
 |_=>none
def ah(i:Int):Option P:=some (.int (-i))
def TK(i:Int):Option P:=some (.int (if i<0 then -i else i))
noncomputable def QF(i:Int):Option P:=if i.natAbs.log2<1920 then some (.str (toString i))else none
def BO(l:List Nat):Nat:=l.foldl (λn c=>n*10+(c-48)) 0
noncomputable def Se:C->Option C
 |.b (.p (.int i))=>some (.p (.int i))
 |.b (.p (.str x))=>if x.cps.toList.all (λc=>decide (48<=c/\c<=57))&&decide (0<x.length/\x.length<=640)then some (.p (.int (BO x.cps.toList:Nat)))else none
 |.b (.p (.bl b))=>some (.p (.int (if b then 1 else 0)))
 |_=>none
def gr(f:List P->Option C)(c:C):Option C:=match c.nf with
 |.b (.lst ps)=>f ps
 |_=>none
noncomputable def Ih:C->Option C:=gr λps=>(F9 ps).map λns=>.p (.bl (ns.all id))
def C5(o1 o2:O)(a b c:C):Option C:=(Cj o1 a b).bind λx=>if x then(Cj o2 b c).map λy=>.p (.bl y)else some (.p (.bl false))
def EF:C->Option Int
 |.b (.p (.int i))=>some i
 |_=>none
noncomputable def En(c:C):Option C:=((kx c).bind Bw).bind λxs=>if xs.length<4000 then some (.p (.int (AB xs)))else none
noncomputable def HM(sep:Str)(c:C):Option C:=((DO c).bind Bw).bind λxs=>if(xs.map (·.length)).sum+xs.length*sep.length<=big then some (.p (.str (Lm sep xs)))else none
def o9:C->Option C
 |.b (.p x)=>some (.p x)
 |_=>none
noncomputable def du:C->C->C->Option C
 |.b (.p (.str x)),.b (.p (.str y)),.b (.p (.int i))=>if 0<=i/\i<=x.length then some (.p (.bl (decide ((x.cps.toList.drop i.toNat).take y.length=y.cps.toList))))else none
 |_,_,_=>none
noncomputable def Ax(o:O)(cs:List C):Option C:=match o,cs with
 |.add,[a,b]=>LS a b
 |.sub,[a,b]=>E1 eK a b
 |.mul,[a,b]=>mulC a b
 |.mod,[a,b]=>E1 Pp a b
 |.fdiv,[a,b]=>E1 Jc a b
 |.pow,[a,b]=>E1 P5 a b
 |.neg,[a]=>F3 ah a
 |.chain o1 o2,[a,b,c]=>C5 o1 o2 a b c
 |.idx,[a,i]=>CP a i
 |.Cm false false,[a]=>CI a none none
 |.Cm true false,[a,i]=>(EF i).bind λi=>CI a (some i) none
 |.Cm false true,[a,j]=>(EF j).bind λj=>CI a none (some j)
 |.Cm true true,[a,i,j]=>(EF i).bind λi=>(EF j).bind λj=>CI a (some i) (some j)
 |.len,[c]=>JZ c
 |.F0 t,[c]=>(DZ t c).map λb=>.p (.bl b)
 |.list .op,[c]=>(OU c).map .lst
 |.tuple .op,[c]=>(DO c).map λx=>.p (.tup x)
 |.min,[a,b]=>E1 gj a b
 |.all,[c]=>Ih c
 |.abs,[a]=>F3 TK a
 |.DB,[c]=>En c
 |.str,[a]=>F3 QF a
 |.int,[c]=>Se c
 |.join sep,[c]=>HM sep c
 |.id,[c]=>o9 c
 |.sw,[x,y,i]=>du x y i
 |.eq,[a,b]=>(Cj .eq a b).map λx=>.p (.bl x)
 |.ne,[a,b]=>(Cj .ne a b).map λx=>.p (.bl x)
 |.lt,[a,b]=>(Cj .lt a b).map λx=>.p (.bl x)
 |.le,[a,b]=>(Cj .le a b).map λx=>.p (.bl x)
 |.gt,[a,b]=>(Cj .gt a b).map λx=>.p (.bl x)
 |.ge,[a,b]=>(Cj .ge a b).map λx=>.p (.bl x)
 |.is,[a,b]=>(Cj .is a b).map λx=>.p (.bl x)
 |.Uy,[a,b]=>(Cj .Uy a b).map λx=>.p (.bl x)
 |.dw,[a,b]=>(Cj .dw a b).map λx=>.p (.bl x)
 |.Qc,[a,b]=>(Cj .Qc a b).map λx=>.p (.bl x)
 |_,_=>none
noncomputable def D3(ps:List P):List C->Option (C×B)
 |[.b (.p x)]=>if ps.length<big then some (.p .Az,.lst (ps++[x]))else none
 |_=>none
noncomputable def FE(ps:List P):List C->Option (C×B)
 |[.b (.lst xs)]=>if ps.length+xs.length<=big then some (.p .Az,.lst (ps++xs))else none
 |_=>none
noncomputable def MC(ps:List P):List C->Option (C×B)
 |[]=>(ps.getLast?).map λx=>(.p x,.lst ps.dropLast)
 |_=>none
noncomputable def Fp(m:MO)(b:B)(cs:List C):Option (C×B):=match b with
 | .lst ps=>(match m with
   |.append=>D3 ps cs
   |.extend=>FE ps cs
   |.pop=>MC ps cs
   |_=>none)
 |_=>none
noncomputable def Cz(c:C):Option Bool:=match c.nf with
 |.b (.p .Az)=>some false
 |.b (.p (.bl b))=>some b
 |.b (.p (.int i))=>some (i != 0)
 |.b (.p (.str x))=>if x.length<=big then some (x.length != 0)else none
 |.b (.p (.tup ps))=>some (!ps.isEmpty)
 |.b (.lst ps)=>some (!ps.isEmpty)
 |_=>none
inductive Hd where
 |AN (c:C)|A4 (i:Nat)|Aw (i:Nat)(f:Str)
def A8(U:Env)(i:Nat):Option C:=(U[i]?).join
noncomputable def BD(U:Env)(i:Nat)(f:Str):Option C:=match A8 U i with
 |some (.obj _ fs)=>(fs.lookup f).map .b
 |_=>none
noncomputable def Hd.cont(U:Env):Hd->Option C
 |.AN c=>some c
 |.A4 i=>A8 U i
 |.Aw i f=>BD U i f
noncomputable def Ag(U:Env):List Hd->Option (List C)
 |[]=>some []
 |h::hs=>(h.cont U).bind λc=>(Ag U hs).map (c::·)
def FU:P->Bool
 |.tup _=>false
 |.fn _=>false
 |.box _ _=>false
 |_=>true
def T.calm:T->Bool
 |.An p=>FU p
 |.A3 _=>true
 |.Aw _ _=>true
 |_=>false
noncomputable def Bq(f:Str)(b:B):List (Str×B)->List (Str×B)
 |[]=>[(f,b)]
 |(g,c)::r=>if g=f then(g,b)::r else(g,c)::Bq f b r
noncomputable def setB(U:Env)(h:Hd)(b:B):Option Env:=match h with
 |.A4 i=>some (U.set i (some (.b b)))
 | .Aw i f=>match A8 U i with
   |some (.obj c fs)=>some (U.set i (some (.obj c (Bq f b fs))))
   |_=>none
 |.AN _=>none
def BY(hs:List Hd)(cs:List C):List Nat:=(hs.zip cs).filterMap λq=>if q.2.cp then none else match q.1 with
 |.A4 i=>some i
 |.Aw i _=>some i
 |.AN _=>none
noncomputable def back(U:Env):List Hd->List C->List (Option C)->Option Env
 |.A4 i::hs,c::cs,o::os=>if c.cp then back U hs cs os else back (U.set i o) hs cs os
 |.Aw _ _::hs,c::cs,_::os=>if c.cp then back U hs cs os else none
 |.AN _::hs,_::cs,_::os=>back U hs cs os
 |[],[],_=>some U
 |_,_,_=>none
abbrev CF:=Nat->List C->CR
structure MT where
 m:Nat->Str->Option Nat
 f:Nat->Str->Bool
 rs:Bool
 tf:Nat->Bool
def Bh(hs:List Hd)(cs:List C):List (Nat×C):=(hs.zip cs).filterMap λq=>if q.2.cp then none else match q.1 with
 |.A4 i=>some (i,q.2)
 |_=>none
def AD(hs:List Hd)(cs:List C):Bool:=(hs.zip cs).all λq=>q.2.cp||match q.1 with
 |.Aw _ _=>false
 |_=>true
def lend(U:Env)(hs:List Hd)(cs:List C):Env:=(BY hs cs).foldl (λr i=>r.set i none) U
noncomputable def AK(cf:CF)(f:Nat)(hs:List Hd)(U:Env):Res C:=match Ag U hs with
 |none=>.A2
 | some cs=>if(BY hs cs).Nodup/\AD hs cs=true then
    match cf f cs with
    |.A2=>.A2
    |.ok c outs=>(Res.of (back (lend U hs cs) hs cs outs) U).bind λU' _=>.ok c U'
    |.err x p=>.err x p (lend U hs cs)
   else .A2
def holds(gs:List (Nat×C))(U:Env):Bool:=gs.all λq=>decide (A8 U q.1=some q.2)
noncomputable def Ew(g:Tg)(v:P)(U:Env):Option Env:=match g,v with
 |.nm i,v=>some (U.set i (some (.p v)))
 |.tup is,.tup vs=>if is.length=vs.length then some ((is.zip vs).foldl (λr q=>r.set q.1 (some (.p q.2))) U)else none
 |_,_=>none
def BL(fr:List (Option Nat))(U:Env):Env:=fr.map λo=>o.bind λi=>A8 U i
noncomputable def AQ(U:Env):List (Option Nat)->Env->Env
 |some i::fr,c::β=>AQ (U.set i c) fr β
 |none::fr,_::β=>AQ U fr β
 |_,_=>U
noncomputable def Cw(g:Tg)(gs:List (Nat×C))(cond:Env->Res Bool)(elt:Env->Res C):List P->List P->Env->Res (List P)
 |[],acc,β=>if holds gs β then .ok acc β else .A2
 | x ::xs,acc,β=>if holds gs β then(Res.of (Ew g x β) β).bind λβ1 _=>(cond β1).bind λb β2=>if b then(elt β2).bind λc β3=>match c with
     |.b (.p y)=>Cw g gs cond elt xs (acc++[y]) β3
     |_=>.A2
   else Cw g gs cond elt xs acc β2
   else .A2
def inner(fr:List (Option Nat))(i:Nat):Option Nat:=fr.findIdx? λo=>o==some i
def D1(fr:List (Option Nat))(U:Env):Env:=(fr.filterMap id).foldl (λr i=>r.set i none) U
noncomputable def FQ(g:Tg)(fr:List (Option Nat)):Bool:=decide ((fr.filterMap id).Nodup)&&g.slots.all λj=>decide (fr[j]? =some none)
def BU(fr:List (Option Nat))(hs:List Hd)(cs:List C):List (Nat×C):=(Bh hs cs).filterMap λq=>(inner fr q.1).map λj=>(j,q.2)
noncomputable def Jj(k:IK)(g:Tg)(fr:List (Option Nat))(cond:Env->Res Bool)(elt:Env->Res C)(hs:List Hd)(U:Env):Res C:=match Ag U hs with
 | some cs=>match B5 k cs with
   | some xs=>if AD hs cs&&FQ g fr&&decide (xs.length<=big)then match Cw g (BU fr hs cs) cond elt xs [] (BL fr U)with
      |.ok ys β=>.ok (.lst ys) (AQ (D1 fr U) fr β)
      |_=>.A2
     else .A2
   |none=>.A2
 |none=>.A2
noncomputable def BP(t:T)(v:Env->Res C)(U:Env):Res Hd:=match t with
 |.A3 i=>if(A8 U i).isSome then .ok (.A4 i) U else .A2
 |.Aw i f=>if(BD U i f).isSome then .ok (.Aw i f) U else .A2
 |_=>(v U).bind λc U=>.ok (.AN c) U
inductive Fl where
 |nx|brk|cnt|ret (c:C)
noncomputable def placeOf:T->Option Hd
 |.A3 i=>some (.A4 i)
 |.Aw i f=>some (.Aw i f)
 |_=>none
def Yn:Option C->Bool
 |some (.b (.lst _))=>true
 |_=>false
def Hd.HP:Hd->Bool
 |.Aw _ _=>true
 |_=>false
noncomputable def JV(m:MO)(h:Hd)(hs:List Hd)(U:Env):Res C:=match h.cont U,Ag U hs with
 | some (.b b),some cs=>if(BY (h::hs) (.b b::cs)).Nodup then match Fp m b cs with
   |some (c,b')=>(Res.of (setB U h b') U).bind λU' _=>.ok c U'
   |none=>.A2
   else .A2
 |_,_=>.A2
noncomputable def IH(mt:MT)(i:Nat)(f:Str)(v:C)(U:Env):Res Fl:=match A8 U i,v with
    |some (.obj c fs),.b b=>if mt.f c f&&decide (fs.length<900)then .ok .nx (U.set i (some (.obj c (Bq f b fs))))else .A2
    |_,_=>.A2
noncomputable def Gv(cf:CF)(f c:Nat)(hs:List Hd)(U:Env):Res C:=match Ag U hs with
 |none=>.A2
 | some cs=>if((BY hs cs).Nodup/\AD hs cs=true)/\c<1000 then match cf f (.obj c []::cs)with
    |.ok (.b (.p .Az)) (some s::outs)=>(Res.of (back (lend U hs cs) hs cs outs) U).bind λU' _=>.ok s U'
    |_=>.A2
   else .A2
def CW:Nat:=1024
noncomputable def F7(l:Nat):Option Nat->Nat
 |none=>1024*(l+1)
 |some v=>1024*(l+1)+1048576*(v+1)
def Gh(n:Nat):Nat:=n/1024%1024-1
noncomputable def Kj(n:Nat):List Hd:=match n/1048576 with
 |0=>[]
 |v+1=>[.AN (.p (.int v))]
def tag(c:Nat):Nat:=if c<1000 then c+1000 else c
noncomputable def Ou(U:Env):Option Nat->Option (Option Nat)
 |none=>some none
 | some j=>match A8 U j with
   |some (.b (.p (.int v)))=>if 0<=v/\v<1000 then some (some v.toNat)else none
   |_=>none
mutual
def BX:P->Bool
 |.fn _=>false
 |.box _ _=>false
 |.tup ps=>Gu ps
 |_=>true
def Gu:List P->Bool
 |[]=>true
 |p::ps=>BX p&&Gu ps
end
noncomputable def C8:List (Str×B)->Bool
 |[]=>true
 |(_,.p x)::r=>BX x&&C8 r
 |_::_=>false
noncomputable def HF(cf:CF)(mt:MT)(m:Str)(i l:Nat)(Cr:Option Nat)(U:Env):Res C:=match A8 U i,Ou U Cr with
 | some (.obj c fs),some cv=>match fs.lookup m,mt.m c m with
   | none,some f=>if C8 fs then(match cf f [.obj (tag c) fs,.p (.fn (F7 l cv))]with
     |.ok (.b (.p x)) (some (.obj c' fs')::_)=>if c'=tag c/\BX x=true/\C8 fs'=true then .ok (.p x) (U.set i (some (.obj c fs')))else .A2
     |.err x p=>.err x p (U.set i none)
     |_=>.A2)else .A2
   |_,_=>.A2
 |_,_=>.A2
structure Sm where
 v:Env->Res C
 b:Env->Res Bool
def Sm.of(t:T)(v:Env->Res C):Sm:=#[v,λU=>(BP t v U).bind λh U=>Res.of ((h.cont U).bind Cz) U]
mutual
noncomputable def den (cf:CF) (mt:MT):T->Sm
 |.An p=>Sm.of (.An p) λU=>.ok (.p p) U
 | .A3 i=>Sm.of (.A3 i) λU=>match A8 U i with
   |some c=>if c.cp then .ok c U else .ok c (U.set i none)
   |none=>.A2
 | .Aw i f=>Sm.of (.Aw i f) λU=>match BD U i f with
   |some c=>if c.cp then .ok c U else .A2
   |none=>.A2
 |.tup ts=>Sm.of (.tup []) λU=>if ts.length<=1000 then(Cf cf mt ts U).bind λps U=>.ok (.p (.tup ps)) U else .A2
 |.lst ts=>Sm.of (.tup []) λU=>if ts.length<=1000 then(Cf cf mt ts U).bind λps U=>.ok (.lst ps) U else .A2
 |.E4 ts=>Sm.of (.tup []) λU=>if ts.length<=1000 then(Cf cf mt ts U).bind λps U=>.ok (.p (.box 0 ps)) U else .A2
 |.A0 o ts=>Sm.of (.tup []) λU=>if o.ok then(Ae cf mt ts U).bind λhs U=>Res.of ((Ag U hs).bind (Ax o)) U else .A2
 | .Ey m o ts=>Sm.of (.tup []) λU=>match placeOf o with
   |some h=>if m.ok&&Yn (h.cont U)&&(!h.HP||ts.all T.calm)then(Ae cf mt ts U).bind λhs U=>JV m h hs U else .A2
   |none=>.A2
 | .and a b=>⟨λU=>((den cf mt a).v U).bind λc U=>match c with
   |.b (.p (.bl true))=>(den cf mt b).v U
   |.b (.p (.bl false))=>.ok (.p (.bl false)) U
   |_=>.A2,λU=>((den cf mt a).b U).bind λc U=>if c then(den cf mt b).b U else .ok false U⟩
 | .or a b=>⟨λU=>((den cf mt a).v U).bind λc U=>match c with
   |.b (.p (.bl true))=>.ok (.p (.bl true)) U
   |.b (.p (.bl false))=>(den cf mt b).v U
   |_=>.A2,λU=>((den cf mt a).b U).bind λc U=>if c then .ok true U else(den cf mt b).b U⟩
 | .not a=>⟨λU=>((den cf mt a).v U).bind λc U=>match c with
   |.b (.p (.bl b))=>.ok (.p (.bl (!b))) U
   |_=>.A2,λU=>((den cf mt a).b U).bind λb U=>.ok (!b) U⟩
 |.call f ts=>Sm.of (.tup []) λU=>(Ae cf mt ts U).bind λhs U=>AK cf f hs U
 | .Al m o ts=>Sm.of (.tup []) λU=>match o with
   | .A3 i=>match A8 U i with
     | some (.obj c fs)=>match fs.lookup m,mt.m c m with
       |none,some f=>(Ae cf mt ts U).bind λhs U=>AK cf f (.A4 i::hs) U
       |_,_=>.A2
     |_=>.A2
   |_=>.A2
 | .make c ts=>Sm.of (.tup []) λU=>match mt.m c (Str.ofString "__init__")with
   |some f=>(Ae cf mt ts U).bind λhs U=>Gv cf f c hs U
   |none=>.A2
 | .Fc i ts=>Sm.of (.tup []) λU=>match A8 U i with
   |some (.b (.p (.fn n)))=>if mt.tf n then(Ae cf mt ts U).bind λhs U=>AK cf n hs U else .A2
   |_=>.A2
 | .Cy i=>Sm.of (.tup []) λU=>match A8 U i,A8 U 0 with
   |some (.b (.p (.fn n))),some (.obj c _)=>if n<CW\/c<1000 then .A2 else AK cf (Gh n) (.A4 0::Kj n) U
   |_,_=>.A2
 |.Dp m i l Cr=>Sm.of (.tup []) λU=>HF cf mt m i l Cr U
 |.comp g k its cond elt fr=>Sm.of (.tup []) λU=>if k.ok then(Ae cf mt its U).bind λhs U=>Jj k g fr (HZ cf mt cond) (den cf mt elt).v hs U else .A2
noncomputable def Cf (cf:CF) (mt:MT):List T->Env->Res (List P)
 |[],U=>.ok [] U
 | t::ts,U=>((den cf mt t).v U).bind λc U=>match c with
   |.b (.p x)=>(Cf cf mt ts U).bind λxs U=>.ok (x::xs) U
   |_=>.A2
noncomputable def Ae (cf:CF) (mt:MT):List T->Env->Res (List Hd)
 |[],U=>.ok [] U
 | t::ts,U=>(BP t (den cf mt t).v U).bind λh U=>match h with
   |.Aw i f=>if ts.all T.calm then(Ae cf mt ts U).bind λhs U=>.ok (.Aw i f::hs) U else .A2
   |h=>(Ae cf mt ts U).bind λhs U=>.ok (h::hs) U
noncomputable def HZ (cf:CF) (mt:MT):List T->Env->Res Bool
 |[],U=>.ok true U
 |t::_,U=>(den cf mt t).b U
end
abbrev ev(cf:CF)(mt:MT)(t:T):Env->Res C:=(den cf mt t).v
abbrev tv(cf:CF)(mt:MT)(t:T):Env->Res Bool:=(den cf mt t).b
abbrev WH:=(Env->Res Bool)->(Env->Res Fl)->Env->Res Fl
noncomputable def Ap(c:Env->Res Bool)(b:Env->Res Fl):Nat->Env->Res Fl
 |0,_=>.A2
 | n + 1,U=>(c U).bind λx U=>if x then(b U).bind λf U=>match f with
     |.nx=>Ap c b n U
     |.cnt=>Ap c b n U
     |.brk=>.ok .nx U
     |.ret r=>.ok (.ret r) U
   else .ok .nx U
noncomputable def forL(g:Tg)(gs:List (Nat×C))(b:Env->Res Fl):List P->Env->Res Fl
 |[],U=>if holds gs U then .ok .nx U else .A2
 | x ::xs,U=>if holds gs U then(Res.of (Ew g x U) U).bind λU1 _=>(b U1).bind λf U=>match f with
     |.nx=>forL g gs b xs U
     |.cnt=>forL g gs b xs U
     |.brk=>.ok .nx U
     |.ret r=>.ok (.ret r) U
   else .A2
noncomputable def PN(k:IK)(g:Tg)(bs:List Nat)(B:Env->Res Fl)(hs:List Hd)(U:Env):Res Fl:=match Ag U hs with
 | some cs=>match B5 k cs with
   |some xs=>if AD hs cs&&(Bh hs cs).all (λq=>!(g.slots++bs).contains q.1)then forL g (Bh hs cs) B xs U else .A2
   |none=>.A2
 |none=>.A2
noncomputable def IG(g:Tg)(c:C)(U:Env):Option Env:=match g,c with
 |.nm i,c=>some (U.set i (some c))
 |.tup is,.b (.p (.tup vs))=>Ew (.tup is) (.tup vs) U
 |_,_=>none
mutual
def Fb:S->List Nat
 |.asg g _=>g.slots
 |.ifs _ a b=>By a++By b
 |.M3 _ b=>By b
 |.C3 g _ _ b=>g.slots++By b
 |.UA i _ _ _ g e=>[i,g,e]
 |_=>[]
def By:List S->List Nat
 |[]=>[]
 |s::ss=>Fb s++By ss
end
noncomputable def LJ(cf:CF)(i f c g e:Nat)(hs:List Hd)(U:Env):Res Fl:=match Ag U hs with
 |none=>.A2
 | some cs=>if(BY hs cs).Nodup/\AD hs cs=true then
    match cf f cs with
    |.A2=>.A2
    |.ok r outs=>(Res.of (back (lend U hs cs) hs cs outs) U).bind λU' _=>.ok .nx (U'.set i (some r))
    |.err x _=>if x=c then .ok .nx (((lend U hs cs).set g (some (.p (.bl true)))).set e none)else .A2
   else .A2
mutual
noncomputable def exec (cf:CF) (mt:MT) (wh:WH):S->Env->Res Fl
 | .asg g t,U=>match g with
   |.nm i=>(ev cf mt t U).bind λc U=>.ok .nx (U.set i (some c))
   |.tup is=>(BP t (ev cf mt t) U).bind λh U=>Res.of ((h.cont U).bind λc=>IG (.tup is) c U) U |>.bind λU' _=>.ok .nx U'
 |.Hr i f v,U=>(ev cf mt v U).bind λv U=>IH mt i f v U
 |.expr t,U=>(ev cf mt t U).bind λ_ U=>.ok .nx U
 |.ret none,U=>.ok (.ret (.p .Az)) U
 |.ret (some t),U=>(ev cf mt t U).bind λc U=>.ok (.ret c) U
 |.ifs c a b,U=>(tv cf mt c U).bind λx U=>if x then execs cf mt wh a U else execs cf mt wh b U
 |.M3 c b,U=>wh (tv cf mt c) (execs cf mt wh b) U
 |.C3 g k its b,U=>if k.ok then(Ae cf mt its U).bind (PN k g (By b) (execs cf mt wh b))else .A2
 |.pass,U=>.ok .nx U
 |.raise x,U=>if mt.rs then .err x .Az U else .A2
 |.UA i f ts c g e,U=>if mt.rs&&ts.all T.calm then(Ae cf mt ts U).bind (LJ cf i f c g e)else .A2
noncomputable def execs (cf:CF) (mt:MT) (wh:WH):List S->Env->Res Fl
 |[],U=>.ok .nx U
 | s::ss,U=>(exec cf mt wh s U).bind λf U=>match f with
   |.nx=>execs cf mt wh ss U
   |f=>.ok f U
end
structure Fg where
 np:Nat
 nl:Nat
 body:List S
 deriving Inhabited
def CM(fi:Fg)(U:Env):List (Option C):=(List.range fi.np).map λi=>if(By fi.body).contains i then none else A8 U i
noncomputable def Dx(cf:CF)(mt:MT)(wh:WH)(fi:Fg)(args:List C):CR:=
 if args.length=fi.np then match execs cf mt wh fi.body (args.map some++List.replicate (fi.nl-fi.np) none)with
  |.ok .nx U=>.ok (.p .Az) (CM fi U)
  |.ok (.ret c) U=>.ok c (CM fi U)
  |.err x p _=>if mt.rs then .err x p else .A2
  |_=>.A2
 else .A2
def Be(As:List Fg)(mt:MT)(wh:WH):Nat->CF
 |0,_,_=>.A2
 | k+1,f,args=>match As[f]? with
   |some fi=>Dx (Be As mt wh k) mt wh fi args
   |none=>.A2
structure Ct where
 N:List Str
 sc:Scope
 As:List (Str×Nat)
 cls:List (Str×Nat)
 gl:List (Str×P)
 sub:List (Str×List Nat)
 df:Bool
 RY:List (Pos×Nat×Fg)
 cv:Bool
noncomputable def HA(x:Str):Bool:=!(x==("__debug__":Str))&&!(x==("__classdict__":Str))&&decide (x≠"__name__")
def seen:Option NameKind->Bool
 |some .local=>true
 |some .cell=>true
 |some .free=>true
 |_=>false
noncomputable def Ct.A4(ct:Ct)(x:Str):Option Nat:=if HA x&&seen (ct.sc.names.lookup x)then ct.N.idxOf? x else none
def bound(df:Bool):Option NameKind->Bool
 |some .local=>true
 |some .cell=>df
 |_=>false
noncomputable def Ct.BE(ct:Ct)(x:Str):Option Nat:=if HA x&&bound ct.df (ct.sc.names.lookup x)then ct.N.idxOf? x else none
noncomputable def Ct.glob(ct:Ct)(x:Str):Bool:=HA x&&decide (ct.sc.names.lookup x=some .globalImplicit)
noncomputable def Ct.name(ct:Ct)(x:Str):Option T:=match ct.A4 x with
 |some i=>some (.A3 i)
 | none=>if ct.glob x then(match ct.gl.lookup x with
   |some p=>some (.An p)
   |none=>(ct.As.lookup x).bind λn=>if n<CW then some (.An (.fn n))else none)else none
noncomputable def Kn:List Str:=["len","list","tuple","dict","sum","all","any","sorted","abs","str","int","bool","range","enumerate","reversed","set","min","max","zip","isinstance","ValueError"]
noncomputable def Ct.own(ct:Ct)(x:Str):Bool:=ct.glob x&&Kn.contains x&&(ct.gl.lookup x).isNone&&(ct.As.lookup x).isNone&&(ct.cls.lookup x).isNone
noncomputable def o7:Operator->Option O
 |.Add=>some .add| .Sub=>some .sub| .Mult=>some .mul| .Mod=>some .mod| .FloorDiv=>some .fdiv| .Pow=>some .pow
 |.BitAnd=>some .band| .RShift=>some .shr|_=>none
noncomputable def W3:CmpOp->O
 |.Eq=>.eq| .NotEq=>.ne| .Lt=>.lt| .LtE=>.le| .Gt=>.gt| .GtE=>.ge| .Is=>.is| .IsNot=>.Uy| .In=>.dw| .NotIn=>.Qc
noncomputable def B3:T->IK×List T
 |.A0 (.iter k) ts=>(k,ts)
 |t=>(.op,[t])
noncomputable def tyName(x:Str):Option Ty:=
 if x="int" then some .int else if x="bool" then some .bool else if x="str" then some .str else if x="tuple" then some .tuple
 else none
noncomputable def Qu:T->Option T
 |.A0 (.iter _) _=>none
 |t=>some (.A0 (.tuple .op) [t])
noncomputable def RU:T->Option T
 |.A0 (.iter _) _=>none
 |t=>some (.A0 (.list .op) [t])
noncomputable def dE(x:Str)(ts:List T):Option T:=match ts with
 |[t]=>
   if x="len" then some (.A0 .len [t])
   else if x="list" then RU t
   else if x="tuple" then Qu t
   else if x="all" then some (.A0 .all [t])
   else if x="abs" then some (.A0 .abs [t])else if x="str" then some (.A0 .str [t])
   else if x="int" then some (.A0 .int [t])else if x="range" then some (.A0 (.iter .Co) [t])
   else if x="set" then some (.A0 .Lo [t])else none
 |[t,u]=>if x="min" then some (.A0 .min [t,u])else none
 |[t,u,v]=>if x="range" then some (.A0 (.iter .Co) [t,u,v])else none
 |_=>none
noncomputable def setOf(ct:Ct)(args:List Expr)(ts:List T):Option T:=match args,ts with
 |[.Call (.Name y _) [_] [] _],[.A0 .Lo [t]]=>if decide (y="set")&&ct.own y then some t else none
 |_,_=>none
def Q1(ct:Ct)(x:Str)(args:List Expr)(ts:List T):Option T:=if x="len" then(match setOf ct args ts with
 |some t=>some (.A0 .DB [t])
 |none=>dE x ts)else dE x ts
noncomputable def mB(m:Str)(o:T)(ts:List T):Option T:=match ts with
 |[]=>if m="pop" then some (.Ey .pop o [])else none
 |[t]=>if m="append" then some (.Ey .append o [t])else if m="extend" then some (.Ey .extend o [t])else none
 |[t,u]=>if m="startswith" then(if o.calm&&t.calm&&u.calm then some (.A0 .sw [o,t,u])else none)else none
 |_=>none
noncomputable def PC(ct:Ct):List Expr->Option (List Nat)
 |[]=>some []
 |.Name x _::es=>(ct.BE x).bind λi=>(PC ct es).map λis=>i::is
 |_::_=>none
noncomputable def Yh(ct:Ct):Expr->Option Tg
 |.Name x _=>(ct.BE x).map .nm
 |.Tuple es _ _=>(PC ct es).map .tup
 |_=>none
noncomputable def Yk(ct:Ct)(x:Str)(ts:List T):Option T:=match ct.As.lookup x with
 |some f=>some (.call f ts)
 |none=>(ct.cls.lookup x).map λc=>.make c ts
noncomputable def Ct.block(ct:Ct)(sc:Scope):Ct×List (Option Nat):=
 let own:=(sc.names.filter λq=>q.2 == .local).map (·.1)
 let free:=(sc.names.filter λq=>q.2 == .free).map (·.1)
 ({ct with N:=own++free,sc:=sc,df:=false,RY:=[]},own.map (λ_=>none)++free.map λx=>ct.N.idxOf? x)
noncomputable def Th(N0:List Str)(sc0:Scope)(N:List Str)(scope:Scope)(fr:List (Option Nat)):Bool:=
 (scope.kind == .function)&&scope.names.all (λy=>y.2 != .cell)&&scope.names.all (λy=>y.2 != .local||scope.names.lookup y.1==some .local) &&
 scope.names.all (λy=>y.2 != .free||sc0.names.lookup y.1==some .cell||sc0.names.lookup y.1==some .free)&&(fr.length==N.length) &&
 (List.range fr.length).all λj=>match fr[j]? with
  |some (some i)=>(N[j]? == N0[i]?)&&(match N[j]? with|some x=>scope.names.lookup x==some .free|none=>false)
  |_=>true
def kM(m:Str)(o:T)(ts:List T):Option T:=match mB m o ts with
 |some z=>some z
 |none=>some (.Al m o ts)
noncomputable def Qe(m:Str)(n:Nat)(apos pos:Pos):Bool:=(apos.endLine==pos.line)&&decide (n<29)&&decide (m≠Str.ofString "__init__")
def O9(x y:T):T:=match x with
 |.Aw i f=>if y.calm then .Aw i f else .A0 .id [.Aw i f]
 |x=>x
noncomputable def Bf(sc:Scope):List Str:=Str.ofString "self"::((sc.names.filter λq=>q.2 == .free).map (·.1)).filter λx=>decide (x≠Str.ofString "self")
def Jg(sc:Scope)(fn cl:List (Str×Nat))(gl:List (Str×P)):Ct:=#[Bf sc,sc,fn,cl,gl,[],false,[],false]
noncomputable def O4(sc0 sc:Scope):Bool:=(sc.kind == .function)&&!sc.isCoroutine&&!sc.isGenerator&&sc.names.all (λy=>y.2 != .cell&&y.2 != .local) &&
 sc.names.all (λy=>y.2 != .free||sc0.names.lookup y.1==some .cell||sc0.names.lookup y.1==some .free)&&decide ((Bf sc).Nodup)&&(Bf sc).all λx=>sc.names.lookup x==some .free
def GY(n:Nat)(t:T)(fi:Fg):Bool:=match fi.body with
 |[.ret (some u)]=>T.same t u&&decide (fi.np=n)&&decide (fi.nl=n)
 |_=>false
noncomputable def HJ(ct:Ct)(sc:Scope):Option (Option Nat):=match((sc.names.filter λq=>q.2 == .free).map (·.1)).filter λx=>decide (x≠Str.ofString "self")with
 |[]=>some none
 |[x]=>(ct.A4 x).map some
 |_=>none
noncomputable def noArgs(a:Arguments):Bool:=a.posonlyargs.isEmpty&&a.args.isEmpty&&a.vararg.isNone&&a.kwonlyargs.isEmpty&&a.kwarg.isNone&&a.defaults.isEmpty&&a.kw_defaults.isEmpty
def aS:Expr->T->T
 |.List _ _,.lst ts=>.E4 ts
 |_,t=>t
def DK:List Expr->List T->List T
 |e::es,t::ts=>aS e t::DK es ts
 |_,_=>[]
noncomputable def ki(ct:Ct)(y:Str)(t:T):Option T:=(if ct.own y then tyName y else(ct.sub.lookup y).map .cls).map λk=>.A0 (.F0 k) [t]
noncomputable def aJ(ct:Ct)(o:Option T):List Expr->Option T
 |[_,.Name y _]=>o.bind (ki ct y)
 |_=>none
noncomputable def kN(ct:Ct)(x:Str)(ts:List T):Option T:=match ct.A4 x with
 |some i=>if ts.isEmpty then(if ct.cv then some (.Cy i)else none)else some (.Fc i ts)
 |none=>if ct.glob x then Yk ct x ts else none
mutual
noncomputable def kE (ct:Ct):Expr->Option T
 | .Constant c _ _=>match c with
   |.none=>some (.An .Az)
   |.bool b=>some (.An (.bl b))
   |.int i=>some (.An (.int i))
   |.str x=>some (.An (.str x))
   |_=>none
 |.Name x _=>ct.name x
 |.Attribute (.Name x _) f _=>(ct.A4 x).map λi=>.Aw i f
 |.Tuple es _ _=>(Io ct es).map .tup
 |.List es _=>(Io ct es).map λts=>.lst (DK es ts)
 |.BinOp a op b _=>(o7 op).bind λo=>(kE ct a).bind λx=>(kE ct b).map λy=>.A0 o [O9 x y,y]
 |.UnaryOp .Not a _=>(kE ct a).map .not
 |.UnaryOp .USub a _=>(kE ct a).map λx=>.A0 .neg [x]
 |.BoolOp op es _=>if 2<=es.length then kB ct op es else none
 |.Compare a [op] [b] _=>(kE ct a).bind λx=>(kE ct b).map λy=>.A0 (W3 op) [O9 x y,y]
 | .Compare a [o1,o2] [b,c] _=>(kE ct a).bind λx=>(kE ct b).bind λy=>(kE ct c).bind λz=>match z with
   |.An p=>if FU p then some (.A0 (.chain (W3 o1) (W3 o2)) [x,y,.An p])else none
   |_=>none
 |.Subscript v (.Slice lo hi none _) _=>(kE ct v).bind λx=>(kO ct lo).bind λl=>(kO ct hi).map λh=>.A0 (.Cm (!l.isEmpty) (!h.isEmpty)) (x::(l++h))
 |.Subscript v i _=>(kE ct v).bind λx=>(kE ct i).map λy=>.A0 .idx [x,y]
 |.ListComp elt [⟨tg,it,ifs,ia⟩] sc _=>(kE ct it).bind λx=>(Yh (ct.block sc).1 tg).bind λg=>(Io (ct.block sc).1 ifs).bind λcs=>(kE (ct.block sc).1 elt).bind λe=>
  if decide (ia=0)&&decide (cs.length<=1)&&Th ct.N ct.sc (ct.block sc).1.N sc (ct.block sc).2&&decide ((ct.block sc).1.N.Nodup)then some (.comp g (B3 x).1 (B3 x).2 cs e (ct.block sc).2)else none
 |.Call (.Name x _) args [] _=>
   if ct.own x then(if x="isinstance" then aJ ct (lB ct args) args else(Io ct args).bind (Q1 ct x args))else(Io ct args).bind (kN ct x)
 |.Call (.Attribute (.Name x _) m apos) [.Lambda a b sc lp] [] pos=>if Qe m 1 apos pos&&noArgs a&&O4 ct.sc sc&&ct.df&&decide (x=Str.ofString "self")then(ct.A4 x).bind λi=>(ct.RY.lookup lp).bind λq=>(HJ ct sc).bind λc=>
  (kE (Jg sc ct.As ct.cls ct.gl) b).bind λt=>if GY (Bf sc).length t q.2&&decide (q.1<1000)then some (.Dp m i q.1 c)else none else none
 |.Call (.Attribute (.Name x _) m apos) args [] pos=>if Qe m args.length apos pos then(ct.A4 x).bind λi=>(Io ct args).bind (kM m (.A3 i))else none
 |.Call (.Attribute (.Attribute (.Name x _) f _) m apos) args [] pos=>if Qe m args.length apos pos then(ct.A4 x).bind λi=>(Io ct args).bind (kM m (.Aw i f))else none
 |.Call (.Attribute (.Constant (.str z) _ _) m apos) [a] [] pos=>if m="join"/\Qe m 1 apos pos=true then(kE ct a).map λt=>.A0 (.join z) [t]else none
 |.Call (.Attribute (.Call _ _ _ _) _ _) _ [] _=>some (.A0 .Lo [])
 |_=>none
noncomputable def lB (ct:Ct):List Expr->Option T
 |[]=>none
 |e::_=>kE ct e
noncomputable def Io (ct:Ct):List Expr->Option (List T)
 |[]=>some []
 |e::es=>(kE ct e).bind λt=>(Io ct es).map λts=>t::ts
noncomputable def kO (ct:Ct):Option Expr->Option (List T)
 |none=>some []
 |some e=>(kE ct e).map λt=>[t]
noncomputable def kB (ct:Ct) (op:PySem.BoolOp):List Expr->Option T
 |[]=>none
 |[e]=>kE ct e
 |e::es=>(kE ct e).bind λx=>(kB ct op es).map λy=>match op with| .And=>.and x y| .Or=>.or x y
end
def MU:Expr->Bool
 |.Tuple _ _ _=>true
 |_=>false
noncomputable def Bo:Expr->Bool
 |.ListComp _ _ _ _=>true
 |.SetComp _ _ _ _=>true
 |.DictComp _ _ _ _ _=>true
 |_=>false
def VI:Str:="NoWords"
noncomputable def MP(ct:Ct):Option Expr->Option Expr->Option S
 |some (.Call (.Name x _) [.Constant .none _ _] [] _),none=>if ct.glob x&&decide (x=VI)then(ct.cls.lookup x).map .raise else none
 |_,_=>none
noncomputable def Ts:Stmt->Option (Str×Expr)
 |.Assign [.Name g _] e _=>some (g,e)
 |_=>none
def X0:Expr->Option (List Expr)
 |.BoolOp .And es _=>some es
 |_=>none
def g9:Expr->Option Str
 |.Name x _=>some x
 |_=>none
noncomputable def gF:Expr->Option (Str×Str×Expr)
 |.Call (.Name i _) [.Name e _,t] [] _=>some (i,e,t)
 |_=>none
noncomputable def lJ:Expr->Option (Str×Str)
 |.Compare (.Attribute (.Name e _) p _) [.Is] [.Constant .none _ _] _=>some (e,p)
 |_=>none
def lK:Expr->Option Expr
 |.UnaryOp .Not e _=>some e
 |_=>none
noncomputable def YV:Expr->Option (Str×Str×Str)
 |.Tuple [.Name a _,.Name b _,.Name c _] _ _=>some (a,b,c)
 |_=>none
noncomputable def T5:Expr->Option (Str×Expr)
 |.Call (.Name f _) [a] [] _=>some (f,a)
 |_=>none
noncomputable def aP:ExceptHandler->Option (Str×Str×List Stmt)
 |.ExceptHandler (some (.Name d _)) (some en) b _=>some (d,en,b)
 |_=>none
noncomputable def gA(en g g2:Str):List Expr->List Expr->Option (Str×List Str)
 |[a,b,c],[d,e]=>(gF a).bind λqa=>(gF b).bind λqb=>(lJ c).bind λqc=>(g9 d).bind λg3=>(lK e).bind λf=>(gF f).bind λqe=>(g9 qa.2.2).bind λnw=>(g9 qb.2.2).bind λve=>(YV qe.2.2).bind λms=>
   if qa.1="isinstance"/\qb.1=qa.1/\qe.1=qa.1/\qa.2.1=en/\qb.2.1=en/\qc.1=en/\qe.2.1=en/\nw=VI/\ve="ValueError"/\qc.2="place"/\g2=g/\g3=g/\ms.1="NoProgram"/\ms.2.1="NoSuch"/\ms.2.2="Twice" then some (g,[qa.1,nw,ve,ms.1,ms.2.1,ms.2.2])else none
 |_,_=>none
def ly(en:Str):List Stmt->Option (Str×List Str)
 |[s,t]=>(Ts s).bind λa=>(Ts t).bind λb=>(X0 a.2).bind λl=>(X0 b.2).bind λm=>gA en a.1 b.1 l m
 |_=>none
noncomputable def nJ(ct:Ct)(x:Str):Bool:=decide (ct.sc.names.lookup x=some .local)
noncomputable def Yg(ct:Ct)(y f:Str)(a:Expr)(d en:Str)(b:List Stmt):Option S:=
    (ly en b).bind λq=>if ct.df&&nJ ct en&&nJ ct q.1&&ct.glob d&&decide (d="DeedsError")&&q.2.all ct.glob&&ct.own "isinstance" && ct.own "ValueError" && ct.glob f then
     (ct.BE y).bind λi=>(ct.BE q.1).bind λg=>(ct.BE en).bind λe=>(ct.As.lookup f).bind λn=>(ct.cls.lookup VI).bind λc=>(ct.cls.lookup ("DeedsError":Str)).bind λ_=>(ct.cls.lookup ("NoProgram":Str)).bind λ_=>(ct.cls.lookup ("NoSuch":Str)).bind λ_=>(ct.cls.lookup ("Twice":Str)).bind λ_=>(Io ct [a]).bind λts=>if ts.all T.calm&&decide (g≠e)then some (.UA i n ts c g e)else none else none
def aI(ct:Ct):List Stmt->List ExceptHandler->List Stmt->List Stmt->Option S
 |[s],[h],[],[]=>(Ts s).bind λsa=>(T5 sa.2).bind λsc=>(aP h).bind λsh=>Yg ct sa.1 sc.1 sc.2 sh.1 sh.2.1 sh.2.2
 |_,_,_,_=>none
mutual
noncomputable def kS (ct:Ct):Stmt->Option S
 | .Assign [tg] e _=>(kE ct e).bind λt=>match tg with
   |.Name x _=>(ct.BE x).map λi=>.asg (.nm i) t
   |.Tuple es k p=>if MU e then none else(Yh ct (.Tuple es k p)).map λg=>.asg g t
   |.Attribute (.Name x _) f _=>(ct.A4 x).map λi=>.Hr i f t
   |_=>none
 |.Expr (.Constant (.str _) _ _) _=>some .pass
 |.Expr e _=>if Bo e then none else(kE ct e).map .expr
 |.Return none _=>some (.ret none)
 |.Return (some e) _=>(kE ct e).map λt=>.ret (some t)
 |.If c a b _=>(kE ct c).bind λt=>(S3 ct a).bind λx=>(S3 ct b).map λy=>.ifs t x y
 |.While c b [] _=>(kE ct c).bind λt=>(S3 ct b).map λx=>.M3 t x
 |.For tg it b [] _=>(Yh ct tg).bind λg=>(kE ct it).bind λt=>(S3 ct b).map λx=>.C3 g (B3 t).1 (B3 t).2 x
 |.Pass _=>some .pass
 |.Raise e c _=>MP ct e c
 |.Try b h o f _=>aI ct b h o f
 |_=>none
noncomputable def S3 (ct:Ct):List Stmt->Option (List S)
 |[]=>some []
 |s::ss=>(kS ct s).bind λt=>(S3 ct ss).map λts=>t::ts
end
mutual
def SU:Expr->Option P
 | .Constant c _ _=>match c with
   |.none=>some .Az
   |.bool b=>some (.bl b)
   |.int i=>some (.int i)
   |.str x=>some (.str x)
   |_=>none
 |.Tuple es _ _=>(Oj es).map .tup
 |_=>none
def Oj:List Expr->Option (List P)
 |[]=>some []
 |e::es=>(SU e).bind λp=>(Oj es).map λps=>p::ps
end
noncomputable def i0:Stmt->Str
 |.FunctionDef n ..=>n
 |_=>#[[].toArray]
noncomputable def Kf:Stmt->Scope
 |.FunctionDef _ _ _ _ _ _ sc ..=>sc
 |_=>#[.module,[],false,false,[]]
def Og:Stmt->List Stmt
 |.FunctionDef _ _ b ..=>b
 |_=>[]
noncomputable def EI:Stmt->List Str
 |.FunctionDef _ a ..=>a.args.map (·.arg)
 |_=>[]
def gE:Stmt->Bool
 |.FunctionDef ..=>true
 |_=>false
noncomputable def Om:List Stmt->List (Str×List Str×List Stmt)
 |[]=>[]
 |.ClassDef n bs _ b .. ::r=>(n,bs.filterMap (λ(e:Expr)=>match e with| .Name x _=>some x|_=>none),b.filter gE)::Om r
 |_::r=>Om r
noncomputable def aQ:List Stmt->List (Str×P)
 |[]=>[]
 | .Assign [.Name x _] e _::r=>match SU e with
   |some p=>(x,p)::aQ r
   |none=>aQ r
 |_::r=>aQ r
noncomputable def namesOf(st:Stmt):List Str:=
 let ps:=EI st
 ps++((Kf st).names.filter λq=>(q.2 == .local||q.2 == .cell)&&!ps.contains q.1).map (·.1)
noncomputable def WE(st:Stmt)(fn cl:List (Str×Nat))(gl:List (Str×P))(sub:List (Str×List Nat))(lm:List (Pos×Nat×Fg)):Ct:=#[namesOf st,Kf st,fn,cl,gl,sub,true,lm,decide (i0 st=Str.ofString "few")]
def lu(e:Expr)(sc:Scope)(fn cl:List (Str×Nat))(gl:List (Str×P)):Option Fg:=(kE (Jg sc fn cl gl) e).map λt=>#[(Bf sc).length,(Bf sc).length,[.ret (some t)]]
noncomputable def gz:Expr->List (Pos×Expr×Scope)
 |.Call (.Attribute (.Name _ _) _ _) [.Lambda _ b sc p] _ _=>[(p,b,sc)]
 |_=>[]
def lr:Stmt->List (Pos×Expr×Scope)
 |.Assign _ e _=>gz e
 |.Return (some e) _=>gz e
 |_=>[]
def jw(st:Stmt)(ct:Ct):Option Fg:=(S3 ct (Og st)).map λb=>#[(EI st).length,ct.N.length,b]
end Iv
namespace Iv
open PySem L2
structure Wd where
 K:PySem.W.Frag
 w:World
 Br:Nat->Addr
 Cq:Nat->Addr
 ok:Nat->Bool
 OT:Addr
 tabs:List (Addr×Pos×Str)
 dC:List (Addr×Str)
def jb(H:Hp)(a:Addr)(o:Obj)(t:Nat)(vs:List V):Prop:=(t=0/\H a=some (.E4 o (.lst vs)))\/(t=1/\∃k1 v1 k2 v2,vs=[.int k1,v1,.int k2,v2]/\k1≠k2/\H a=some (.E4 o (.dK [(.inl k1,v1),(.inl k2,v2)])))
mutual
noncomputable def AH (W:Wd) (H:Hp):P->V->Prop
 |.Az,v=>v= .Az
 |.bl b,v=>v= .bl b
 |.int i,v=>v= .int i
 |.str x,v=>v= .str x
 |.fn i,v=>v= .ref (W.Cq i)/\(i<CW\/W.ok i=true)
 |.tup ps,v=>∃a vs,v= .ref a/\FX W.K H a vs/\A7 W H ps vs
 |.box t ps,v=>∃a o vs,v= .ref a/\A7 W H ps vs/\jb H a o t vs
noncomputable def A7 (W:Wd) (H:Hp):List P->List V->Prop
 |[],vs=>vs=[]
 |p::ps,vs=>∃v r,vs=v::r/\AH W H p v/\A7 W H ps r
end
def AS(H H':Hp):Prop:=∀a,(∀xs,H a=some (.tup xs)->H' a=some (.tup xs))/\∀o u,H a=some (.E4 o u)->H' a=some (.E4 o u)
variable{H H1 H2:Hp}
theorem AS.trans(a:AS H H1)(b:AS H1 H2):AS H H2:=λc=>#[λxs h=>(b c).1 xs ((a c).1 xs h),λo u h=>(b c).2 o u ((a c).2 o u h)]
variable{H':Hp}
theorem AS.of(h:BV H H'):AS H H':=λa=>#[λ_ q=>h a _ q,λ_ _ q=>h a _ q]
variable{xs:List V}
theorem AS.nY{K:PySem.W.Frag}(k:AS H H')(h:FX K H a xs):FX K H' a xs:=by
 rcases h with(h|⟨o,h⟩)|h
 .exact .inl (.inl ((k a).1 _ h))
 .exact .inl (.inr #[o,(k a).2 _ _ h])
 .exact .inr h
variable{vs:List V}
theorem jb.mono{o:Obj}{t:Nat}(k:AS H H')(h:jb H a o t vs):jb H' a o t vs:=by
 rcases h with⟨h1,h2⟩|⟨h1,k1,v1,k2,v2,h2,h3,h4⟩
 .exact .inl #[h1,(k a).2 _ _ h2]
 .exact .inr #[h1,k1,v1,k2,v2,h2,h3,(k a).2 _ _ h4]
mutual
theorem AH.mono {W:Wd} {H H':Hp} (k:AS H H'):∀{p:P} {v:V},AH W H p v->AH W H' p v
 |.Az,_,h=>h
 |.bl _,_,h=>h
 |.int _,_,h=>h
 |.str _,_,h=>h
 |.fn _,_,h=>h
 | .box t ps,v,h=>by
   unfold AH at h ⊢;obtain⟨a,o,vs,e,h1,h2⟩:=h;exact#[a,o,vs,e,A7.mono k h1,h2.mono k]
 | .tup ps,v,h=>by
   unfold AH at h ⊢;obtain⟨a,vs,e,h1,h2⟩:=h;exact#[a,vs,e,k.nY h1,A7.mono k h2]
theorem A7.mono {W:Wd} {H H':Hp} (k:AS H H'):∀{ps:List P} {vs:List V},A7 W H ps vs->A7 W H' ps vs
 |[],_,h=>h
 | p::ps,vs,h=>by
   unfold A7 at h ⊢;obtain⟨v,r,e,h1,h2⟩:=h;exact#[v,r,e,AH.mono k h1,A7.mono k h2]
end
variable{W:Wd}
theorem A7.nil:A7 W H [] []:=by unfold A7;rfl
theorem A7.cons{W:Wd}{H:Hp}{ps:List P}{vs:List V}(h:AH W H p v)(t:A7 W H ps vs):A7 W H (p::ps) (v::vs):=by unfold A7;exact#[v,vs,rfl,h,t]
theorem A7.EM{p:P}{v:V}{ps:List P}(h:A7 W H (p::ps) (v::vs)):AH W H p v/\A7 W H ps vs:=by
 unfold A7 at h;obtain⟨_,_,e,h1,h2⟩:=h;cases e;exact#[h1,h2]
theorem A7.length:∀{ps:List P} {vs:List V},A7 W H ps vs->vs.length=ps.length
 | [],vs,h=>by
   unfold A7 at h;rw[h];rfl
 | p::ps,vs,h=>by
   unfold A7 at h;obtain⟨v,r,e,_,h2⟩:=h;rw[e,lC,lC,A7.length h2]
theorem A7.append{qs:List P}{ws:List V}(k:A7 W H qs ws):∀{ps:List P} {vs:List V},A7 W H ps vs->A7 W H (ps++qs) (vs++ws)
 | [],vs,h=>by
   unfold A7 at h;rw[h];exact k
 | p::ps,vs,h=>by
   unfold A7 at h;obtain⟨v,r,e,h1,h2⟩:=h;rw[e];exact .cons h1 (A7.append k h2)
theorem A7.get:∀{ps:List P} {vs:List V} {i:Nat} {p:P},A7 W H ps vs->ps[i]? =some p->∃v,vs[i]? =some v/\AH W H p v
 |[],vs,i,p,_,e=>by simp at e
 | q ::ps,vs,i,p,h,e=>by
   unfold A7 at h;obtain⟨v,r,e',h1,h2⟩:=h;subst e';cases i with
   |zero=>
     simp at e;subst e;exact#[v,rfl,h1]
   |succ i=>
     obtain⟨u,g1,g2⟩:=A7.get (i:=i) h2 (by simpa using e);exact#[u,by simpa using g1,g2]
theorem A7.get':∀{ps:List P} {vs:List V} {i:Nat} {v:V},A7 W H ps vs->vs[i]? =some v->∃p,ps[i]? =some p/\AH W H p v
 | [],vs,i,p,h,e=>by
   unfold A7 at h;rw[h]at e;simp at e
 | q ::ps,vs,i,p,h,e=>by
   unfold A7 at h;obtain⟨v,r,e',h1,h2⟩:=h;subst e';cases i with
   |zero=>
     simp at e;subst e;exact#[q,rfl,h1]
   |succ i=>
     obtain⟨u,g1,g2⟩:=A7.get' (i:=i) h2 (by simpa using e);exact#[u,by simpa using g1,g2]
theorem A7.drop{ps:List P}(h:A7 W H ps vs)(n:Nat):A7 W H (ps.drop n) (vs.drop n):=by
 induction n generalizing ps vs with
 |zero=>exact h
 |succ n ih=>
   cases ps with
   |nil=>unfold A7 at h;rw[h];simp;exact .nil
   |cons p ps=>
     cases vs with
     |nil=>unfold A7 at h;obtain⟨_,_,e,_⟩:=h;cases e
     |cons v vs=>exact ih h.EM.2
theorem A7.take{ps:List P}(h:A7 W H ps vs)(n:Nat):A7 W H (ps.take n) (vs.take n):=by
 induction n generalizing ps vs with
 |zero=>simp;exact .nil
 |succ n ih=>
   cases ps with
   |nil=>unfold A7 at h;rw[h];simp;exact .nil
   |cons p ps=>
     cases vs with
     |nil=>unfold A7 at h;obtain⟨_,_,e,_⟩:=h;cases e
     |cons v vs=>exact .cons h.EM.1 (ih h.EM.2)
def Xb(K:PySem.W.Frag)(H:Hp)(a:Addr)(xs:List V):Prop:=(∃o,H a=some (.E4 o (.lst xs)))\/
    ∃(o:Obj) (its:Array Value) (n:Nat),K.lookup a=some o/\o.cls= .type "list"/\o.dict=none/\o.data= .seq its n/\its.size<=sizeLine/\Vals xs its.toList
theorem Xb.mono{K:PySem.W.Frag}(k:AS H H')(h:Xb K H a xs):Xb K H' a xs:=by
 rcases h with⟨o,h⟩|h
 .exact .inl #[o,(k a).2 _ _ h]
 .exact .inr h
theorem Xb.sq{K:PySem.W.Frag}(h:Xb K H a xs):Fd K H a xs:=by
 rcases h with⟨o,h⟩|h
 .exact .inl (.inr #[o,h])
 .exact .inr h
def BJ(W:Wd)(H:Hp):B->V->List Addr->Prop
 |.p x,v,o=>AH W H x v/\o=[]
 |.ro ps,v,o=>(∃a vs,v= .ref a/\Xb W.K H a vs/\A7 W H ps vs)/\o=[]
 |.lst ps,v,o=>∃a vs,v= .ref a/\H a=some (.lst vs)/\A7 W H ps vs/\o=[a]
def Bj(W:Wd)(H:Hp):List (Str×B)->List (Str×V)->List Addr->Prop
 |[],vs,o=>vs=[]/\o=[]
 |(f,b)::fs,vs,o=>∃v r o1 o2,vs=(f,v)::r/\BJ W H b v o1/\Bj W H fs r o2/\o=o1++o2
def Xe(W:Wd)(c:Nat)(a:Addr)(fs:List (Str×B)):Prop:=Dv W.K (W.Br c)/\(∀q∈fs,BN W.K (W.Br c) q.1)/\(1000<=c->a=W.OT)
theorem Ld{f:Str}{b:B}:∀{fs:List (Str×B)} {q:Str×B},q∈Bq f b fs->q.1=f\/∃q'∈fs,q'.1=q.1
 | [],q,h=>by
   have h:q∈[(f,b)]:=h;rw[mE h];exact .inl rfl
 | (g, c)::fs,q,h=>by
   unfold Bq at h;split at h
   .rename_i hg;rcases mK h with z|z
    .rw[z];exact .inl hg
    .exact .inr #[q,mC z,rfl]
   .rcases mK h with z|z
    .rw[z];exact .inr #[(g,c),mS,rfl]
    .rcases Ld z with y|⟨q',y1,y2⟩
     .exact .inl y
     .exact .inr #[q',mC y1,y2]
theorem Xe.put{c:Nat}{fs:List (Str×B)}(h:Xe W c a fs)(n:BN W.K (W.Br c) f):Xe W c a (Bq f b fs):=⟨h.1,λq hq=>by
 rcases Ld hq with z|⟨q',z1,z2⟩
 .rw[z];exact n
 .rw[<-z2];exact h.2.1 q' z1,h.2.2⟩
def Ba(W:Wd)(H:Hp):C->V->List Addr->Prop
 |.b x,v,o=>BJ W H x v o
 |.obj c fs,v,o=>∃a dx vs os,v= .ref a/\H a=some (.ins (W.Br c) dx vs)/\Bj W H fs vs os/\o=a::os/\Xe W c a fs
def Mu(x:HO):Prop:=(∀xs,x≠.tup xs)/\∀o u,x≠.E4 o u
theorem BJ.own(h:BJ W H b v o):∀a∈o,∃x,H a=some x/\Mu x:=by
 cases b with
 |p x=>rw[h.2];intro a ha;cases ha
 |ro x=>rw[h.2];intro a ha;cases ha
 |lst ps=>
   obtain⟨a,vs,e,ha,_,rfl⟩:=h;intro b hb;rw[mE hb];exact#[_,ha,λ_ z=>HO.noConfusion z,λ_ _ z=>HO.noConfusion z]
theorem Bj.own:∀{fs:List (Str×B)} {vs:List (Str×V)} {o:List Addr},Bj W H fs vs o->∀a∈o,∃x,H a=some x/\Mu x
 |[],_,_,h=>by rw[h.2];intro a ha;cases ha
 | (f,b)::fs,_,_,⟨v,r,o1,o2,_,h1,h2,e⟩=>by
   rw[e];intro a ha;rcases mZ ha with z|z
   .exact h1.own a z
   .exact Bj.own h2 a z
theorem Ba.own(h:Ba W H c v o):∀a∈o,∃x,H a=some x/\Mu x:=by
 cases c with
 |b x=>exact BJ.own h
 |obj c fs=>
   obtain⟨a,dx,vs,os,e,ha,hf,rfl,_⟩:=h;intro b hb;rcases mK hb with z|z
   .rw[z];exact#[_,ha,λ_ z=>HO.noConfusion z,λ_ _ z=>HO.noConfusion z]
   .exact hf.own b z
def J5:HO->Bool
 |.Jy _=>true
 |_=>false
def Js(os:List Addr)(H H':Hp):Prop:=∀b x,H b=some x->b∉os->J5 x=false->H' b=some x
theorem Js.keep{os:List Addr}(h:Js os H H')(m:∀a∈os,∃x,H a=some x/\Mu x):AS H H':=λa=>by
 refine#[λxs e=>h a _ e (λz=>?_) rfl,λo u e=>h a _ e (λz=>?_) rfl]
 .obtain⟨x,e',m1,_⟩:=m a z;rw[e]at e';exact m1 xs (Option.some.inj e').symm
 .obtain⟨x,e',_,m2⟩:=m a z;rw[e]at e';exact m2 o u (Option.some.inj e').symm
theorem Js.refl(os:List Addr)(H:Hp):Js os H H:=λ_ _ h _ _=>h
theorem Js.of(os:List Addr)(h:BV H H'):Js os H H':=λb x e _ _=>h b x e
theorem BJ.frame{os:List Addr}(h:BJ W H b v o)(k:AS H H')(f:Js os H H')(d:∀a∈o,a∉os):BJ W H' b v o:=by
 cases b with
 |p x=>exact#[h.1.mono k,h.2]
 |ro x=>
   obtain⟨⟨a,vs,e,h1,h2⟩,h3⟩:=h;exact#[#[a,vs,e,h1.mono k,h2.mono k],h3]
 |lst ps=>
   obtain⟨a,vs,e,ha,hp,rfl⟩:=h;exact#[a,vs,e,f _ _ ha (d a mS) rfl,hp.mono k,rfl]
theorem Bj.frame{os:List Addr}(k:AS H H')(f:Js os H H'):∀{fs:List (Str×B)} {vs:List (Str×V)} {o:List Addr},Bj W H fs vs o->(∀a∈o,a∉os)->Bj W H' fs vs o
 |[],_,_,h,_=>h
 | (g,b)::fs,_,_,⟨v,r,o1,o2,e1,h1,h2,e⟩,d=>by
   subst e;exact#[v,r,o1,o2,e1,h1.frame k f (λa ha=>d a (mL ha)),Bj.frame k f h2 (λa ha=>d a (mR ha)),rfl]
theorem Ba.frame{os:List Addr}(h:Ba W H c v o)(k:AS H H')(f:Js os H H')(d:∀a∈o,a∉os):Ba W H' c v o:=by
 cases c with
 |b x=>exact BJ.frame h k f d
 |obj c fs=>
   obtain⟨a,dx,vs,os',e,ha,hf,rfl,Ao⟩:=h;exact#[a,dx,vs,os',e,f _ _ ha (d a mS) rfl,hf.frame k f (λb hb=>d b (mC hb)),rfl,Ao]
theorem Ba.cp{c:C}(h:Ba W H c v o)(hc:c.cp=true):o=[]:=by
 cases c with
 |obj c fs=>cases hc
 |b x=>
   cases x with
   |p x=>exact h.2
   |ro x=>exact h.2
   |lst x=>cases hc
def LY(H:Hp)(q:Addr×Str):Prop:=∃(oc:Obj) (u:HO) (vs:Array Value) (t:Tok),H q.1=some (.E4 oc u)/\oc.data= .fields vs/\vs[1]? =some (.str q.2 t)
theorem LY.keep{q:Addr×Str}(h:LY H q)(k:AS H H'):LY H' q:=let⟨oc,u,vs,t,e1,e2⟩:=h;#[oc,u,vs,t,(k _).2 _ _ e1,e2]
def Ds(W:Wd)(H:Hp):Prop:=(∀q∈W.tabs,∃ps:Array Value,H q.1=some (.Jy ps)/\TriplesOk ps.toList/\∀cv,codeAmong q.2.1 ps.toList=some cv->∃c,cv= .ref c/\LY H (c,q.2.2))/\∀q∈W.dC,LY H q
theorem Ds.keep(h:Ds W H)(k:AS H H')(n:∀q∈W.tabs,∀ps,H q.1=some (.Jy ps)->H' q.1=some (.Jy ps)):Ds W H':=
 ⟨λq hq=>
   let⟨ps,a,b,c⟩:=h.1 q hq
   #[ps,n q hq ps a,b,λcv e=>let⟨d,e1,e2⟩:=c cv e;#[d,e1,e2.keep k]],λq hq=>(h.2 q hq).keep k⟩
theorem Ds.same(h:Ds W H)(s:BV H H'):Ds W H':=h.keep (AS.of s) λq _ ps e=>s _ _ e
theorem Ds.upd{y:HO}(h:Ds W H)(k:AS H (upd H a x))(ha:H a=some y)(n:J5 y=false):Ds W (upd H a x):=h.keep k λq hq ps e=>by
 rw[Ab λz=>by rw[z,ha]at e;cases e;cases n];exact e
theorem BJ.nt{a:Addr}(h:BJ W H b v [a]):∃y,H a=some y/\J5 y=false:=by
 cases b with
 |p x=>cases h.2
 |ro x=>cases h.2
 |lst ps=>
   obtain⟨b,vs,e,ha,_,e2⟩:=h;cases e2;exact#[_,ha,rfl]
def A6(W:Wd)(H:Hp):Env->St->List Addr->Prop
 |[],Y,os=>Y=[]/\os=[]/\Ds W H
 |none::U,Y,os=>∃x r,Y=x::r/\A6 W H U r os
 |some c::U,Y,os=>∃v r o o2,Y=some v::r/\Ba W H c v o/\A6 W H U r o2/\os=o++o2
theorem A6.own:∀{U:Env} {Y:St} {os:List Addr},A6 W H U Y os->∀a∈os,∃x,H a=some x/\Mu x
 |[],_,_,h=>by rw[h.2.1];intro a ha;cases ha
 |none::U,_,_,⟨x,r,_,h⟩=>A6.own h
 | some c::U,_,_,⟨v,r,o1,o2,_,h1,h2,e⟩=>by
   rw[e];intro a ha;rcases mZ ha with z|z
   .exact h1.own a z
   .exact A6.own h2 a z
theorem A6.length:∀{U:Env} {Y:St} {os:List Addr},A6 W H U Y os->Y.length=U.length
 |[],_,_,h=>by rw[h.1];rfl
 |none::U,_,_,⟨x,r,e,h⟩=>by rw[e,lC,lC,A6.length h]
 |some c::U,_,_,⟨v,r,o1,o2,e,h1,h2,_⟩=>by rw[e,lC,lC,A6.length h2]
theorem A6.tb:∀{U:Env} {Y:St} {os:List Addr},A6 W H U Y os->Ds W H
 |[],_,_,h=>h.2.2
 |none::_,_,_,⟨_,_,_,h⟩=>A6.tb h
 |some _::_,_,_,⟨_,_,_,_,_,_,h,_⟩=>A6.tb h
theorem A6.frame{os:List Addr}(tb:Ds W H')(k:AS H H')(f:Js os H H'):∀{U:Env} {Y:St} {o:List Addr},A6 W H U Y o->(∀a∈o,a∉os)->A6 W H' U Y o
 |[],_,_,h,_=>#[h.1,h.2.1,tb]
 |none::U,_,_,⟨x,r,e,h⟩,d=>#[x,r,e,A6.frame tb k f h d]
 | some c::U,_,_,⟨v,r,o1,o2,e1,h1,h2,e⟩,d=>by
   subst e;exact#[v,r,o1,o2,e1,h1.frame k f (λa ha=>d a (mL ha)),A6.frame tb k f h2 (λa ha=>d a (mR ha)),rfl]
theorem A6.same{Y:St}{os:List Addr}(h:A6 W H U Y os)(s:BV H H'):A6 W H' U Y os:=A6.frame (h.tb.same s) (AS.of s) (Js.of (os:=[]) s) h (λ_ _ z=>by cases z)
theorem Ep(x:Option C)(U:Env)(i:Nat):A8 (x::U) (i+1)=A8 U i:=rfl
theorem Ja(x:Option C)(U:Env):A8 (x::U) 0=x:=rfl
theorem A6.take:∀{U:Env} {Y:St} {os:List Addr} {i:Nat} {c:C},A6 W H U Y os->A8 U i=some c->
 ∃v o os',Y[i]? =some (some v)/\Ba W H c v o/\A6 W H (U.set i none) Y os'/\(o++os').Perm os
 |[],_,_,i,c,_,e=>by simp[A8]at e
 | x::U,Y,os,0,c,h,e=>by
   rw[Ja]at e;subst e;obtain⟨v,r,o,o2,e1,h1,h2,e2⟩:=h;subst e1 e2;exact#[v,o,o2,rfl,h1,#[some v,r,rfl,h2],.refl _]
 | none::U,Y,os,i+1,c,⟨x,r,e1,h⟩,e=>by
   rw[Ep]at e;subst e1;obtain⟨v,o,os',g1,g2,g3,g4⟩:=A6.take h e;exact#[v,o,os',by simpa using g1,g2,#[x,r,rfl,g3],g4]
 | some d::U,Y,os,i+1,c,⟨u,r,o1,o2,e1,h1,h2,e2⟩,e=>by
   rw[Ep]at e;subst e1 e2;obtain⟨v,o,os',g1,g2,g3,g4⟩:=A6.take h2 e;refine#[v,o,o1++os',by simpa using g1,g2,#[u,r,o1,os',rfl,h1,g3,rfl],?_];refine List.Perm.trans ?_ (g4.append_left o1);rw[<-append_assoc,<-append_assoc];exact perm_append_comm.append_right os'
theorem A6.get{Y:St}{os:List Addr}{i:Nat}{c:C}(h:A6 W H U Y os)(e:A8 U i=some c):∃v o,Y[i]? =some (some v)/\Ba W H c v o/\∀a∈o,a∈os:=by
 obtain⟨v,o,os',g1,g2,g3,g4⟩:=h.take e;exact#[v,o,g1,g2,λa ha=>g4.subset (mL ha)]
variable{U:Env}
theorem A6.drop{Y:St}{os:List Addr}(h:A6 W H U Y os)(i:Nat):∃os',A6 W H (U.set i none) Y os'/\∃o,(o++os').Perm os:=by
 cases e:A8 U i with
 |some c=>
   obtain⟨v,o,os',_,_,g3,g4⟩:=h.take e;exact#[os',g3,o,g4]
 |none=>
   have:U.set i none=U:=by
    apply ext_getElem?;intro j;rw[List.getElem?_set];split
    .rename_i hj;subst hj;split
     .rename_i hl;unfold A8 at e;rw[List.getElem?_eq_getElem hl]at e ⊢;have e:U[i]=none:=e;rw[e]
     .rename_i hl;rw[List.getElem?_eq_none (by lia)]
    .rfl
   rw[this];exact#[os,h,[],.refl _]
theorem A6.fill(hc:Ba W H c v o):∀{U:Env} {Y:St} {os:List Addr} {i:Nat},A6 W H U Y os->A8 U i=none->i<U.length->
 ∃os',A6 W H (U.set i (some c)) (Y.set i (some v)) os'/\os'.Perm (o++os)
 |[],_,_,i,_,_,hi=>absurd hi (by simp)
 | x::U,Y,os,0,h,e,_=>by
   rw[Ja]at e;subst e;obtain⟨y,r,e1,h1⟩:=h;subst e1;exact#[o++os,#[v,r,o,os,rfl,hc,h1,rfl],.refl _]
 | none::U,Y,os,i+1,⟨x,r,e1,h⟩,e,hi=>by
   rw[Ep]at e;subst e1;obtain⟨os',g1,g2⟩:=A6.fill hc h e (by simpa using hi);exact#[os',#[x,_,rfl,g1],g2]
 | some d::U,Y,os,i+1,⟨u,r,o1,o2,e1,h1,h2,e2⟩,e,hi=>by
   rw[Ep]at e;subst e1 e2;obtain⟨os',g1,g2⟩:=A6.fill hc h2 e (by simpa using hi);refine#[o1++os',#[u,_,o1,os',rfl,h1,g1,rfl],?_];refine List.Perm.trans (g2.append_left o1) ?_;rw[<-append_assoc,<-append_assoc];exact perm_append_comm.append_right o2
theorem Bu{i:Nat}(h:i<U.length):A8 (U.set i x) i=x:=by
 unfold A8;rw[List.getElem?_set_self h];rfl
theorem C9{i:Nat}{c:C}(h:A8 U i=some c):i<U.length:=by
 unfold A8 at h;rcases Nat.lt_or_ge i U.length with z|z
 .exact z
 .rw[List.getElem?_eq_none z]at h;cases h
variable{α:Type}
theorem set_same{l:List α}{i:Nat}{x:α}(h:l[i]? =some x):l.set i x=l:=by
 apply ext_getElem?;intro j;rw[List.getElem?_set];split
 .rename_i e;subst e;split
  .exact h.symm
  .rename_i hl;rw[List.getElem?_eq_none (by lia)]
 .rfl
theorem A6.put(hc:Ba W H c v o){Y:St}{os:List Addr}{i:Nat}(h:A6 W H U Y os)(hi:i<U.length):
 ∃os' od,A6 W H (U.set i (some c)) (Y.set i (some v)) (os')/\(od++os').Perm (o++os):=by
 obtain⟨os1,h1,o1,p1⟩:=h.drop i;obtain⟨os2,h2,p2⟩:=A6.fill hc h1 (Bu hi) (by simpa using hi);rw[set_set]at h2;refine#[os2,o1,h2,?_];refine(p2.append_left o1).trans ?_;refine List.Perm.trans ?_ (p1.append_left o);rw[<-append_assoc,<-append_assoc];exact perm_append_comm.append_right os1
structure AY(H H':Hp)(os os':List Addr):Prop where
 but:Js os H H'
 src:∀a∈os',a∈os\/H a=none
 there:∀b x,H b=some x->∃x',H' b=some x'
theorem AY.refl(H:Hp)(os:List Addr):AY H H os os:=#[Js.refl _ _,λ_ h=>.inl h,λ_ x h=>#[x,h]]
variable{os1 os2:List Addr}
theorem AY.trans{os:List Addr}(a:AY H H1 os os1)(b:AY H1 H2 os1 os2):AY H H2 os os2 where
 but:=λx o e n nt=>b.but x o (a.but x o e n nt) (λz=>by
  rcases a.src x z with q|q
  .exact n q
  .rw[e]at q;cases q) nt
 src :=λx hx=>by
  rcases b.src x hx with q|q
  .exact a.src x q
  .refine .inr ?_;cases e:H x with
   |none=>rfl
   |some o=>obtain⟨o',e'⟩:=a.there x o e;rw[q]at e';cases e'
 there:=λx o e=>by
  obtain⟨o',e'⟩:=a.there x o e;exact b.there x o' e'
variable{os':List Addr}
theorem AY.of(s:BV H H'){os:List Addr}(h:∀a∈os',a∈os\/H a=none):AY H H' os os':=#[Js.of _ s,h,λb x e=>#[x,s b x e]]
theorem AY.sub{os:List Addr}(a:AY H H' os os')(h:∀x∈os2,x∈os'):AY H H' os os2:=#[a.but,λx hx=>a.src x (h x hx),a.there]
theorem AY.more{os:List Addr}(a:AY H H' os os')(r:List Addr):AY H H' (r++os) (r++os'):=
 ⟨λb x e n nt=>a.but b x e (λz=>n (mR z)) nt,λx hx=>by
   rcases mZ hx with z|z
   .exact .inl (mL z)
   .rcases a.src x z with q|q
    .exact .inl (mR q)
    .exact .inr q,a.there⟩
theorem AY.perm{os os1':List Addr}(a:AY H H' os os')(h:os.Perm os1)(h':os'.Perm os1'):AY H H' os1 os1':=
 ⟨λb x e n=>a.but b x e λz=>n (h.subset z),λx hx=>by
   rcases a.src x (h'.symm.subset hx)with q|q
   .exact .inl (h.subset q)
   .exact .inr q,a.there⟩
noncomputable def DI(W:Wd)(H:Hp):C->V->Prop
 |.b (.p x),v=>AH W H x v
 |.b (.ro ps),v=>∃a vs,v= .ref a/\Xb W.K H a vs/\A7 W H ps vs
 |.b (.lst ps),v=>∃a vs,v= .ref a/\H a=some (.lst vs)/\A7 W H ps vs
 |.obj c _,v=>∃a dx vs,v= .ref a/\H a=some (.ins (W.Br c) dx vs)
theorem BJ.rd(h:BJ W H b v o):DI W H (.b b) v:=by
 cases b with
 |p x=>exact h.1
 |ro ps=>obtain⟨⟨a,vs,e,h1,h2⟩,_⟩:=h;exact#[a,vs,e,h1,h2]
 |lst ps=>obtain⟨a,vs,e,h1,h2,_⟩:=h;exact#[a,vs,e,h1,h2]
theorem Ba.rd(h:Ba W H c v o):DI W H c v:=by
 cases c with
 |b b=>exact BJ.rd h
 |obj c fs=>obtain⟨a,dx,vs,os,e,h1,_⟩:=h;exact#[a,dx,vs,e,h1]
theorem Bj.look:∀{fs:List (Str×B)} {vs:List (Str×V)} {o:List Addr} {b:B},Bj W H fs vs o->fs.lookup f=some b->∃v o',vs.lookup f=some v/\BJ W H b v o'/\∀a∈o',a∈o
 |[],_,_,_,_,e=>by simp at e
 | (g,c)::fs,_,_,b,⟨v,r,o1,o2,e1,h1,h2,e⟩,el=>by
   subst e1 e;rw[lookup_cons]at el ⊢;cases hg:f==g with
   |true=>
     rw[hg]at el;cases el;exact#[v,o1,rfl,h1,λa ha=>mL ha]
   |false=>
     rw[hg]at el;obtain⟨u,o',g1,g2,g3⟩:=Bj.look h2 el;exact#[u,o',g1,g2,λa ha=>mR (g3 a ha)]
abbrev XP:=Nat->P->St->Hp->Prop
section
variable (W:Wd)(EX:XP){α β:Type}
def Ck(rep:Hp->Env->α->β->List Addr->Prop)(H:Hp)(os:List Addr)(Y:St)(r:Res α)(Q:β->Hp->Prop):Prop:=match r with
 |.A2=>False
 |.ok a U'=>∀b H' o os',rep H' U' a b o->A6 W H' U' Y os'->(o++os').Nodup->AY H H' os (o++os')->Q b H'
 |.err x p U'=>∀H' os',A6 W H' U' Y os'->os'.Nodup->AY H H' os os'->EX x p Y H'
def tG(rep:St->Hp->Env->α->β->List Addr->Prop)(F:Env->Res α):St->Hp->(β->Hp->Prop)->Prop:=λY H Q=>∃U os,A6 W H U Y os/\os.Nodup/\Ck W EX (rep Y) H os Y (F U) Q
def rV:St->Hp->Env->C->V->List Addr->Prop:=λ_ H _ c v o=>Ba W H c v o
def FW:St->Hp->Env->Hd->V->List Addr->Prop:=λY H _ h v o=>match h with
 |.AN c=>Ba W H c v o
 |.A4 i=>Y[i]? =some (some v)/\o=[]
 |.Aw i f=>o=[]/\∃a C dx fs,Y[i]? =some (some (.ref a))/\H a=some (.ins C dx fs)/\fs.lookup f=some v
def Bt:St->Hp->Env->List Hd->List V->List Addr->Prop
 |_,_,_,[],vs,o=>vs=[]/\o=[]
 |Y,H,U,h::hs,vs,o=>∃v r o1 o2,vs=v::r/\FW W Y H U h v o1/\Bt Y H U hs r o2/\o=o1++o2
def nC:St->Hp->Env->List P->List V->List Addr->Prop:=λ_ H _ ps vs o=>A7 W H ps vs/\o=[]
def rB:St->Hp->Env->Bool->Bool->List Addr->Prop:=λ_ _ _ b b' o=>b=b'/\o=[]
end
variable{W:Wd}{EX:XP}{α β γ δ:Type}
theorem AY.weak{os:List Addr}(a:AY H H' os os')(h:∀x∈os,x∈os2):AY H H' os2 os':=
 #[λb x e n nt=>a.but b x e (λz=>n (h b z)) nt,λx hx=>(a.src x hx).imp (h x) id,a.there]
variable{o1:List Addr}
theorem VM{o2:List Addr}(n1:(o1++os1).Nodup)(n2:(o2++os2).Nodup)(own:∀a∈o1,∃z,H1 a=some z)(src:∀a∈o2++os2,a∈os1\/H1 a=none):((o1++o2)++os2).Nodup:=by
 rw[append_assoc,nodup_append];have n1':=nA n1;refine#[n1'.1,n2,λa ha b hb e=>?_];subst e;rcases src a hb with z|z
 .exact n1'.2.2 a ha a z rfl
 .obtain⟨x,ex⟩:=own a ha;rw[z]at ex;cases ex
variable{rep:Hp->Env->α->β->List Addr->Prop}
theorem Ck.imp{os:List Addr}{Y:St}{r:Res α}{Q Q':β->Hp->Prop}(h:Ck W EX rep H os Y r Q)(k:∀b H',Q b H'->Q' b H'):Ck W EX rep H os Y r Q':=by
 unfold Ck at h ⊢;cases r with
 |A2=>exact h
 |err x p U'=>exact h
 |ok a U'=>exact λb H' o os' r1 r2 r3 r4=>k _ _ (h b H' o os' r1 r2 r3 r4)
theorem FN{Y:St}{os:List Addr}{h:Hd}{c:C}(hR:A6 W H U Y os)(hh:FW W Y H U h v o)(e:h.cont U=some c):DI W H c v:=by
 cases h with
 |AN d=>
   cases e;exact Ba.rd hh
 |A4 i=>
   obtain⟨u,o',e1,e2,_⟩:=hR.get e;rw[hh.1]at e1;cases e1;exact e2.rd
 |Aw i f=>
   obtain⟨_,a,C,dx,fs,e1,e2,e3⟩:=hh;have e:BD U i f=some c:=e;unfold BD at e;cases hg:A8 U i with
   |none=>rw[hg]at e;cases e
   |some d=>
     rw[hg]at e;cases d with
     |b x=>cases e
     |obj k fs'=>
       obtain⟨u,o',q1,q2,_⟩:=hR.get hg;rw[e1]at q1;cases q1;obtain⟨a',dx',vs,os',z,q3,q4,_⟩:=q2;cases z;rw[e2]at q3;cases q3;obtain⟨b,hb,rfl⟩:=oM e;obtain⟨v',o'',g1,g2,_⟩:=q4.look hb;rw[e3]at g1;cases g1;exact g2.rd
theorem Ck.made{os:List Addr}{Y:St}{o:List Addr}{Q:VK}(h:Ck W EX (rV W Y) H os Y (.ok c U) Q)(hR:A6 W H U Y os)(hn:os.Nodup)(s:BV H H')(r:Ba W H' c v o)(ho:o.Nodup)(hf:∀a∈o,H a=none):Q v H':=by
 refine h v H' o os r (hR.same s) ?_ (.of s λa ha=>?_)
 .rw[nodup_append];refine#[ho,hn,λa ha b hb e=>?_];subst e;obtain⟨x,e,_⟩:=hR.own a hb;rw[hf a ha]at e;cases e
 .rcases mZ ha with z|z
  .exact .inr (hf a z)
  .exact .inl z
theorem Ck.shift{os:List Addr}{Y:St}{r:Res α}{Q:β->Hp->Prop}(h:Ck W EX rep H os Y r Q)(f:AY H H1 os os1):Ck W EX rep H1 os1 Y r Q:=by
 unfold Ck at h ⊢;cases r with
 |A2=>exact h
 |err x p U'=>exact λH' os' r1 r2 r3=>h H' os' r1 r2 (f.trans r3)
 |ok a U'=>exact λb H' o os' r1 r2 r3 r4=>h b H' o os' r1 r2 r3 (f.trans r4)
theorem Ck.later{os:List Addr}{Y:St}{r:Res α}{Q:β->Hp->Prop}(h:Ck W EX rep H os Y r Q)(f:AY H H1 os (o1++os1)):Ck W EX rep H1 os1 Y r Q:=by
 unfold Ck at h ⊢;cases r with
 |A2=>exact h
 |err x p U'=>exact λH' os' r1 r2 r3=>h H' os' r1 r2 (f.trans (r3.weak λa ha=>mR ha))
 |ok a U'=>exact λb H' o os' r1 r2 r3 r4=>h b H' o os' r1 r2 r3 (f.trans (r4.weak λa ha=>mR ha))
section
variable (W:Wd)
def Fe(H:Hp)(c:C)(Q:VK):Prop:=∀v H' o,BV H H'->Ba W H' c v o->o.Nodup->(∀a∈o,H a=none)->Q v H'
def Cc(g:C->C->Option C):R2:=λx y H Q=>∃c1 c2 c,DI W H c1 x/\DI W H c2 y/\g c1 c2=some c/\Fe W H c Q
def fo(g:C->Option C):V->Hp->VK->Prop:=λx H Q=>∃c1 c,DI W H c1 x/\g c1=some c/\Fe W H c Q
def CY(H:Hp):List C->List V->Prop
 |[],vs=>vs=[]
 |c::cs,vs=>∃v r,vs=v::r/\DI W H c v/\CY H cs r
def AU(g:List C->Option C):List V->Hp->VK->Prop:=λxs H Q=>∃cs c,CY W H cs xs/\g cs=some c/\Fe W H c Q
end
theorem Fe.plain{Q:VK}(q:Fe W H (.p x) Q)(r:AH W H x v):Q v H:=q v H [] (BV.refl H) #[r,rfl] .nil (λa ha=>by cases ha)
theorem Fe.list{ps:List P}{Q:VK}(q:Fe W H (.lst ps) Q)(r:A7 W H ps vs):∀p,H p=none->Q (.ref p) (upd H p (.lst vs)):=λp hp=>by
 have s:BV H (upd H p (.lst vs)):=λb o e=>by rw[Ab (AL e hp)];exact e
 exact q (.ref p) _ [p] s #[p,vs,rfl,Ar,r.mono (AS.of s),rfl] (by simp) (λa ha=>by rw[mE ha];exact hp)
theorem Fe.tup{ps:List P}{Q:VK}(q:Fe W H (.p (.tup ps)) Q)(r:A7 W H ps vs):∀p,H p=none->Q (.ref p) (upd H p (.tup vs)):=λp hp=>by
 have s:BV H (upd H p (.tup vs)):=λb o e=>by rw[Ab (AL e hp)];exact e
 refine q (.ref p) _ [] s #[?_,rfl] .nil (λa ha=>by cases ha);unfold AH;exact#[p,vs,rfl,FX.of Ar,r.mono (AS.of s)]
theorem Cs:big<=sizeLine:=by decide
variable{H:Hp}{v:V}
theorem Ak :AH W H (.int i) v↔v= .int i:=by unfold AH;exact Iff.rfl
theorem BB{i:Bool}:AH W H (.bl i) v↔v= .bl i:=by unfold AH;exact Iff.rfl
theorem AE :AH W H (.str i) v↔v= .str i:=by unfold AH;exact Iff.rfl
theorem BR:AH W H .Az v↔v= .Az:=by unfold AH;exact Iff.rfl
theorem Ht{t:Nat}{ps:List P}:AH W H (.box t ps) v↔∃a o vs,v= .ref a/\A7 W H ps vs/\jb H a o t vs:=by unfold AH;exact Iff.rfl
theorem Fv{i:Nat}:AH W H (.fn i) v↔v= .ref (W.Cq i)/\(i<CW\/W.ok i=true):=by unfold AH;exact Iff.rfl
theorem Dj{ps:List P}:AH W H (.tup ps) v↔∃a vs,v= .ref a/\FX W.K H a vs/\A7 W H ps vs:=by unfold AH;exact Iff.rfl
theorem Zq(h:DI W H (.p x) v):AH W H x v:=h
theorem Ay(h:DI W H (.p (.int i)) v):v= .int i:=Ak.mp (Zq h)
theorem ND{i:Bool}(h:DI W H (.p (.bl i)) v):v= .bl i:=BB.mp (Zq h)
theorem Bx(h:DI W H (.p (.str i)) v):v= .str i:=AE.mp (Zq h)
theorem JH(h:DI W H (.p .Az) v):v= .Az:=BR.mp (Zq h)
theorem CJ{ps:List P}(h:DI W H (.p (.tup ps)) v):∃a vs,v= .ref a/\FX W.K H a vs/\A7 W H ps vs:=Dj.mp (Zq h)
variable{X:Cx}
theorem HC{f:Value->Value->Sem Value}{g:Int->Int->Option Int}{r:R2}(ho:Cb X f r)(hr:∀i j k H Q,g i j=some k->Q (.int k) H->r (.int i) (.int j) H Q):Cb X f (Cc W (E1 g)):=by
 rintro A1 s Y H x y v u Q I rx ry ⟨c1,c2,c,h1,h2,e,q⟩
 unfold E1 at e;split at e
 .rename_i i j;obtain⟨k,ek,rfl⟩:=oM e;cases Ay h1;cases Ay h2;exact ho A1 s Y H _ _ v u Q I rx ry (hr i j k H Q ek (q.plain (Ak.mpr rfl)))
 .cases e
theorem fT:Cb X (binaryOp .Sub) (Cc W (E1 eK)):=HC ZN λi j k H Q e q=>by cases e;exact#[i,j,rfl,rfl,q]
theorem fX:Cb X (binaryOp .Mod) (Cc W (E1 Pp)):=HC ZQ λi j k H Q e q=>by
 unfold Pp at e;split at e
 .cases e;exact#[i,j,rfl,rfl,‹_›,q]
 .cases e
theorem ZY:Cb X (binaryOp .FloorDiv) (Cc W (E1 Jc)):=HC VD λi j k H Q e q=>by
 unfold Jc at e;split at e
 .cases e;exact#[i,j,rfl,rfl,‹_›,q]
 .cases e
theorem fU:Cb X (binaryOp .Pow) (Cc W (E1 P5)):=HC ZO λi j k H Q e q=>by
 unfold P5 at e;split at e
 .rename_i h;cases e;exact#[i,j,rfl,rfl,#[h.1,by lia,h.2.2],q]
 .cases e
theorem ED{ps:List P}(h:A7 W H ps vs):vs=[]↔ps=[]:=by
 have:=h.length;constructor
 .intro z;rw[z]at this;exact length_eq_zero_iff.mp this.symm
 .intro z;rw[z]at this;exact length_eq_zero_iff.mp this
theorem fZ(hK:W.K=X.K):Cb X (binaryOp .Add) (Cc W LS):=by
 rintro A1 s Y H x y v u Q I rx ry ⟨c1,c2,c,h1,h2,e,q⟩
 unfold LS at e;split at e
 .rename_i i j;cases e;cases Ay h1;cases Ay h2;exact ZT A1 s Y H _ _ v u Q I rx ry #[i,j,rfl,rfl,q.plain (Ak.mpr rfl)]
 .rename_i i j;split at e
  .rename_i hl;cases e;cases Bx h1;cases Bx h2;exact Mv A1 s Y H _ _ v u Q I rx ry #[i,j,rfl,rfl,Nat.le_trans hl Cs,q.plain (AE.mpr rfl)]
  .cases e
 .rename_i i j;split at e
  .cases e
  rename_i hie;unfold Ky at e;split at e
  .rename_i hl;cases e;obtain⟨a,vs,rfl,s1,r1⟩:=CJ h1;obtain⟨b,ws,rfl,s2,r2⟩:=CJ h2;rw[hK]at s1 s2;have hi:vs≠[]:=λz=>hie (by rw[(ED r1).mp z];rfl)
   refine VE A1 s Y H _ _ v u Q I rx ry #[a,b,vs,ws,rfl,rfl,s1,s2,hi,?_,λz=>?_,λ_=>?_]
   .rw[r1.length,r2.length,<-lA];exact Nat.le_trans hl Cs
   .have ej:=(ED r2).mp z;rw[ej,append_nil]at q;exact q.plain h1
   .exact q.tup (A7.append r2 r1)
  .cases e
 .rename_i i j;unfold Ky at e;split at e
  .rename_i hl;cases e;obtain⟨a,vs,rfl,s1,r1⟩:=h1;obtain⟨b,ws,rfl,s2,r2⟩:=h2;refine ZS A1 s Y H _ _ v u Q I rx ry #[a,b,vs,ws,rfl,rfl,s1,s2,?_,q.list (A7.append r2 r1)];rw[r1.length,r2.length,<-lA];exact Nat.le_trans hl Cs
  .cases e
 .cases e
theorem fW:Cb X (binaryOp .Mult) (Cc W mulC):=by
 rintro A1 s Y H x y v u Q I rx ry ⟨c1,c2,c,h1,h2,e,q⟩
 unfold mulC at e;split at e
 .rename_i z j;split at e
  .rename_i hl;cases e;cases Bx h1;cases Ay h2;obtain⟨t,rfl⟩:=rx;obtain⟨t',rfl⟩:=ry;obtain⟨l1,l2,l3⟩:=hl;have n1:¬j<1:=by lia
   have n2:¬(j==1||z.length==0)=true:=by simp[l1];lia
   have n3:Builtin.Str.tooLong (z.length*j.toNat)=false:=by
    rw[l1,Nat.one_mul];have h9:(1000:Nat)<=sizeLine:=by decide
    exact dF (by lia)
   have n4:¬((z.length:Int)>(2^63-1)/j):=by
    rw[l1];have h9:=Int.le_ediv_of_mul_le (a:=1) (b:=2^63-1) (c:=j) (by lia) (by lia)
    lia
   refine P.mul_str (by rw[dF (by lia),dF (by lia)];rfl) (λ_ _=>n4) (λ_ _=>n3) ?_;rw[iN n1,iN n2];exact#[fits_reps n3,.str _,H,I.tok _,#[_,rfl],q.plain (AE.mpr rfl)]
  .cases e
 .exact HC (W:=W) (g:=RN) ZP (λi j k H Q e q=>by
   unfold RN at e;split at e
   .cases e;exact#[i,j,rfl,rfl,‹_›,q]
   .cases e) A1 s Y H x y v u Q I rx ry #[_,_,c,h1,h2,e,q]
theorem dR:YH X (unaryOp .USub) (fo W (F3 ah)):=by
 rintro A1 s Y H x v Q I rx ⟨c1,c,h1,e,q⟩
 unfold F3 at e;split at e
 .rename_i i;cases e;cases Ay h1;exact YN A1 s Y H _ v Q I rx #[i,rfl,q.plain (Ak.mpr rfl)]
 .cases e
theorem MR(n:Nat)(i:Int):Iv.Ln n i=L2.Ln n i:=by
 unfold Iv.Ln L2.Ln;rfl
theorem gD(hK:W.K=X.K){g:C->C->Option C}:XE X (Cc W CP):=by
 rintro value slice A1 s Y H x y v u Q I rx ry ⟨c1,c2,c,h1,h2,e,q⟩ hs
 have e0:=e;unfold CP at e;split at e
 .rename_i c' ps i hc;obtain⟨k,hk,e⟩:=oB e;obtain⟨p,hp,rfl⟩:=oM e;cases Ay h2
  obtain⟨a,vs,rfl,s1,r1⟩:∃a vs,x= .ref a/\Fd W.K H a vs/\A7 W H ps vs:=by
   cases c1 with
   |obj _ _=>cases hc
   |b b=>
     cases b with
     |p _=>cases hc
     |lst _=>cases hc;obtain⟨a,vs,e1,e2,e3⟩:=h1;exact#[a,vs,e1,Fd.of e2,e3]
     |ro _=>cases hc;obtain⟨a,vs,e1,e2,e3⟩:=h1;exact#[a,vs,e1,e2.sq,e3]
  obtain⟨w,hw,rw'⟩:=r1.get hp;refine W5 value slice A1 s Y H _ _ v u Q I rx ry #[a,vs,i,w,rfl,rfl,hK▸s1,?_,q.plain rw'] hs;unfold YF;rw[r1.length,<-MR,hk];exact hw
 .rename_i c' ps i hc;obtain⟨k,hk,e⟩:=oB e;obtain⟨p,hp,rfl⟩:=oM e;cases Ay h2
  have hc:c1= .p (.tup ps):=by
   cases c1 with
   |obj _ _=>cases hc
   |b b=>cases b<;>cases hc<;>rfl
  subst hc;obtain⟨a,vs,rfl,s1,r1⟩:=CJ h1;obtain⟨w,hw,rw'⟩:=r1.get hp;refine aM value slice A1 s Y H _ _ v u Q I rx ry #[a,vs,i,w,rfl,rfl,hK▸s1,?_,q.plain rw'] hs;unfold YF;rw[r1.length,<-MR,hk];exact hw
 .rename_i c' z i hc;split at e
  .rename_i hl;obtain⟨k,hk,e⟩:=oB e;obtain⟨p,hp,rfl⟩:=oM e;cases Ay h2
   have hc:c1= .p (.str z):=by
    cases c1 with
    |obj _ _=>cases hc
    |b b=>cases b<;>cases hc<;>rfl
   subst hc;cases Bx h1;refine aN value slice A1 s Y H _ _ v u Q I rx ry #[z,i,p,rfl,rfl,Nat.le_trans hl Cs,?_,q.plain (AE.mpr rfl)] hs;unfold YF;have:z.cps.toList.length=z.length:=by show z.cps.toList.length=z.cps.size;simp
   rw[this,<-MR,hk];exact hp
  .cases e
 .cases e
theorem FW.kv{Y:St}{h:Hd}{os:List Addr}(hf:∀i f,h≠.Aw i f)(r:FW W Y H1 U1 h v o)(k:AS H1 H2)(b:Js os H1 H2)(d:∀a∈o,a∉os):FW W Y H2 U2 h v o:=by
 cases h with
 |AN c=>exact Ba.frame r k b d
 |A4 i=>exact r
 |Aw i f=>exact absurd rfl (hf i f)
theorem FW.own{Y:St}(r:FW W Y H U h v o):∀a∈o,∃z,H a=some z:=by
 cases h with
 |AN c=>exact λa ha=>let⟨x,e,_⟩:=Ba.own r a ha;#[x,e]
 |A4 i=>intro a ha;rw[r.2]at ha;cases ha
 |Aw i f=>intro a ha;rw[r.1]at ha;cases ha
theorem Si{F:Env->Res Hd}{G:Env->Res (List Hd)}{Y:St}{Q:List V->Hp->Prop}(hF:∀U h U',F U= .ok h U'->∀i f,h≠.Aw i f)
 (h:tG W EX (Bt W) (λU=>(F U).bind λh U=>(G U).bind λhs U=>.ok (h::hs) U) Y H Q):Bl (tG W EX (FW W) F) (tG W EX (Bt W) G) Y H Q:=by
 obtain⟨U,os,hR,hn,hA⟩:=h
 try dsimp only at hA
 refine#[U,os,hR,hn,?_];unfold Ck;cases eF:F U with
 |A2=>rw[eF]at hA;exact hA
 |err x p U'=>rw[eF]at hA;exact hA
 |ok a U1=>
   rw[eF]at hA;intro u H1 o1 os1 rA hR1 hn1 fr1;have n1:=nA hn1;refine#[U1,os1,hR1,n1.2.1,?_];unfold Ck;rw[Res.A5]at hA;cases eG:G U1 with
   |A2=>rw[eG]at hA;exact hA
   |err e p U2=>
     rw[eG]at hA;exact λH' os' hR' hn' fr'=>hA H' os' hR' hn' (fr1.trans (fr'.weak λa ha=>mR ha))
   |ok b U2=>
     rw[eG,Res.A5]at hA;intro ws H2 o2 os2 rB' hR2 hn2 fr2;have k2:AS H1 H2:=fr2.but.keep hR1.own;refine hA (u::ws) H2 (o1++o2) os2 #[u,ws,o1,o2,rfl,rA.kv (hF U a U1 eF) k2 fr2.but (λa ha z=>n1.2.2 a ha a z rfl),rB',rfl] hR2 (VM hn1 hn2 rA.own fr2.src) ?_;rw[append_assoc];exact fr1.trans (fr2.more o1)
theorem E6{Y:St}{os:List Addr}(hR:A6 W H U Y os):∀{hs:List Hd} {cs:List C} {vs:List V} {o:List Addr},Bt W Y H U hs vs o->Ag U hs=some cs->CY W H cs vs
 | [],cs,vs,o,h,e=>by
   cases e;exact h.1
 | h::hs,cs,vs,o,⟨v,r,o1,o2,e1,h1,h2,e2⟩,e=>by
   unfold Ag at e;obtain⟨c,ec,e⟩:=oB e;obtain⟨ds,ed,rfl⟩:=oM e;exact#[v,r,e1,FN hR h1 ec,E6 hR h2 ed]
theorem XX{F:Env->Res (List Hd)}{g:List C->Option C}{Y:St}{Q:VK}
 (h:tG W EX (rV W) (λU=>(F U).bind λhs U=>Res.of ((Ag U hs).bind g) U) Y H Q):tG W EX (Bt W) F Y H λvs H1=>AU W g vs H1 Q:=by
 obtain⟨U,os,hR,hn,hA⟩:=h
 try dsimp only at hA
 refine#[U,os,hR,hn,?_];unfold Ck;cases eF:F U with
 |A2=>rw[eF]at hA;exact hA
 |err x p U'=>rw[eF]at hA;exact hA
 |ok hs U1=>
   rw[eF,Res.A5]at hA;intro vs H1 o1 os1 rA hR1 hn1 fr1;have n1:=nA hn1;cases ec:Ag U1 hs with
   |none=>rw[ec]at hA;exact hA.elim
   |some cs=>
     rw[ec]at hA;have hA:Ck W EX (rV W Y) H os Y (Res.of (g cs) U1) Q:=hA;cases eg:g cs with
     |none=>rw[eg]at hA;exact hA.elim
     |some c=>
       rw[eg]at hA;have hA:=hA.later fr1;exact#[cs,c,E6 hR1 rA ec,eg,λv H' o s r ho hf=>hA.made hR1 n1.2.1 s r ho hf]
def AR(as:List Nat)(Y Y':St):Prop:=Y'.length=Y.length/\∀i,i∉as->Y'[i]? =Y[i]?
theorem AR.refl(as:List Nat)(Y:St):AR as Y Y:=#[rfl,λ_ _=>rfl]
variable{as:List Nat}{Y1:St}
theorem AR.trans{Y Y2:St}(a:AR as Y Y1)(b:AR as Y1 Y2):AR as Y Y2:=#[b.1.trans a.1,λi h=>(b.2 i h).trans (a.2 i h)]
theorem AR.mono{bs:List Nat}{Y Y':St}(a:AR as Y Y')(h:∀i∈as,i∈bs):AR bs Y Y':=#[a.1,λi hi=>a.2 i λz=>hi (h i z)]
theorem AR.set{Y:St}{i:Nat}{x:Option V}(h:i∈as):AR as Y (Y.set i x):=⟨length_set ..,λj hj=>by
 rw[List.getElem?_set_ne]
 exact λz=>hj (z▸h)⟩
section
variable (W:Wd)(EX:XP)
def De(as:List Nat)(D:Ends)(Y:St)(H:Hp)(os:List Addr)(r:Res Fl):Prop:=match r with
 |.A2=>False
 |.err x p U'=>∀Y' H' os',A6 W H' U' Y' os'->os'.Nodup->AY H H' os os'->AR as Y Y'->EX x p Y' H'
 |.ok .nx U'=>∀Y' H' os',A6 W H' U' Y' os'->os'.Nodup->AY H H' os os'->AR as Y Y'->D.nx Y' H'
 |.ok .brk U'=>∀Y' H' os',A6 W H' U' Y' os'->os'.Nodup->AY H H' os os'->AR as Y Y'->D.bk Y' H'
 |.ok .cnt U'=>∀Y' H' os',A6 W H' U' Y' os'->os'.Nodup->AY H H' os os'->AR as Y Y'->D.ct Y' H'
 |.ok (.ret c) U'=>∀v Y' H' o os',Ba W H' c v o->A6 W H' U' Y' os'->(o++os').Nodup->AY H H' os (o++os')->AR as Y Y'->D.rt v H'
def tS(as:List Nat)(F:Env->Res Fl):TS:=λD Y H=>∃U os,A6 W H U Y os/\os.Nodup/\De W EX as D Y H os (F U)
end
variable{as:List Nat}{D:Ends}{Y:St}{os:List Addr}{r:Res Fl}
theorem De.later(h:De W EX as D Y H os r)(f:AY H H1 os os1)(u:AR as Y Y1):De W EX as D Y1 H1 os1 r:=by
 have fr:∀{H' os'},AY H1 H' os1 os'->AY H H' os os':=λg=>f.trans g
 cases r with
 |A2=>exact h
 |err x p U'=>exact λY' H' os' h1 h2 h3 h4=>h Y' H' os' h1 h2 (fr h3) (u.trans h4)
 |ok f U'=>
   cases f with
   |nx=>exact λY' H' os' h1 h2 h3 h4=>h Y' H' os' h1 h2 (fr h3) (u.trans h4)
   |brk=>exact λY' H' os' h1 h2 h3 h4=>h Y' H' os' h1 h2 (fr h3) (u.trans h4)
   |cnt=>exact λY' H' os' h1 h2 h3 h4=>h Y' H' os' h1 h2 (fr h3) (u.trans h4)
   |ret c=>exact λv Y' H' o os' h0 h1 h2 h3 h4=>h v Y' H' o os' h0 h1 h2 (fr h3) (u.trans h4)
theorem De.more{bs:List Nat}(h:De W EX bs D Y H os r)(hm:∀i∈as,i∈bs):De W EX as D Y H os r:=by
 cases r with
 |A2=>exact h
 |err x p U'=>exact λY' H' os' h1 h2 h3 h4=>h Y' H' os' h1 h2 h3 (h4.mono hm)
 |ok f U'=>
   cases f with
   |nx=>exact λY' H' os' h1 h2 h3 h4=>h Y' H' os' h1 h2 h3 (h4.mono hm)
   |brk=>exact λY' H' os' h1 h2 h3 h4=>h Y' H' os' h1 h2 h3 (h4.mono hm)
   |cnt=>exact λY' H' os' h1 h2 h3 h4=>h Y' H' os' h1 h2 h3 (h4.mono hm)
   |ret c=>exact λv Y' H' o os' h0 h1 h2 h3 h4=>h v Y' H' o os' h0 h1 h2 h3 (h4.mono hm)
theorem after{β:Type}{rep:St->Hp->Env->α->β->List Addr->Prop}{F:Env->Res α}{G:α->Env->Res Fl}{K:β->Hp->Prop}(hR:A6 W H U Y os)(h:De W EX as D Y H os ((F U).bind G))
 (k:∀a U1 b H1 o1 os1,rep Y H1 U1 a b o1->A6 W H1 U1 Y os1->(o1++os1).Nodup->AY H H1 os (o1++os1)->De W EX as D Y H1 (o1++os1) (G a U1)->K b H1):Ck W EX (rep Y) H os Y (F U) K:=by
 unfold Ck;cases eF:F U with
 |A2=>rw[eF]at h;exact h
 |err x p U'=>
   rw[eF]at h;exact λH' os' h1 h2 h3=>h Y H' os' h1 h2 h3 (AR.refl _ _)
 |ok a U1=>
   rw[eF,Res.A5]at h;exact λb H1 o1 os1 h1 h2 h3 h4=>k a U1 b H1 o1 os1 h1 h2 h3 h4 (h.later h4 (AR.refl _ _))
theorem QX(h:tS W EX [] (λU=>.ok .nx U) D Y H):Np D Y H:=by
 obtain⟨U,os,hR,hn,hA⟩:=h
 try dsimp only at hA
 exact hA Y H os hR hn (AY.refl _ _) (AR.refl _ _)
variable{a1 a2:List Nat}{G:Env->Res Fl}
theorem Zm{F:Env->Res Fl}(h:tS W EX (a1++a2) (λU=>(F U).bind λf U=>match f with| .nx=>G U|f=>.ok f U) D Y H):eh (tS W EX a1 F) (tS W EX a2 G) D Y H:=by
 obtain⟨U,os,hR,hn,hA⟩:=h
 try dsimp only at hA
 have m1:∀i∈a1,i∈a1++a2:=λi hi=>mL hi
 have m2:∀i∈a2,i∈a1++a2:=λi hi=>mR hi
 refine#[U,os,hR,hn,?_];cases eF:F U with
 |A2=>rw[eF]at hA;exact hA
 |err x p U'=>rw[eF]at hA;exact λY' H' os' h1 h2 h3 h4=>hA Y' H' os' h1 h2 h3 (h4.mono m1)
 |ok f U1=>
   rw[eF,Res.A5]at hA;cases f with
   |nx=>
     intro Y' H' os' h1 h2 h3 h4;have hA:De W EX (a1++a2) D Y H os (G U1):=hA;exact#[U1,os',h1,h2,(hA.later h3 (h4.mono m1)).more m2]
   |brk=>exact λY' H' os' h1 h2 h3 h4=>hA Y' H' os' h1 h2 h3 (h4.mono m1)
   |cnt=>exact λY' H' os' h1 h2 h3 h4=>hA Y' H' os' h1 h2 h3 (h4.mono m1)
   |ret c=>exact λv Y' H' o os' h0 h1 h2 h3 h4=>hA v Y' H' o os' h0 h1 h2 h3 (h4.mono m1)
theorem kD{B:Env->Res Bool}{F:Env->Res Fl}(h:tS W EX (a1++a2) (λU=>(B U).bind λx U=>if x then F U else G U) D Y H):eC (tG W EX rB B) (tS W EX a1 F) (tS W EX a2 G) D Y H:=by
 obtain⟨U,os,hR,hn,hA⟩:=h
 try dsimp only at hA
 refine#[U,os,hR,hn,after hR hA λa U1 b H1 o1 os1 h1 h2 h3 h4 h5=>?_];obtain⟨rfl,rfl⟩:=h1;cases a with
 |true=>exact#[U1,os1,h2,h3,h5.more λi hi=>mL hi]
 |false=>exact#[U1,os1,h2,h3,h5.more λi hi=>mR hi]
variable{F:Env->Res C}
theorem Zl(h:tS W EX [] (λU=>(F U).bind λ_ U=>.ok .nx U) D Y H):XN (tG W EX (rV W) F) D Y H:=by
 obtain⟨U,os,hR,hn,hA⟩:=h
 try dsimp only at hA
 refine#[U,os,hR,hn,after hR hA λa U1 b H1 o1 os1 h1 h2 h3 h4 h5=>?_];exact h5 Y H1 os1 h2 (nA h3).2.1 ((AY.refl _ _).sub λa ha=>mR ha) (AR.refl _ _)
theorem eQ(h:tS W EX [] (λU=>(F U).bind λc U=>.ok (.ret c) U) D Y H):ei (tG W EX (rV W) F) D Y H:=by
 obtain⟨U,os,hR,hn,hA⟩:=h
 try dsimp only at hA
 refine#[U,os,hR,hn,?_];unfold Ck;cases eF:F U with
 |A2=>rw[eF]at hA;exact hA
 |err x p U'=>
   rw[eF]at hA;exact λH' os' h1 h2 h3=>hA Y H' os' h1 h2 h3 (AR.refl _ _)
 |ok a U1=>
   rw[eF]at hA;exact λb H1 o1 os1 h1 h2 h3 h4=>hA b Y H1 o1 os1 h1 h2 h3 h4 (AR.refl _ _)
theorem Ze(h:tS W EX [] (λU=>.ok (.ret (.p .Az)) U) D Y H):XI D Y H:=by
 obtain⟨U,os,hR,hn,hA⟩:=h
 try dsimp only at hA
 exact hA .Az Y H [] os #[by unfold AH;rfl,rfl] hR hn (AY.refl _ _) (AR.refl _ _)
theorem CD{o os od:List Addr}(hn:(o++os).Nodup)(p:(od++os').Perm (o++os)):os'.Nodup:=(nA (p.nodup_iff.mpr hn)).2.1
theorem eP{i:Nat}(hi:i<Y.length)(h:tS W EX [i] (λU=>(F U).bind λc U=>.ok .nx (U.set i (some c))) D Y H):QD (tG W EX (rV W) F) (EH i) D Y H:=by
 obtain⟨U,os,hR,hn,hA⟩:=h
 try dsimp only at hA
 refine#[U,os,hR,hn,after hR hA λc U1 v H1 o1 os1 h1 h2 h3 h4 h5=>?_];obtain⟨os2,od,r2,p2⟩:=A6.put h1 h2 (by rw[<-h2.length];exact hi);exact h5 (Y.set i (some v)) H1 os2 r2 (CD h3 p2) ((AY.refl _ _).sub λa ha=>p2.subset (mR ha)) (AR.set mS)
end Iv
namespace Iv
open PySem L2
open Classical in
noncomputable def Ai:WH:=λc b U=>if h:∃n,∃f U',Ap c b n U= .ok f U'\/∃x p,Ap c b n U= .err x p U' then Ap c b h.choose U else .A2
theorem Jt{c:Env->Res Bool}{b:Env->Res Fl}(h:Ai c b U≠.A2):∃n,Ap c b n U=Ai c b U:=by
 unfold Ai at h ⊢;split
 .exact#[_,rfl]
 .rename_i hn;rw[dif_neg hn]at h;exact absurd rfl h
theorem AX{c:Env->Res Bool}{b:Env->Res Fl}(n:Nat)(U:Env):Ap c b (n+1) U=(c U).bind λx U=>if x then(b U).bind λf U=>match f with
 |.nx=>Ap c b n U
 |.cnt=>Ap c b n U
 |.brk=>.ok .nx U
 |.ret r=>.ok (.ret r) U
 else .ok .nx U:=rfl
theorem CZ{c:Env->Res Bool}{b:Env->Res Fl}:∀(n:Nat) (U:Env),Ap c b n U≠.A2->Ap c b (n+1) U=Ap c b n U
 |0,U,h=>absurd rfl h
 | n + 1,U,h=>by
   rw[AX]at h;rw[AX (n+1),AX n];cases ec:c U with
   |A2=>rfl
   |err x p U'=>rfl
   |ok x U1=>
     rw[ec,Res.A5]at h;rw[Res.A5,Res.A5];cases x with
     |false=>rfl
     |true=>
       rw[iP rfl]at h;rw[iP rfl,iP rfl];cases eb:b U1 with
       |A2=>rfl
       |err x p U'=>rfl
       |ok f U2=>
         rw[eb,Res.A5]at h;rw[Res.A5,Res.A5];cases f with
         |nx=>exact CZ n U2 h
         |cnt=>exact CZ n U2 h
         |brk=>rfl
         |ret r=>rfl
variable{n:Nat}
theorem EL{c:Env->Res Bool}{b:Env->Res Fl}(h:Ap c b n U≠.A2):∀m,Ap c b (n+m) U=Ap c b n U
 |0=>rfl
 | m+1=>by
   have ih:=EL h m;rw[<-Nat.add_assoc,CZ (n+m) U (by rw[ih];exact h),ih]
theorem Qj{c:Env->Res Bool}{b:Env->Res Fl}(h:Ap c b n U≠.A2):Ai c b U=Ap c b n U:=by
 have hex:∃n,∃f U',Ap c b n U= .ok f U'\/∃x p,Ap c b n U= .err x p U':=by
  cases e:Ap c b n U with
  |A2=>exact absurd e h
  |ok f U'=>exact#[n,f,U',.inl e]
  |err x p U'=>exact#[n,.nx,U',.inr #[x,p,e]]
 have hne:Ai c b U≠.A2:=by
  unfold Ai;rw[dif_pos hex];obtain⟨f,U',z⟩:=hex.choose_spec;intro e;rcases z with z|⟨x,p,z⟩
  .rw[z]at e;cases e
  .rw[z]at e;cases e
 obtain⟨m,em⟩:=Jt hne;rw[<-em];rw[<-em]at hne;rcases Nat.le_total n m with z|z
 .obtain⟨k,rfl⟩:=Nat.exists_eq_add_of_le z;exact EL h k
 .obtain⟨k,rfl⟩:=Nat.exists_eq_add_of_le z;exact(EL hne k).symm
variable{W:Wd}{EX:XP}{as:List Nat}{D:Ends}{Y:St}{H:Hp}{os:List Addr}
theorem V7{B:Env->Res Bool}{F:Env->Res Fl}(h:tS W EX as (λU=>Ai B F U) D Y H):Qz (tG W EX rB B) (tS W EX as F) D Y H:=by
 obtain⟨U,os,hR,hn,hA⟩:=h
 try dsimp only at hA
 have hne:Ai B F U≠.A2:=λz=>by rw[z]at hA;exact hA
 obtain⟨n,en⟩:=Jt hne;rw[<-en]at hA;refine#[λm Y' H'=>∃U' os',A6 W H' U' Y' os'/\os'.Nodup/\De W EX as D Y' H' os' (Ap B F m U'),#[n,U,os,hR,hn,hA],?_]
 rintro m Y' H' ⟨U',os',hR',hn',hA'⟩
 cases m with
 |zero=>exact hA'.elim
 |succ m=>
   rw[AX]at hA';refine#[U',os',hR',hn',after hR' hA' λx U1 b H1 o1 os1 h1 h2 h3 h4 h5=>?_];obtain⟨rfl,rfl⟩:=h1;cases x with
   |false=>exact h5 Y' H1 os1 h2 h3 (AY.refl _ _) (AR.refl _ _)
   |true=>
     have h5:De W EX as D Y' H1 os1 ((F U1).bind λf U=>match f with
      |.nx=>Ap B F m U
      |.cnt=>Ap B F m U
      |.brk=>.ok .nx U
      |.ret r=>.ok (.ret r) U):=h5
     refine#[λY2 H2=>∃U' os',A6 W H2 U' Y2 os'/\os'.Nodup/\De W EX as D Y2 H2 os' (Ap B F m U'),λY2 H2 z=>#[m,Nat.lt_succ_self m,z],U1,os1,h2,h3,?_];cases eF:F U1 with
     |A2=>rw[eF]at h5;exact h5
     |err x p U2=>rw[eF]at h5;exact h5
     |ok f U2=>
       rw[eF,Res.A5]at h5;cases f with
       |nx=>exact λY2 H2 os2 g1 g2 g3 g4=>#[U2,os2,g1,g2,De.later (r:=Ap B F m U2) h5 g3 g4]
       |cnt=>exact λY2 H2 os2 g1 g2 g3 g4=>#[U2,os2,g1,g2,De.later (r:=Ap B F m U2) h5 g3 g4]
       |brk=>exact h5
       |ret c=>exact h5
structure Walk(W:Wd)(J:It)(xs:List P)(g:Hp->Prop):Prop where
 go:∀i H,g H->i<xs.length->J.go i H
 Q8:∀i H x H',g H->i<xs.length->J.Q8 i H x H'->BV H H'/\∃p,xs[i]? =some p/\AH W H' p x
 stop:∀H,g H->J.stop xs.length H
def Q9(W:Wd)(EX:XP)(k:IK)(F:Env->Res (List Hd)):TI:=λY H R=>tG W EX (Bt W) F Y H λvs H1=>∃cs xs,CY W H1 cs vs/\B5 k cs=some xs/\∀J,Walk W J xs (λH=>CY W H cs vs)->R J H1
def gK:List Nat->YI
 |[]=>gM
 |i::is=>Yq (EH i) (gK is)
def gT(W:Wd):Tg->TG
 |.nm i=>EH i
 |.tup is=>aR W.K is.length (gK is)
theorem IQ{U:Env}{i:Nat}(hp:AH W H p v)(hR:A6 W H U Y os)(hn:os.Nodup)(hi:i<Y.length):∃os',A6 W H (U.set i (some (.p p))) (Y.set i (some v)) os'/\os'.Nodup/\∀a∈os',a∈os:=by
 obtain⟨os',od,r,q⟩:=A6.put (c:=.p p) (v:=v) (o:=[]) #[hp,rfl] hR (by rw[<-hR.length];exact hi);exact#[os',r,CD (o:=[]) hn q,λa ha=>q.subset (mR ha)]
theorem Sr{Q:St->Hp->Prop}:∀{is:List Nat} {ps:List P} {vs:List V} {U:Env} {Y:St} {os:List Addr},A7 W H ps vs->is.length=ps.length->A6 W H U Y os->os.Nodup->(∀i∈is,i<Y.length)->
 (∀Y' os',A6 W H ((is.zip ps).foldl (λr q=>r.set q.1 (some (.p q.2))) U) Y' os'->os'.Nodup->(∀a∈os',a∈os)->AR is Y Y'->Q Y' H)->gK is vs Y H Q
 | [],ps,vs,U,Y,os,hp,hl,hR,hn,hi,q=>by
   have:ps=[]:=length_eq_zero_iff.mp hl.symm;subst this;unfold A7 at hp;exact#[hp,q Y os hR hn (λa ha=>ha) (AR.refl _ _)]
 | i ::is,ps,vs,U,Y,os,hp,hl,hR,hn,hi,q=>by
   cases ps with
   |nil=>cases hl
   |cons p ps=>
     cases vs with
     |nil=>unfold A7 at hp;obtain⟨_,_,e,_⟩:=hp;cases e
     |cons v vs=>
       obtain⟨os1,r1,n1,s1⟩:=IQ hp.EM.1 hR hn (hi i mS);refine#[v,vs,rfl,Sr hp.EM.2 (by simpa using hl) r1 n1 (λj hj=>by rw[length_set];exact hi j (mC hj)) λY' os' g1 g2 g3 g4=>?_];refine q Y' os' g1 g2 (λa ha=>s1 a (g3 a ha)) ?_;exact(AR.set mS).trans (g4.mono λj hj=>mC hj)
theorem Ss{Q:St->Hp->Prop}{g:Tg}{U':Env}(e:Ew g p U=some U')(hp:AH W H p v)(hR:A6 W H U Y os)(hn:os.Nodup)(hi:∀i∈g.slots,i<Y.length)
 (q:∀Y' os',A6 W H U' Y' os'->os'.Nodup->(∀a∈os',a∈os)->AR g.slots Y Y'->Q Y' H):gT W g v Y H Q:=by
 cases g with
 |nm i=>
   cases e;obtain⟨os1,r1,n1,s1⟩:=IQ hp hR hn (hi i mS);exact q _ os1 r1 n1 s1 (AR.set mS)
 |tup is=>
   unfold Ew at e;cases p with
   |tup ps=>
     dsimp only at e;split at e
     .rename_i hl;cases e;obtain⟨a,vs,rfl,s1,r1⟩:=Dj.mp hp;exact#[a,vs,rfl,s1,by rw[r1.length,<-hl],Sr r1 hl hR hn hi q]
     .cases e
   |_=>cases e
variable{H:Hp}
theorem CY.length:∀{cs:List C} {vs:List V},CY W H cs vs->vs.length=cs.length
 |[],vs,h=>by rw[show vs=[]from h];rfl
 |c::cs,vs,⟨v,r,e,_,h⟩=>by rw[e,lC,lC,CY.length h]
theorem D9{h:Hd}{hs:List Hd}{c:C}{cs:List C}(g:AD (h::hs) (c::cs)=true):(c.cp=true\/∀i f,h≠.Aw i f)/\AD hs cs=true:=by
 unfold AD at g ⊢;rw[zip_cons_cons,all_cons,bA]at g;refine#[?_,g.2]
 by_cases hc:c.cp=true
 .exact .inl hc
 .refine .inr λi f e=>?_
  subst e;have:=g.1;simp[hc]at this
theorem JG{Y Y':St}{H':Hp}{os os':List Addr}(hR':A6 W H' U' Y' os')(k:AS H H')(hb:Js b H H'):∀{hs:List Hd} {cs:List C} {vs:List V} {o:List Addr},Bt W Y H U hs vs o->Ag U hs=some cs->A6 W H U Y os->AD hs cs=true->
 (∀q∈Bh hs cs,A8 U' q.1=some q.2/\Y'[q.1]? =Y[q.1]?)->(∀a∈o,a∉b)->CY W H' cs vs
 |[],cs,vs,o,h,e,_,_,_,_=>by cases e;exact h.1
 | h ::hs,cs,vs,o,⟨v,r,o1,o2,e1,h1,h2,e2⟩,e,hR,hg,hgs,hd=>by
   unfold Ag at e;obtain⟨c,ec,e⟩:=oB e;obtain⟨ds,ed,rfl⟩:=oM e;subst e2;obtain⟨hgh,hg'⟩:=D9 hg
   have hgs':∀q∈Bh hs ds,A8 U' q.1=some q.2/\Y'[q.1]? =Y[q.1]? :=λq hq=>hgs q (by
    unfold Bh at hq ⊢;rw[zip_cons_cons];rw[filterMap_cons];split
    .exact hq
    .exact mC hq)
   refine#[v,r,e1,?_,JG hR' k hb h2 ed hR hg' hgs' λa ha=>hd a (mR ha)];have hrd:=FN hR h1 ec
   by_cases hc:c.cp=true
   .cases c with
    |obj _ _=>cases hc
    |b x=>
      cases x with
      |lst _=>cases hc
      |p x=>exact AH.mono k hrd
      |ro x=>
        obtain⟨a,vs',ea,hs',hr⟩:=hrd;exact#[a,vs',ea,hs'.mono k,hr.mono k]
   .have hc:c.cp=false:=by simpa using hc
    cases h with
    |AN d=>
      cases ec;exact(Ba.frame h1 k hb λa ha=>hd a (mL ha)).rd
    |A4 i=>
      have hm:(i,c)∈Bh (.A4 i::hs) (c::ds):=by
       unfold Bh;rw[zip_cons_cons,filterMap_cons];simp[hc]
      obtain⟨g1,g2⟩:=hgs (i,c) hm;obtain⟨u,o',q1,q2,_⟩:=hR'.get g1;have q1:Y'[i]? =some (some u):=q1;have g2:Y'[i]? =Y[i]? :=g2;rw[g2,h1.1]at q1;cases q1;exact q2.rd
    |Aw i f=>exact absurd rfl (hgh.resolve_left (by rw[hc];exact Bool.false_ne_true) i f)
end Iv
namespace Iv
open PySem L2
variable{W:Wd}{EX:XP}{as:List Nat}{D:Ends}{Y:St}{H:Hp}{os:List Addr}
theorem Bt.own :∀{hs:List Hd} {vs:List V} {o:List Addr},Bt W Y H U hs vs o->∀a∈o,∃z,H a=some z
 |[],_,_,h=>by rw[h.2];intro a ha;cases ha
 | h::hs,_,_,⟨v,r,o1,o2,_,h1,h2,e⟩=>by
   rw[e];intro a ha;rcases mZ ha with z|z
   .exact h1.own a z
   .exact Bt.own h2 a z
theorem NV{H:Hp}{o os os':List Addr}(n:(o++os).Nodup)(n':os'.Nodup)(own:∀a∈o,∃z,H a=some z)(src:∀a∈os',a∈os\/H a=none):(o++os').Nodup:=by
 have n1:=nA n;rw[nodup_append];refine#[n1.1,n',λa ha b hb e=>?_];subst e;rcases src a hb with z|z
 .exact n1.2.2 a ha a z rfl
 .obtain⟨x,ex⟩:=own a ha;rw[z]at ex;cases ex
theorem J9{gs:List (Nat×C)}(h:holds gs U=true):∀q∈gs,A8 U q.1=some q.2:=λq hq=>by
 unfold holds at h;exact of_decide_eq_true (all_eq_true.mp h q hq)
variable{F:Env->Res (List Hd)}
theorem fe{k:IK}{g:Tg}{bs:List Nat}{B:Env->Res Fl}(hi:∀i∈g.slots,i<Y.length)(h:tS W EX (g.slots++bs) (λU=>(F U).bind (PN k g bs B)) D Y H):eD (Q9 W EX k F) (gT W g) (tS W EX bs B) D Y H:=by
 obtain⟨U,os,hR,hn,hA⟩:=h
 try dsimp only at hA
 refine#[U,os,hR,hn,after hR hA λhs U1 vs H1 o1 os1 h1 h2 h3 h4 h5=>?_];unfold PN at h5;cases ec:Ag U1 hs with
 |none=>rw[ec]at h5;exact h5.elim
 |some cs =>
   rw[ec]at h5;dsimp only at h5;cases ex:B5 k cs with
   |none=>rw[ex]at h5;exact h5.elim
   |some xs =>
     rw[ex]at h5;dsimp only at h5;refine#[cs,xs,E6 h2 h1 ec,ex,λJ hJ=>?_];split at h5
     case isFalse=>exact h5.elim
     rename_i hgd;rw[bA]at hgd
     have hgs:∀q∈Bh hs cs,q.1∉g.slots++bs:=λq hq z=>by
      have:=all_eq_true.mp hgd.2 q hq;simp only[Bool.not_eq_true',List.contains_eq_mem,decide_eq_false_iff_not]at this;exact this z
     have own1:=Bt.own h1
     refine⟨λi m Y' H'=>m=xs.length-i/\i<=xs.length/\∃U' os',A6 W H' U' Y' os'/\(o1++os').Nodup/\AY H1 H' os1 os'/\AR (g.slots++bs) Y Y'/\De W EX (g.slots++bs) D Y' H' (o1++os') (forL g (Bh hs cs) B (xs.drop i) U'),
      #[xs.length,rfl,Nat.zero_le _,U1,os1,h2,h3,AY.refl _ _,AR.refl _ _,h5],?_⟩
     rintro i m Y' H' ⟨rfl,hix,U',os',hR',hn',hF',hU',hA'⟩
     have k1:AS H1 H':=hF'.but.keep h2.own;have rd:holds (Bh hs cs) U'=true->CY W H' cs vs:=λhh=>JG hR' k1 hF'.but h1 ec h2 hgd.1 (λq hq=>#[J9 hh q hq,hU'.2 q.1 (hgs q hq)]) λa ha z=>(nA h3).2.2 a ha a z rfl
     have nd':=(nA hn').2.1
     by_cases hlt:i<xs.length
     .rw [List.drop_eq_getElem_cons hlt]at hA';unfold forL at hA';split at hA'
      case isFalse=>exact hA'.elim
      rename_i hh;have hrd:=rd hh
      refine .inr ⟨hJ.go i H' hrd hlt,λY2 H2=>∃U' os',A6 W H2 U' Y2 os'/\(o1++os').Nodup/\AY H1 H2 os1 os'/\AR (g.slots++bs) Y Y2/\De W EX (g.slots++bs) D Y2 H2 (o1++os') (forL g (Bh hs cs) B (xs.drop (i+1)) U'),
       λY2 H2 z=>#[xs.length-(i+1),by lia,rfl,hlt,z],λx H'' hy=>?_⟩
      obtain⟨s2,p,ep,rp⟩:=hJ.Q8 i H' x H'' hrd hlt hy;have ep:xs[i]=p:=by rw[List.getElem?_eq_getElem hlt]at ep;exact Option.some.inj ep
      rw[ep]at hA';cases es:Ew g p U' with
      |none=>rw[es]at hA';exact hA'.elim
      |some U2=>
        rw[es]at hA'
        have hA':De W EX (g.slots++bs) D Y' H' (o1++os') ((B U2).bind λf U=>match f with
         |.nx=>forL g (Bh hs cs) B (xs.drop (i+1)) U
         |.cnt=>forL g (Bh hs cs) B (xs.drop (i+1)) U
         |.brk=>.ok .nx U
         |.ret r=>.ok (.ret r) U):=hA'
        refine Ss es rp (hR'.same s2) nd' (λj hj=>by rw[hU'.1];exact hi j hj) λY2 os2 g1 g2 g3 g4=>?_
        refine#[U2,os2,g1,g2,?_];have m1:∀i∈g.slots,i∈g.slots++bs:=λi hi=>mL hi
        have m2:∀i∈bs,i∈g.slots++bs:=λi hi=>mR hi
        have fr2:AY H' H'' (o1++os') (o1++os2):=.of s2 λa ha=>by
         rcases mZ ha with z|z
         .exact .inl (mL z)
         .exact .inl (mR (g3 a z))
        have hA2:=hA'.later fr2 (g4.mono m1)
        have own2:∀a∈o1,∃z,H'' a=some z:=λa ha=>by
         obtain⟨z,ez⟩:=own1 a ha;obtain⟨z',ez'⟩:=hF'.there a z ez;exact#[z',s2 a z' ez']
        have n2:(o1++os2).Nodup:=NV hn' g2 (λa ha=>by
         obtain⟨z,ez⟩:=own1 a ha
         exact hF'.there a z ez) λa ha=>.inl (g3 a ha)
        have go:∀Y3 H3 os3 U3,A6 W H3 U3 Y3 os3->os3.Nodup->AY H'' H3 os2 os3->AR bs Y2 Y3->De W EX (g.slots++bs) D Y2 H'' (o1++os2) (forL g (Bh hs cs) B (xs.drop (i+1)) U3)->
         ∃U' os',A6 W H3 U' Y3 os'/\(o1++os').Nodup/\AY H1 H3 os1 os'/\AR (g.slots++bs) Y Y3/\De W EX (g.slots++bs) D Y3 H3 (o1++os') (forL g (Bh hs cs) B (xs.drop (i+1)) U'):=λY3 H3 os3 U3 r1 r2 r3 r4 r6=>by
         refine#[U3,os3,r1,NV n2 r2 own2 r3.src,?_,(hU'.trans (g4.mono m1)).trans (r4.mono m2),r6.later (r3.more o1) (r4.mono m2)];have f1:AY H' H'' os' os2:=.of s2 λa ha=>.inl (g3 a ha)
         exact(hF'.trans f1).trans r3
        cases eB:B U2 with
        |A2=>rw[eB]at hA2;exact hA2
        |err x p U3=>
          rw[eB]at hA2;exact λY3 H3 os3 r1 r2 r3 r4=>hA2 Y3 H3 os3 r1 r2 (r3.weak λa ha=>mR ha) (r4.mono m2)
        |ok f U3=>
          rw[eB,Res.A5]at hA2;cases f with
          |nx=>exact λY3 H3 os3 r1 r2 r3 r4=>go Y3 H3 os3 U3 r1 r2 r3 r4 hA2
          |cnt=>exact λY3 H3 os3 r1 r2 r3 r4=>go Y3 H3 os3 U3 r1 r2 r3 r4 hA2
          |brk=>exact λY3 H3 os3 r1 r2 r3 r4=>hA2 Y3 H3 os3 r1 r2 (r3.weak λa ha=>mR ha) (r4.mono m2)
          |ret c=>exact λv Y3 H3 o3 os3 r0 r1 r2 r3 r4=>hA2 v Y3 H3 o3 os3 r0 r1 r2 (r3.weak λa ha=>mR ha) (r4.mono m2)
     .have e:i=xs.length:=by lia
      subst e;rw[List.drop_length]at hA';unfold forL at hA';split at hA'
      case isFalse=>exact hA'.elim
      rename_i hh;exact .inl #[hJ.stop H' (rd hh),hA' Y' H' os' hR' nd' ((AY.refl _ _).sub λa ha=>mR ha) (AR.refl _ _)]
noncomputable def JC(W:Wd)(r:List C->CR):Sp:=λvs H Q E=>∃cs os,A6 W H (cs.map some) (vs.map some) os/\os.Nodup/\match r cs with
 |.A2=>False
 |.ok c outs=>∀v H' o oos,Ba W H' c v o->A6 W H' outs (vs.map some) oos->(o++oos).Nodup->AY H H' os (o++oos)->Q v H'
 |.err x _=>∀H',A6 W H' [] [] []->AY H H' os []->E (.ref (W.Br x)) none H'
def EE(W:Wd)(EX:XP)(Y:St):XK:=λcls _ H'=>∃x p,cls= .ref (W.Br x)/\EX x p Y H'
theorem Em(h:Hd)(hs:List Hd)(c:C)(cs:List C):BY (h::hs) (c::cs)=(if c.cp then[]else match h with| .A4 i=>[i]| .Aw i _=>[i]| .AN _=>[])++BY hs cs:=by
 unfold BY;rw[zip_cons_cons,filterMap_cons]
 by_cases hc:c.cp=true
 .simp[hc]
 .cases h<;>simp[hc]
theorem WG{h:Hd}{c:C}(hR:A6 W H U Y os)(hh:FW W Y H U h v o)(e:h.cont U=some c)(hc:c.cp=true):Ba W H c v []:=by
 have hrd:=FN hR hh e;cases c with
 |obj _ _=>cases hc
 |b x=>
   cases x with
   |lst _=>cases hc
   |p x=>exact#[hrd,rfl]
   |ro x=>exact#[hrd,rfl]
theorem FJ{l:List Nat}{i:Nat}(h:i∉l):∀{U:Env},A8 (l.foldl (λr i=>r.set i none) U) i=A8 U i:=by
 induction l with
 |nil=>intro U;rfl
 |cons j l ih=>
   intro U;rw[foldl_cons,ih (λz=>h (mC z))];unfold A8;rw[List.getElem?_set_ne];exact λz=>h (z▸mS)
theorem Eo{os0:List Addr}(hR0:A6 W H U0 Y os0):∀{hs:List Hd} {cs:List C} {vs:List V} {o:List Addr} {U:Env} {os:List Addr},Bt W Y H U0 hs vs o->Ag U0 hs=some cs->AD hs cs=true->(BY hs cs).Nodup->
 (∀j∈BY hs cs,A8 U j=A8 U0 j)->A6 W H U Y os->∃oa or_,A6 W H (cs.map some) (vs.map some) oa/\A6 W H ((BY hs cs).foldl (λr i=>r.set i none) U) Y or_/\(oa++or_).Perm (o++os)
 | [],cs,vs,o,U,os,h,e,_,_,_,hR=>by
   cases e;obtain⟨rfl,rfl⟩:=h;exact#[[],os,#[rfl,rfl,hR0.tb],hR,.refl _]
 | h ::hs,cs,vs,o,U,os,⟨v,r,o1,o2,e1,h1,h2,e2⟩,e,g,n,hcur,hR=>by
   unfold Ag at e;obtain⟨c,ec,e⟩:=oB e;obtain⟨ds,ed,rfl⟩:=oM e;subst e1 e2;obtain⟨g1,g2⟩:=D9 g;rw[Em]at n hcur ⊢;have n2:(BY hs ds).Nodup:=(nA n).2.1;have hcur2:∀j∈BY hs ds,A8 U j=A8 U0 j:=λj hj=>hcur j (mR hj)
   by_cases hc:c.cp=true
   .have rc:=WG hR0 h1 ec hc;obtain⟨oa,or_,q1,q2,q3⟩:=Eo hR0 h2 ed g2 n2 hcur2 hR
    have ho1:o1=[]:=by
     cases h with
     |AN d=>cases ec;exact Ba.cp h1 hc
     |A4 i=>exact h1.2
     |Aw i f=>exact h1.1
    subst ho1;rw[iP hc];exact#[oa,or_,#[v,r.map some,[],oa,rfl,rc,q1,rfl],q2,q3]
   .have hcf:c.cp=false:=by simpa using hc
    rw[iN hc]at n hcur ⊢;cases h with
    |Aw i f=>exact absurd rfl (g1.resolve_left hc i f)
    |AN d=>
      cases ec;obtain⟨oa,or_,q1,q2,q3⟩:=Eo hR0 h2 ed g2 n2 hcur2 hR;refine#[o1++oa,or_,#[v,r.map some,o1,oa,rfl,h1,q1,rfl],q2,?_];rw[append_assoc,append_assoc];exact q3.append_left o1
    |A4 i=>
      have ec:A8 U0 i=some c:=ec;have hi:A8 U i=some c:=(hcur i (mL mS)).trans ec;obtain⟨u,oi,osr,t1,t2,t3,t4⟩:=hR.take hi;rw[h1.1]at t1;cases t1;have hni:i∉BY hs ds:=λz=>(nA n).2.2 i mS i z rfl
      obtain⟨oa,or_,q1,q2,q3⟩:=Eo hR0 h2 ed g2 n2 (λj hj=>by
       rw[<-hcur2 j hj];unfold A8;rw[List.getElem?_set_ne]
       exact λz=>hni (z▸hj)) t3
      have ho1:o1=[]:=h1.2;subst ho1;refine#[oi++oa,or_,#[v,r.map some,oi,oa,rfl,t2,q1,rfl],q2,?_];rw[append_assoc];refine(q3.append_left oi).trans ?_;refine List.Perm.trans ?_ (t4.append_left ([]++o2));rw[nil_append,<-append_assoc,<-append_assoc];exact perm_append_comm.append_right osr
theorem FT :∀{hs:List Hd} {cs:List C} {vs:List V} {outs:List (Option C)} {o0:List Addr} {H0:Hp} {U U':Env} {os oos:List Addr},Bt W Y H0 U0 hs vs o0->back U hs cs outs=some U'->A6 W H outs (vs.map some) oos->A6 W H U Y os->(oos++os).Nodup->
 (BY hs cs).Nodup->(∀j∈BY hs cs,A8 U j=none/\j<U.length)->∃os',A6 W H U' Y os'/\os'.Nodup/\∀a∈os',a∈oos++os
 | [],cs,vs,outs,o0,H0,U,U',os,oos,h,e,ro,hR,n,_,_=>by
   cases cs with
   |nil=>
     unfold back at e;cases e;exact#[os,hR,(nA n).2.1,λa ha=>mR ha]
   |cons c cs=>unfold back at e;cases e
 | h ::hs,cs,vs,outs,o0,H0,U,U',os,oos,⟨v,r,o1,o2,e1,h1,h2,e2⟩,e,ro,hR,n,nl,hem=>by
   subst e1;cases cs with
   |nil=>cases h<;>(unfold back at e;cases e)
   |cons c cs =>
     cases outs with
     |nil=>cases h<;>(unfold back at e;cases e)
     |cons out outs=>
       rw[Em]at nl hem;have nl2:=(nA nl).2.1;have hem2:∀j∈BY hs cs,A8 U j=none/\j<U.length:=λj hj=>hem j (mR hj)
       obtain⟨of_,or_,hof,hrest,hoos⟩:∃of_ or_,(∀c',out=some c'->Ba W H c' v of_)/\A6 W H outs (r.map some) or_/\oos=of_++or_:=by
        cases out with
        |none=>
          obtain⟨x,r',z1,z2⟩:=ro;cases z1;exact#[[],oos,(λ_ z=>by cases z),z2,rfl]
        |some c'=>
          obtain⟨v',r',o1',o2',z1,z2,z3,z4⟩:=ro;cases z1;exact#[o1',o2',(λ_ z=>by cases z;exact z2),z3,z4]
       subst hoos
       have nr:(or_++os).Nodup:=by
        rw[append_assoc]at n;exact(nA n).2.1
       have skip:back U hs cs outs=some U'->∃os',A6 W H U' Y os'/\os'.Nodup/\∀a∈os',a∈(of_++or_)++os:=λe=>by
        obtain⟨os',q1,q2,q3⟩:=FT h2 e hrest hR nr nl2 hem2;refine#[os',q1,q2,λa ha=>?_];rcases mZ (q3 a ha)with z|z
        .exact mL (mR z)
        .exact mR z
       by_cases hc:c.cp=true
       .cases h with
        |AN d=>exact skip e
        |A4 i=>unfold back at e;rw[iP hc]at e;exact skip e
        |Aw i f=>unfold back at e;rw[iP hc]at e;exact skip e
       .cases h with
        |AN d=>exact skip e
        |Aw i f=>unfold back at e;rw[iN hc]at e;cases e
        |A4 i=>
          unfold back at e;rw[iN hc]at e nl hem;have hi:=hem i (mL mS);have hni:i∉BY hs cs:=λz=>(nA nl).2.2 i mS i z rfl
          have hem3:∀(x:Option C),∀j∈BY hs cs,A8 (U.set i x) j=none/\j<(U.set i x).length:=λx j hj=>by
           refine#[?_,by rw[length_set];exact(hem2 j hj).2];have ne:i≠j:=λz=>hni (by rw[z];exact hj)
           have:=(hem2 j hj).1;unfold A8 at this ⊢;rw[List.getElem?_set_ne ne];exact this
          cases out with
          |none=>
            obtain⟨os1,t1,od,t2⟩:=hR.drop i
            obtain⟨os',q1,q2,q3⟩:=FT h2 e hrest t1 (by
             have:=nr;rw[nodup_append]at this ⊢;have p2:=(nA (t2.nodup_iff.mpr this.2.1)).2.1
             exact#[this.1,p2,λa ha b hb=>this.2.2 a ha b (t2.subset (mR hb))]) nl2 (hem3 none)
            refine#[os',q1,q2,λa ha=>?_];rcases mZ (q3 a ha)with z|z
            .exact mL (mR z)
            .exact mR (t2.subset (mR z))
          |some c'=>
            obtain⟨os1,t1,t2⟩:=A6.fill (hof c' rfl) hR hi.1 hi.2;rw[set_same h1.1]at t1
            have p1:(or_++os1).Perm ((of_++or_)++os):=by
             refine(t2.append_left or_).trans ?_;rw[<-append_assoc];exact perm_append_comm.append_right os
            obtain⟨os',q1,q2,q3⟩:=FT h2 e hrest t1 (p1.nodup_iff.mpr n) nl2 (hem3 (some c'));exact#[os',q1,q2,λa ha=>p1.subset (q3 a ha)]
theorem Dc{l:List Nat}:∀{U:Env},(l.foldl (λr i=>r.set i none) U).length=U.length:=by
 induction l with
 |nil=>intro U;rfl
 |cons j l ih=>intro U;rw[foldl_cons,ih,length_set]
theorem CQ{l:List Nat}{i:Nat}(h:i∈l):∀{U:Env},A8 (l.foldl (λr i=>r.set i none) U) i=none:=by
 induction l with
 |nil=>cases h
 |cons j l ih=>
   intro U;rw[foldl_cons]
   by_cases hi:i∈l
   .exact ih hi
   .have:i=j:=(mK h).resolve_right hi;subst this;rw[FJ hi];unfold A8;rw[List.getElem?_set_self'];cases U[i]?<;>rfl
theorem JY{U:Env}:∀{hs:List Hd} {cs:List C},Ag U hs=some cs->AD hs cs=true->∀j∈BY hs cs,j<U.length
 |[],cs,e,_,j,hj=>by cases e;cases hj
 | h ::hs,cs,e,g,j,hj=>by
   unfold Ag at e;obtain⟨c,ec,e⟩:=oB e;obtain⟨ds,ed,rfl⟩:=oM e;obtain⟨g1,g2⟩:=D9 g;rw[Em]at hj;rcases mZ hj with z|z
   .by_cases hc:c.cp=true
    .rw[iP hc]at z;cases z
    .rw[iN hc]at z;cases h with
     |AN d=>cases z
     |Aw i f=>exact absurd rfl (g1.resolve_left hc i f)
     |A4 i=>
       rw[mE z];exact C9 ec
   .exact JY ed g2 j z
variable{hs:List Hd}{cs:List C}{vs:List V}{os1:List Addr}
theorem Ob{r:List C->CR}{Q:VK}{E:XK}(h1:Bt W Y H U1 hs vs o1)(h2:A6 W H U1 Y os1)(h3:(o1++os1).Nodup)(ec:Ag U1 hs=some cs)(hg:(BY hs cs).Nodup/\AD hs cs=true)
 {outs:List (Option C)}(er:r cs= .ok c outs){U2:Env}(eb:back (lend U1 hs cs) hs cs outs=some U2)(hA:Ck W EX (rV W Y) H (o1++os1) Y (.ok c U2) Q):JC W r vs H Q E:=by
 obtain⟨oa,or_,q1,q2,q3⟩:=Eo h2 h1 ec hg.2 hg.1 (λ_ _=>rfl) h2;have q2:A6 W H (lend U1 hs cs) Y or_:=q2;have na:=q3.nodup_iff.mpr h3;have na':=nA na;refine#[cs,oa,q1,na'.1,?_];rw[er];intro v H' o oos r1 r2 r3 r4;have k1:AS H H':=r4.but.keep q1.own;have q2':A6 W H' (lend U1 hs cs) Y or_:=q2.frame r2.tb k1 r4.but λa ha z=>na'.2.2 a z a ha rfl
 have r3':=nA r3
 have ndo:∀a∈o++oos,a∉or_:=λa ha z=>by
  rcases r4.src a ha with y|y
  .exact na'.2.2 a y a z rfl
  .obtain⟨x,ex,_⟩:=q2.own a z;rw[y]at ex;cases ex
 obtain⟨os',t1,t2,t3⟩:=FT (U0:=U1) h1 eb r2 q2' (by
  rw[nodup_append]
  exact#[r3'.2.1,na'.2.1,λa ha b hb z=>ndo a (mR ha) (z▸hb)]) hg.1 λj hj=>⟨CQ hj,by
   show j<((BY hs cs).foldl _ U1).length;rw[Dc]
   exact JY ec hg.2 j hj⟩
 have hA:∀v H' o os',rV W Y H' U2 c v o->A6 W H' U2 Y os'->(o++os').Nodup->AY H H' (o1++os1) (o++os')->Q v H':=hA;refine hA v H' o os' r1 t1 ?_ ?_
 .rw[nodup_append];refine#[r3'.1,t2,λa ha b hb z=>?_];subst z;rcases mZ (t3 a hb)with y|y
  .exact r3'.2.2 a ha a y rfl
  .exact ndo a (mL ha) y
 .have f1:=(r4.more or_).perm (perm_append_comm.trans q3) (.refl _);refine f1.sub λa ha=>?_
  rcases mZ ha with z|z
  .exact mR (mL z)
  .rcases mZ (t3 a z)with y|y
   .exact mR (mR y)
   .exact mL y
theorem Ls{r:List C->CR}{Q:VK}{E:XK}(h1:Bt W Y H U1 hs vs o1)(h2:A6 W H U1 Y os1)(h3:(o1++os1).Nodup)(ec:Ag U1 hs=some cs)(hg:(BY hs cs).Nodup/\AD hs cs=true)
 {x:Nat}(er:r cs= .err x p)(hA:∀H' os',A6 W H' (lend U1 hs cs) Y os'->os'.Nodup->AY H H' (o1++os1) os'->E (.ref (W.Br x)) none H'):JC W r vs H Q E:=by
 obtain⟨oa,or_,q1,q2,q3⟩:=Eo h2 h1 ec hg.2 hg.1 (λ_ _=>rfl) h2;have q2:A6 W H (lend U1 hs cs) Y or_:=q2;have na':=nA (q3.nodup_iff.mpr h3);refine#[cs,oa,q1,na'.1,?_];rw[er];intro H' r2 r4;have q2':A6 W H' (lend U1 hs cs) Y or_:=q2.frame r2.tb (r4.but.keep q1.own) r4.but λa ha z=>na'.2.2 a z a ha rfl
 exact hA H' or_ q2' na'.2.1 (((r4.more or_).perm (perm_append_comm.trans q3) (.refl _)).sub λa ha=>mL ha)
theorem FP{cf:CF}{f:Nat}{Q:VK}(h:tG W EX (rV W) (λU=>(F U).bind λhs U=>AK cf f hs U) Y H Q):tG W EX (Bt W) F Y H λvs H1=>JC W (cf f) vs H1 Q (EE W EX Y):=by
 obtain⟨U,os,hR,hn,hA⟩:=h;dsimp only at hA;refine#[U,os,hR,hn,?_];unfold Ck;cases eF:F U with
 |A2=>rw[eF]at hA;exact hA
 |err x p U'=>rw[eF]at hA;exact hA
 |ok hs U1=>
   rw[eF,Res.A5]at hA;intro vs H1 o1 os1 h1 h2 h3 h4;have hA:=Ck.shift hA h4;unfold AK at hA;cases ec:Ag U1 hs with
   |none=>rw[ec]at hA;exact hA.elim
   |some cs=>
     rw[ec]at hA;dsimp only at hA;split at hA
     case isFalse=>exact hA.elim
     rename_i hg;cases ecf:cf f cs with
     |A2=>rw[ecf]at hA;exact hA.elim
     |err x p=>
       rw[ecf]at hA;exact Ls h1 h2 h3 ec hg ecf λH' os' r1 r2 r3=>#[x,p,rfl,hA H' os' r1 r2 r3]
     |ok c outs=>
       rw[ecf]at hA;cases eb:back (lend U1 hs cs) hs cs outs with
       |none=>dsimp only at hA;rw[eb]at hA;exact hA.elim
       |some U2=>
         dsimp only at hA;rw[eb]at hA;exact Ob h1 h2 h3 ec hg ecf eb hA
theorem BJ.addr(h:BJ W H b (.ref a) o)(nb:C.cp (.b b)=false):o=[a]:=by
 cases b with
 |p x=>cases nb
 |ro x=>cases nb
 |lst ps=>obtain⟨a',vs,e,_,_,rfl⟩:=h;cases e;rfl
theorem D5{a:Addr}{l:List Addr}(h:a∈l):Js l H (upd H a x):=λb y e n _=>by
 have ne:b≠a:=λz=>n (by rw[z];exact h)
 rw[Ab ne];exact e
theorem Bj.upd(k:AS H (upd H a x'))(hb':BJ W (upd H a x') b' (.ref a) [a]):∀{fs:List (Str×B)} {vs:List (Str×V)} {o:List Addr} {b:B},Bj W H fs vs o->o.Nodup->fs.lookup f=some b->C.cp (.b b)=false->vs.lookup f=some (.ref a)->Bj W (L2.upd H a x') (Bq f b' fs) vs o
 |[],_,_,_,_,_,e,_,_=>by simp at e
 | (g, c)::fs,_,_,b,⟨v,r,o1,o2,e1,h1,h2,e⟩,n,el,nb,ev=>by
   subst e1 e;rw[lookup_cons]at el ev;have n':=nA n;unfold Bq;cases hg:f==g with
   |true=>
     rw[hg]at el ev;cases el;cases ev;have:g=f:=(eq_of_beq hg).symm;subst this;rw[iP rfl];have ho:=h1.addr nb;subst ho;exact#[_,r,[a],o2,rfl,hb',h2.frame k (D5 (l:=[a]) mS) (λb hb z=>n'.2.2 a mS b hb (mE z).symm),rfl]
   |false=>
     rw[hg]at el ev;dsimp only at el ev;rw[iN (λz=>by rw[z]at hg;simp at hg)]
     have ha:a∈o2:=by
      obtain⟨u,o',q1,q2,q3⟩:=h2.look el;rw[ev]at q1;cases q1;have:=q2.addr nb;subst this;exact q3 a mS
     exact#[v,r,o1,o2,rfl,h1.frame k (D5 (l:=[a]) mS) (λb hb z=>n'.2.2 b hb a ha (mE z)),Bj.upd k hb' h2 n'.2.1 el nb ev,rfl]
theorem OG{U':Env}{h:Hd}(hR:A6 W H U Y os)(hn:os.Nodup)(hc:h.cont U=some (.b b))(hh:FW W Y H U h (.ref a) o)(nb:C.cp (.b b)=false)
 (hb':BJ W (upd H a x') b' (.ref a) [a])(k:AS H (upd H a x'))(es:setB U h b'=some U'):∃os',A6 W (upd H a x') U' Y os'/\os'.Perm os/\AY H (upd H a x') os os':=by
 have fin:a∈os->∀os',os'.Perm os->AY H (upd H a x') os os':=λha os' p=>⟨D5 ha,λc hc=>.inl (p.subset hc),λc y e=>by
  by_cases hca:c=a
  .subst hca;exact#[_,Ar]
  .exact#[y,by rw[Ab hca];exact e]⟩
 cases h with
 |AN c=>cases es
 |A4 i=>
   cases es;have hc:A8 U i=some (.b b):=hc;obtain⟨v,oi,osr,t1,t2,t3,t4⟩:=hR.take hc;rw[hh.1]at t1;cases t1;have hoi:oi=[a]:=BJ.addr t2 nb;subst hoi;have nd:=nA (t4.nodup_iff.mpr hn);have t3':=t3.frame (let⟨_,e,n⟩:=BJ.nt t2;t3.tb.upd k e n) k (D5 (x:=x') (l:=[a]) mS) λc hc z=>nd.2.2 a mS c hc (mE z).symm
   obtain⟨os2,u1,u2⟩:=A6.fill (c:=.b b') (v:=.ref a) (o:=[a]) hb' t3' (Bu (C9 hc)) (by rw[length_set];exact C9 hc);rw[set_set,set_same hh.1]at u1;have p:=u2.trans t4;exact#[os2,u1,p,fin (t4.subset (mL mS)) os2 p]
 |Aw i f=>
   obtain⟨_,a0,C0,dx,fs0,e1,e2,e3⟩:=hh;have hc:BD U i f=some (.b b):=hc;unfold BD at hc;unfold setB at es;dsimp only at es;cases hg:A8 U i with
   |none=>rw[hg]at hc;cases hc
   |some d=>
     rw[hg]at hc es;cases d with
     |b y=>cases hc
     |obj kk fs=>
       have hl:fs.lookup f=some b:=by
        obtain⟨z,ez,e⟩:=oM hc;cases e;exact ez
       cases es;obtain⟨v,oi,osr,t1,t2,t3,t4⟩:=hR.take hg;rw[e1]at t1;cases t1;obtain⟨a',dx',vs,osf,z,q1,q2,q3,q4⟩:=t2;cases z;rw[e2]at q1;cases q1;subst q3;have nd:=nA (t4.nodup_iff.mpr hn);have nf:=nodup_cons.mp nd.1
       obtain⟨haf,_,hny,hnt⟩:a∈osf/\∃y,H a=some y/\J5 y=false:=by
        obtain⟨u,o',y1,y2,y3⟩:=q2.look hl;rw[e3]at y1;cases y1;have:=y2.addr nb;subst this;exact#[y3 a mS,BJ.nt y2]
       have ne:a0≠a:=λz=>nf.1 (z▸haf)
       have q2':=q2.upd k hb' nf.2 hl nb e3;have t3':=t3.frame (t3.tb.upd k hny hnt) k (D5 (x:=x') (l:=[a]) mS) λc hc z=>nd.2.2 a (mC haf) c hc (mE z).symm
       obtain⟨os2,u1,u2⟩:=A6.fill (c:=.obj kk (Bq f b' fs)) (v:=.ref a0) (o:=a0::osf) #[a0,dx,fs0,osf,rfl,by rw[Ab ne];exact e2,q2',rfl,q4.put (q4.2.1 _ (PySem.mem_of_lookup hl))] t3' (Bu (C9 hg)) (by rw[length_set];exact C9 hg);rw[set_set,set_same e1]at u1;have p:=u2.trans t4;exact#[os2,u1,p,fin (t4.subset (mL (mC haf))) os2 p]
theorem HL(h:H a=some (.lst vs)):AS H (upd H a x'):=λb=>by
 by_cases hb:b=a
 .subst hb;refine#[λxs z=>?_,λo u z=>?_]
  .rw[h]at z;cases z
  .rw[h]at z;cases z
 .rw[Ab hb];exact#[λ_ z=>z,λ_ _ z=>z]
def LU(W:Wd)(m:MO)(r:V->List V->Hp->VK->Prop):Prop:=∀(H:Hp) (a:Addr) (b b':B) (cs:List C) (c:C) (vs:List V) (Q:VK),BJ W H b (.ref a) [a]->C.cp (.b b)=false->CY W H cs vs->Fp m b cs=some (c,b')->
 (∀v x',BJ W (upd H a x') b' (.ref a) [a]->AS H (upd H a x')->Ba W (upd H a x') c v []->Q v (upd H a x'))->r (.ref a) vs H Q
theorem Vg(h:CY W H [] vs):vs=[]:=h
theorem CA{c:C}(h:CY W H [c] vs):∃v,vs=[v]/\DI W H c v:=by
 obtain⟨v,r,rfl,r1,r2⟩:=h;have r2:r=[]:=r2;subst r2;exact#[v,rfl,r1]
theorem JU{m:MO}{r:V->List V->Hp->VK->Prop}(h:∀(H:Hp) (a:Addr) (ps:List P) (xs:List V) (b':B) (cs:List C) (c:C) (vs:List V) (Q:VK),H a=some (.lst xs)->A7 W H ps xs->CY W H cs vs->Fp m (.lst ps) cs=some (c,b')->
 (∀v x',BJ W (upd H a x') b' (.ref a) [a]->AS H (upd H a x')->Ba W (upd H a x') c v []->Q v (upd H a x'))->r (.ref a) vs H Q):LU W m r:=by
 intro H a b b' cs c vs Q hb nb hv e q;cases b with
 |p _=>cases nb
 |ro _=>cases nb
 |lst ps=>
   obtain⟨a',xs,ea,h1,h2,_⟩:=hb;cases ea;exact h H a ps xs b' cs c vs Q h1 h2 hv e q
theorem Mx:LU W .append NJ:=JU λH a ps xs b' cs c vs Q h1 h2 hv e q=>by
 have e:D3 ps cs=some (c,b'):=e;unfold D3 at e;split at e
 .rename_i x;split at e
  .rename_i hl;cases e;obtain⟨v,rfl,r1⟩:=CA hv;have k:=HL (x':=.lst (xs++[v])) h1;refine#[a,xs,v,rfl,rfl,h1,by rw[h2.length];exact Nat.lt_of_lt_of_le hl Cs,?_];exact q .Az (.lst (xs++[v])) #[a,xs++[v],rfl,Ar,A7.append (.cons (AH.mono k r1) .nil) (h2.mono k),rfl] k #[BR.mpr rfl,rfl]
  .cases e
 .cases e
theorem VP:LU W .pop ft:=JU λH a ps xs b' cs c vs Q h1 h2 hv e q=>by
 have e:MC ps cs=some (c,b'):=e;unfold MC at e;split at e
 .have hv:=Vg hv;subst hv;obtain⟨x,ex,e⟩:=oM e;cases e;have k:=HL (x':=.lst xs.dropLast) h1;rw[List.getLast?_eq_getElem?]at ex;obtain⟨v,ev,rv⟩:=h2.get ex;refine#[a,xs,v,rfl,rfl,h1,by rw[h2.length];exact ev,?_]
  have hd:A7 W H ps.dropLast xs.dropLast:=by
   rw[List.dropLast_eq_take,List.dropLast_eq_take,h2.length];exact h2.take _
  exact q v (.lst xs.dropLast) #[a,xs.dropLast,rfl,Ar,hd.mono k,rfl] k #[rv.mono k,rfl]
 .cases e
end Iv
namespace Iv
open PySem L2 PyProof.Rows
variable{X:Cx}{W:Wd}
variable{H:Hp}
theorem OO{Pg:Program}{h:Heap}{xs:List V}(Ao:Ff Pg W.w H h)(PB:W.K.In h)(hs:FX W.K H a xs):∃its:List Value,Vals xs its/\IsTup h a its.toArray:=by
 rcases hs with hs|⟨o,its,n,hk,hc,hd,hz,r⟩
 .obtain⟨z,its,r,p⟩:=hs.ok Ao;exact#[its,r,p]
 .exact#[its.toList,r,#[o,PB a o hk,hc,n,by simpa using hd]]
def CV(o:O):C->C->Option C:=λa b=>(Cj o a b).map λx=>.p (.bl x)
theorem Bi{c:C}(h:CV o a b=some c):∃x,Cj o a b=some x/\c= .p (.bl x):=by
 obtain⟨x,h1,h2⟩:=oM h;exact#[x,h1,h2.symm]
theorem Fe.bl{b:Bool}{Q:VK}(q:Fe W H (.p (.bl b)) Q):Q (.bl b) H:=q.plain (BB.mpr rfl)
theorem RF(hK:W.K=X.K)(hw:W.w=X.w)(hu:X.A.units+200<cLine):Cb X (compareOp .Eq) (Cc W (CV .eq))/\Cb X (compareOp .NotEq) (Cc W (CV .ne)):=by
 have key:∀{A1 s Y H x y v u} {c1 c2:C} {t:Bool} {Q:VK},Inv X A1 Y H s->RelV x v->RelV y u->DI W H c1 x->DI W H c2 y->Qg c1 c2=some t->SeqAt.RcAt X.A s v u t/\SeqAt.RcNeAt X.A s v u (!t):=by
  intro A1 s Y H x y v u c1 c2 t Q I rx ry h1 h2 e;unfold Qg at e;split at e
  .rename_i a b;unfold DM at e;split at e
   .rename_i i j;cases e;cases Ay h1;cases Ay h2;obtain⟨t,rfl⟩:=rx;obtain⟨t',rfl⟩:=ry;exact#[SeqAt.RcAt.int_int _ _ _ _,SeqAt.RcNeAt.int_int _ _ _ _]
   .rename_i i j;cases e;cases Bx h1;cases Bx h2;obtain⟨t,rfl⟩:=rx;obtain⟨t',rfl⟩:=ry
    have:decide (i=j)=(i==j):=by
     by_cases h:i=j
     .subst h;simp
     .simp[h]
    rw[this];exact#[SeqAt.RcAt.str_str _ _ _ _,SeqAt.RcNeAt.str_str _ _ _ _]
   .cases e
  .rename_i ps;cases e;obtain⟨a1,xs,rfl,k1,k2⟩:=h1;obtain⟨b1,ys,rfl,k3,k4⟩:=h2;cases rx;cases ry;obtain⟨its1,r1,p1,z1⟩:=I.list (Fd.of (K:=X.K) k1);obtain⟨its2,r2,p2,z2⟩:=I.list (Fd.of (K:=X.K) k3);have l1:=r1.length;have l2:=r2.length;have l3:=k2.length;have l4:=k4.length;have e2:its2=[]:=List.eq_nil_of_length_eq_zero (by rw[<-l2,l4];rfl);subst e2;cases ps with
   |nil=>
     have e1:its1=[]:=List.eq_nil_of_length_eq_zero (by rw[<-l1,l3];rfl);subst e1;exact#[SeqAt.RcAt.lists (e:=λ_=>true) p1.isList p2.isList rfl (by lia) (λj h1 h2=>absurd h1 (by simp)),SeqAt.RcNeAt.lists (e:=λ_=>true) p1.isList p2.isList rfl (by lia) (λj h1 h2=>absurd h1 (by simp))]
   |cons p ps=>
     have hne:(its1.toArray.size != ([]:List Value).toArray.size)=true:=by
      rw[size_toArray,<-l1,l3];simp
     exact#[SeqAt.RcAt.lists_lengths p1.isList p2.isList hne (by lia),SeqAt.RcNeAt.lists_lengths p1.isList p2.isList hne (by lia)]
  .cases e
 constructor
 .rintro A1 s Y H x y v u Q I rx ry ⟨c1,c2,c,h1,h2,e,q⟩
  obtain⟨t,et,rfl⟩:=Bi e;have et:Qg c1 c2=some t:=et;exact(key (Q:=Q) I rx ry h1 h2 et).1 X.prog X.w _ _ #[.bl t,H,I,rfl,q.bl]
 .rintro A1 s Y H x y v u Q I rx ry ⟨c1,c2,c,h1,h2,e,q⟩
  obtain⟨t,et,rfl⟩:=Bi e;obtain⟨t',et',rfl⟩:=oM (show(Qg c1 c2).map (!·)=some t from et);exact(key (Q:=Q) I rx ry h1 h2 et').2 X.prog X.w _ _ #[.bl (!t'),H,I,rfl,q.bl]
theorem l6:Cb X (compareOp .Lt) (Cc W (CV .lt)):=by
 rintro A1 s Y H x y v u Q I rx ry ⟨c1,c2,c,h1,h2,e,q⟩
 obtain⟨t,et,rfl⟩:=Bi e;unfold Cj at et;dsimp only at et;split at et
 .rename_i a b;unfold jq at et;split at et
  .rename_i i j;cases et;cases Ay h1;cases Ay h2;exact fO A1 s Y H _ _ v u Q I rx ry #[i,j,rfl,rfl,q.bl]
  .cases et
 .cases et
theorem lg:Cb X (compareOp .Gt) (Cc W (CV .gt)):=by
 rintro A1 s Y H x y v u Q I rx ry ⟨c1,c2,c,h1,h2,e,q⟩
 obtain⟨t,et,rfl⟩:=Bi e;unfold Cj at et;dsimp only at et;split at et
 .rename_i a b;unfold jq at et;split at et
  .rename_i i j;cases et;cases Ay h1;cases Ay h2;exact fQ A1 s Y H _ _ v u Q I rx ry #[_,_,rfl,rfl,q.bl]
  .cases et
 .cases et
theorem lh:Cb X (compareOp .GtE) (Cc W (CV .ge)):=by
 rintro A1 s Y H x y v u Q I rx ry ⟨c1,c2,c,h1,h2,e,q⟩
 obtain⟨t,et,rfl⟩:=Bi e;unfold Cj at et;dsimp only at et;split at et
 .cases et;cases Ay h1;cases Ay h2;exact fR A1 s Y H _ _ v u Q I rx ry #[_,_,rfl,rfl,q.bl]
 .cases et
theorem Px(a b:List Nat):decide (a<=b)= !decide (b<a):=by
 by_cases h:b<a
 .have:¬a<=b:=λz=>not_lt.mpr z h
  simp[h,this]
 .have:a<=b:=not_lt.mp h;simp[h,this]
theorem l9:Cb X (compareOp .LtE) (Cc W (CV .le)):=by
 rintro A1 s Y H x y v u Q I rx ry ⟨c1,c2,c,h1,h2,e,q⟩
 obtain⟨t,et,rfl⟩:=Bi e;unfold Cj at et;dsimp only at et;split at et
 .rename_i a b;unfold gx at et;split at et
  .cases et;cases Ay h1;cases Ay h2;exact fP A1 s Y H _ _ v u Q I rx ry #[_,_,rfl,rfl,q.bl]
  .cases et;cases Bx h1;cases Bx h2;refine Pb A1 s Y H _ _ v u Q I rx ry #[_,_,rfl,rfl,?_];have:=q.bl;rw[Px]at this;exact this
  .cases et
 .cases et
theorem Ml(h:DI W H c x):decide (c= .p .Az)=decide (x= .Az):=by
 by_cases hx:x= .Az
 .subst hx
  have:c= .p .Az:=by
   cases c with
   |obj _ _=>obtain⟨_,_,_,z,_⟩:=h;cases z
   |b b=>
     cases b with
     |lst _=>obtain⟨_,_,z,_⟩:=h;cases z
     |ro _=>obtain⟨_,_,z,_⟩:=h;cases z
     |p p=>
       cases p with
       |Az=>rfl
       |bl _=>cases ND h
       |int _=>cases Ay h
       |str _=>cases Bx h
       |fn _=>cases (Fv.mp (Zq h)).1
       |box _ _=>obtain⟨_,_,_,hv,_⟩:=Ht.mp (Zq h);cases hv
       |tup _=>obtain⟨_,_,z,_⟩:=CJ h;cases z
  rw[this];simp
 .have:c≠.p .Az:=λz=>by subst z;exact hx (JH h)
  simp[hx,this]
theorem la:Cb X (compareOp .Is) (Cc W (CV .is)):=by
 rintro A1 s Y H x y v u Q I rx ry ⟨c1,c2,c,h1,h2,e,q⟩
 obtain⟨t,et,_⟩:=Bi e;cases et
theorem fY:Cb X (compareOp .IsNot) (Cc W (CV .Uy)):=by
 rintro A1 s Y H x y v u Q I rx ry ⟨c1,c2,c,h1,h2,e,q⟩
 obtain⟨t,et,rfl⟩:=Bi e;unfold Cj at et;dsimp only at et;split at et
 .cases et;cases JH h2;refine VC A1 s Y H _ _ v u Q I rx ry #[rfl,?_];have:=q.bl;rw[Ml h1]at this;exact this
 .cases et
theorem lb:Cb X (compareOp .In) (Cc W (CV .dw)):=by
 rintro A1 s Y H x y v u Q I rx ry ⟨c1,c2,c,h1,h2,e,q⟩
 obtain⟨t,et,_⟩:=Bi e;cases et
def S9(z:Str):Value->Bool
 |.str y _=>y==z
 |_=>false
theorem KI:∀{ps:List P} {vs:List V} {us:List Value} {xs:List Str},Bw ps=some xs->A7 W H ps vs->Vals vs us->(∀y∈us,∃s t,y= .str s t)/\us.any (S9 z)=xs.contains z
 | [],vs,us,xs,e,hp,r=>by
   unfold A7 at hp;subst hp;cases r;cases e;exact#[(λy hy=>nomatch hy),rfl]
 | p ::ps,vs,us,xs,e,hp,r=>by
   cases p with
   |str i =>
     obtain⟨ys,ey,rfl⟩:=oM (show(Bw ps).map (i::·)=some xs from e);cases vs with
     |nil=>unfold A7 at hp;obtain⟨_,_,e,_⟩:=hp;cases e
     |cons v vs=>
       cases r with
       |cons r1 r2=>
         obtain⟨h1,h2⟩:=KI (z:=z) ey hp.EM.2 r2;cases AE.mp hp.EM.1;obtain⟨t,rfl⟩:=r1;refine#[λy hy=>?_,?_]
         .rcases mK hy with rfl|hy
          .exact#[_,_,rfl]
          .exact h1 y hy
         .rw[List.any_cons,h2,contains_cons]
          congr 1
          show(i==z)=(z==i);exact Bool.beq_comm
   |_=>cases e
theorem fV(hK:W.K=X.K):Cb X (compareOp .NotIn) (Cc W (CV .Qc)):=by
 rintro A1 s Y H x y v u Q I rx ry ⟨c1,c2,c,h1,h2,e,q⟩
 obtain⟨t,et,rfl⟩:=Bi e;unfold Cj at et;dsimp only at et;split at et
 .rename_i z;obtain⟨b,eb,rfl⟩:=oM et;unfold memC at eb;split at eb
  .rename_i ps;obtain⟨xs,ex,rfl⟩:=oM eb;cases Bx h1;obtain⟨a,vs,rfl,k1,k2⟩:=h2;obtain⟨tk,rfl⟩:=rx;cases ry;obtain⟨its,r,pl,hz⟩:=I.list (Fd.of k1);obtain⟨g1,g2⟩:=KI (z:=z) ex k2 r
   have hm:∀y,y∈its.toArray->SeqAt.EqAt X.A.in1 s y (.str z tk) (S9 z y):=λy hy=>by
    obtain⟨y',t',rfl⟩:=g1 y (by simpa using hy);exact SeqAt.EqAt.str_str _ _ _ _
   refine SeqAt.notIn_listAt (S9 z) pl.isList hm #[.bl _,H,I,rfl,?_];rw[show its.toArray.any (S9 z)=its.any (S9 z)by simp,g2];exact q.bl
  .cases eb
 .cases et
end Iv
namespace Kd
open PySem L2
theorem QT{x:Str}{j:Int}(h0:0<=j)(h1:j<=x.length):Txt.slice x none (some j)=#[((x.cps.toList.drop 0).take j.toNat).toArray]:=by
 have:=eq_of_beq (PyProof.Rows.slice_closes_toL (x:=x) h0 h1);rw[this];simp
theorem Hn{x:Str}{i:Int}(h0:0<=i)(h1:i<=x.length):Txt.slice x (some i) none=#[((x.cps.toList.drop i.toNat).take ((x.length:Int)-i).toNat).toArray]:=PyProof.Rows.slice_from_eq h0 h1 rfl
end Kd
namespace Iv
open PySem L2 PyProof.Rows
variable{X:Cx}{W:Wd}
def Pc(g:C->Option C):List C->Option C
 |[c]=>g c
 |_=>none
def jk(g:C->C->Option C):List C->Option C
 |[a,b]=>g a b
 |_=>none
variable{xs:List V}{H:Hp}
theorem CB{g:C->Option C}{Q:VK}(h:AU W (Pc g) xs H Q):∃x c r,xs=[x]/\DI W H c x/\g c=some r/\Fe W H r Q:=by
 obtain⟨cs,r,h1,h2,h3⟩:=h;unfold Pc at h2;split at h2
 .obtain⟨x,rfl,hx⟩:=CA h1;exact#[x,_,r,rfl,hx,h2,h3]
 .cases h2
theorem Vh{g:C->C->Option C}{Q:VK}(h:AU W (jk g) xs H Q):∃x y a b r,xs=[x,y]/\DI W H a x/\DI W H b y/\g a b=some r/\Fe W H r Q:=by
 obtain⟨cs,r,h1,h2,h3⟩:=h;unfold jk at h2;split at h2
 .obtain⟨x,t,rfl,hx,ht⟩:=h1;obtain⟨y,rfl,hy⟩:=CA ht;exact#[x,y,_,_,r,rfl,hx,hy,h2,h3]
 .cases h2
theorem D2{c:C}{ps:List P}(h:DI W H c x)(e:c.nf= .lst ps):∃a vs,x= .ref a/\Fd W.K H a vs/\A7 W H ps vs:=by
 cases c with
 |obj _ _=>cases e
 |b b=>
   cases b with
   |p _=>cases e
   |lst _=>cases e;obtain⟨a,vs,e1,e2,e3⟩:=h;exact#[a,vs,e1,Fd.of e2,e3]
   |ro _=>cases e;obtain⟨a,vs,e1,e2,e3⟩:=h;exact#[a,vs,e1,e2.sq,e3]
theorem GJ{c:C}(e:c.nf= .p p):c= .p p:=by
 cases c with
 |obj _ _=>cases e
 |b b=>cases b<;>cases e<;>rfl
theorem KR{ps:List P}(h:DI W H c x)(e:DO c=some ps):∃a vs,x= .ref a/\(Fd W.K H a vs\/FX W.K H a vs)/\A7 W H ps vs:=by
 unfold DO at e;split at e
 .rename_i hc;cases e;obtain⟨a,vs,e1,e2,e3⟩:=D2 h hc;exact#[a,vs,e1,.inl e2,e3]
 .rename_i hc;cases e;rw[GJ hc]at h;obtain⟨a,vs,e1,e2,e3⟩:=CJ h;exact#[a,vs,e1,.inr e2,e3]
 .cases e
theorem Oi(n d:Nat)(o:Option Int):N8 n d o=HT.KO n d o:=by
 cases o with
 |none=>rfl
 |some v=>
   have:=HT.WK v n d;unfold N8;dsimp only;split
   .rename_i h;rw[iP h]at this
    lia
   .rename_i h;rw[iN h]at this
    lia
variable{vs:List V}
theorem WC{ps:List P}(h:A7 W H ps vs)(lo hi:Option Int):A7 W H (cut ps lo hi) (PX vs lo hi):=by
 unfold cut PX;rw[Oi,Oi,h.length];exact(h.drop _).take _
def kJ(W:Wd):V->Option Int->Option Int->Hp->VK->Prop:=λx lo hi H Q=>∃c r,DI W H c x/\CI c lo hi=some r/\Fe W H r Q
theorem Mf{x:Str}{i:Int}(h:(x.length:Int)<i):Txt.slice x (some i) none=Txt.slice x (some (x.length:Int)) none:=by
 have e:Builtin.Str.strSliceIndices (some i) none 1 x.length=Builtin.Str.strSliceIndices (some (x.length:Int)) none 1 x.length:=by
  unfold Builtin.Str.strSliceIndices;have h0:¬i<0:=by lia
  have h1:¬((x.length:Int))<0:=by lia
  have h2:max 0 (min i (x.length:Int))=x.length:=by lia
  simp[h0,h1,h2]
 unfold Txt.slice;rw[e]
theorem Nz(hK:W.K=X.K):jW X (kJ W):=by
 intro A1 s Y H x v vl vu lo hi sl Q I rx hs pl pu h;obtain⟨c,r,h1,e,q⟩:=h;unfold CI at e;split at e
 .rename_i ps hc;cases e;obtain⟨a,vs,rfl,k1,k2⟩:=D2 h1 hc;exact V0 A1 s Y H _ v vl vu lo hi sl Q I rx hs pl pu #[a,vs,rfl,hK▸k1,q.list (WC k2 lo hi)]
 .rename_i z hc;rw[GJ hc]at h1;cases Bx h1;obtain⟨y,ey,rfl⟩:=oM e;have hlen:z.cps.toList.length=z.length:=by show z.cps.toList.length=z.cps.size;simp
  unfold D7 at ey;split at ey
  .rename_i j;split at ey
   case isFalse=>cases ey
   rename_i hj;cases ey;refine Mg A1 s Y H _ v vl vu none (some j) sl Q I rx hs pl pu #[z,rfl,Nat.le_trans hj.2.2 Cs,?_];rw[Kd.QT hj.1 hj.2.1];exact q.plain (AE.mpr rfl)
  .rename_i i;split at ey
   case isFalse=>cases ey
   rename_i hj;cases ey;refine Mg A1 s Y H _ v vl vu (some i) none sl Q I rx hs pl pu #[z,rfl,Nat.le_trans hj.2 Cs,?_]
   have e:Txt.slice z (some i) none=#[(z.cps.toList.drop i.toNat).toArray]:=by
    by_cases h:(z.length:Int)<i
    .rw[Mf h,Kd.Hn (Int.natCast_nonneg _) (Int.le_refl _),Int.sub_self,List.drop_eq_nil_of_le (by lia:z.cps.toList.length<=i.toNat)];rfl
    .rw[Kd.Hn hj.1 (by lia),take_of_length_le];rw[length_drop,hlen]
     lia
   rw[e];exact q.plain (AE.mpr rfl)
  .rename_i i j;split at ey
   case isFalse=>cases ey
   rename_i hj;cases ey;refine Mg A1 s Y H _ v vl vu (some i) (some j) sl Q I rx hs pl pu #[z,rfl,Nat.le_trans hj.2.2.2 Cs,?_];rw[eq_of_beq (PyProof.Rows.slice_closesL hj.1 hj.2.1 hj.2.2.1)];exact q.plain (AE.mpr rfl)
  .cases ey
 .cases e
theorem iv(hK:W.K=X.K):Bc X (.builtin "len") (AU W (Pc JZ)):=by
 intro A1 s Y H xs us Q I r h;obtain⟨x,c,r',rfl,h1,e,q⟩:=CB h;have e0:=e;unfold JZ at e;split at e
 .rename_i ps hc;cases e;obtain⟨a,vs,rfl,k1,k2⟩:=D2 h1 hc;refine Ic A1 s Y H _ us Q I r #[_,_,rfl,.inl #[vs,hK▸k1,rfl],?_];rw[k2.length];exact q.plain (Ak.mpr rfl)
 .rename_i ps hc;cases e;rw[GJ hc]at h1;obtain⟨a,vs,rfl,k1,k2⟩:=CJ h1;refine Ic A1 s Y H _ us Q I r #[_,_,rfl,.inr #[vs,hK▸k1,rfl],?_];rw[k2.length];exact q.plain (Ak.mpr rfl)
 .rename_i z hc;split at e
  case isFalse=>cases e
  rename_i hl;cases e;rw[GJ hc]at h1;cases Bx h1;exact Ic A1 s Y H _ us Q I r #[_,_,rfl,#[Nat.le_trans hl Cs,rfl],q.plain (Ak.mpr rfl)]
 .cases e
theorem T8(hK:W.K=X.K):Bc X (.type "list") (AU W (Pc λc=>(DO c).map .lst)):=by
 intro A1 s Y H xs us Q I r h;obtain⟨x,c,r',rfl,h1,e,q⟩:=CB h;obtain⟨ps,ep,rfl⟩:=oM e;obtain⟨a,vs,rfl,k1,k2⟩:=KR h1 ep;exact Kl A1 s Y H _ us Q I r #[a,vs,rfl,hK▸k1,q.list k2]
theorem WS(hK:W.K=X.K):Bc X (.type "tuple") (AU W (Pc λc=>(DO c).map λx=>.p (.tup x))):=by
 intro A1 s Y H xs us Q I r h;obtain⟨x,c,r',rfl,h1,e,q⟩:=CB h;obtain⟨ps,ep,rfl⟩:=oM e;obtain⟨a,vs,rfl,k1,k2⟩:=KR h1 ep;rcases k1 with k1|k1
 .exact EJ A1 s Y H _ us Q I r #[a,vs,rfl,.inl #[hK▸k1,q.tup k2]]
 .exact EJ A1 s Y H _ us Q I r #[a,vs,rfl,.inr #[hK▸k1,q.plain (Dj.mpr #[a,vs,rfl,k1,k2])]]
theorem Jl:∀{ps:List P} {vs:List V} {ns:List Bool},A7 W H ps vs->F9 ps=some ns->vs=ns.map V.bl
 |[],vs,ns,h,e=>by unfold A7 at h;cases e;exact h
 | .bl i::ps,vs,ns,h,e=>by
   unfold F9 at e;obtain⟨ms,em,rfl⟩:=oM e;unfold A7 at h;obtain⟨v,r,rfl,h1,h2⟩:=h;cases BB.mp h1;rw[Jl h2 em];rfl
 |.Az::_,_,_,_,e=>by cases e
 |.int _::_,_,_,_,e=>by cases e
 |.str _::_,_,_,_,e=>by cases e
 |.tup _::_,_,_,_,e=>by cases e
 |.fn _::_,_,_,_,e=>by cases e
 |.box _ _::_,_,_,_,e=>by cases e
theorem iB(hK:W.K=X.K)(hc:X.calm=true):Bc X (.builtin "all") (AU W (Pc Ih)):=by
 intro A1 s Y H xs us Q I r h;obtain⟨x,c,r',rfl,h1,e,q⟩:=CB h;unfold Ih gr at e;split at e
 .rename_i ps hc';obtain⟨ns,en,rfl⟩:=oM e;obtain⟨a,vs,rfl,k1,k2⟩:=D2 h1 hc';rw[Jl k2 en]at k1;exact LI hc A1 s Y H _ us Q I r #[a,ns,rfl,hK▸k1,q.bl]
 .cases e
theorem ir(hc:X.calm=true):Bc X (.builtin "min") (AU W (jk (E1 gj))):=by
 intro A1 s Y H xs us Q I r h;obtain⟨x,y,a,b,r',rfl,h1,h2,e,q⟩:=Vh h;unfold E1 at e;split at e
 .obtain⟨k,ek,rfl⟩:=oM e;cases ek;cases Ay h1;cases Ay h2;exact Q0 hc A1 s Y H _ us Q I r #[_,_,rfl,q.plain (Ak.mpr rfl)]
 .cases e
section
variable (K:PySem.W.Frag)
theorem GN:kitOne K (.type "NoneType") (.type "int")=some false:=by kernel_rfl
theorem G7:kitOne K (.type "NoneType") (.type "bool")=some false:=by kernel_rfl
theorem GL:kitOne K (.type "NoneType") (.type "str")=some false:=by kernel_rfl
theorem FF:kitOne K (.type "NoneType") (.type "tuple")=some false:=by kernel_rfl
theorem Ll:kitOne K (.type "bool") (.type "int")=some true:=by kernel_rfl
theorem K4:kitOne K (.type "bool") (.type "bool")=some true:=by kernel_rfl
theorem Lk:kitOne K (.type "bool") (.type "str")=some false:=by kernel_rfl
theorem Iu:kitOne K (.type "bool") (.type "tuple")=some false:=by kernel_rfl
theorem MM:kitOne K (.type "int") (.type "int")=some true:=by kernel_rfl
theorem Lj:kitOne K (.type "int") (.type "bool")=some false:=by kernel_rfl
theorem ML:kitOne K (.type "int") (.type "str")=some false:=by kernel_rfl
theorem K3:kitOne K (.type "int") (.type "tuple")=some false:=by kernel_rfl
theorem MK:kitOne K (.type "str") (.type "int")=some false:=by kernel_rfl
theorem Lh:kitOne K (.type "str") (.type "bool")=some false:=by kernel_rfl
theorem MJ:kitOne K (.type "str") (.type "str")=some true:=by kernel_rfl
theorem K2:kitOne K (.type "str") (.type "tuple")=some false:=by kernel_rfl
theorem K1:kitOne K (.type "tuple") (.type "int")=some false:=by kernel_rfl
theorem Ir:kitOne K (.type "tuple") (.type "bool")=some false:=by kernel_rfl
theorem K0:kitOne K (.type "tuple") (.type "str")=some false:=by kernel_rfl
theorem HK:kitOne K (.type "tuple") (.type "tuple")=some true:=by kernel_rfl
theorem Li:kitOne K (.type "list") (.type "str")=some false:=by kernel_rfl
end
def Nk:Ty->String
 |.int=>"int"| .bool=>"bool"| .str=>"str"| .tuple=>"tuple"| .cls _=>"object"
variable{A1:Oa}{s:Shared}
theorem UN{Y:L2.St}(I:Inv X A1 Y H s)(h:Fd X.K H a xs):∃o,s.heap.get? a=some o/\o.cls= .type "list":=by
 obtain⟨its,_,⟨o,n,e,c,_⟩,_⟩:=I.list h;exact#[o,e,c]
theorem Z4{Y:L2.St}(I:Inv X A1 Y H s)(h:FX X.K H a xs):∃o,s.heap.get? a=some o/\o.cls= .type "tuple":=by
 obtain⟨its,_,⟨o,e,c,_⟩,_⟩:=I.tuple h;exact#[o,e,c]
theorem ix(hK:W.K=X.K)(hw:W.w=X.w)(t:Ty)(ht:∀cs,t≠.cls cs):Bc X (.builtin "isinstance") (λxs H Q=>∃x c b,xs=[x,.ty (Nk t)]/\DI W H c x/\DZ t c=some b/\Q (.bl b) H):=by
 intro A1 s Y H xs us Q I r h;obtain⟨x,c,b,rfl,h1,e,q⟩:=h;obtain⟨u,w',rfl,ru,rw'⟩:=vals2 r;cases rw'
 have fin:∀(b':Bool),DZ t c=some b'->∀tk,EP X A1 Y Q (.bool b') {s with toks:=tk}:=λb' e' tk=>by
  rw[e]at e';cases e';exact#[.bl b,H,I.tok tk,rfl,q]
 cases c with
 |obj _ _=>cases t<;>first|exact absurd rfl (ht _)|cases e
 |b y =>
   cases y with
   |p p =>
     cases p with
     |fn _=>cases t<;>first|cases e|exact absurd rfl (ht _)
     |box n ps=>
       obtain⟨a,o,vs,rfl,_,hb⟩:=Ht.mp (show AH W H (.box n ps) x from h1);cases ru;cases t with
       |str=>
         rcases hb with⟨rfl,hb⟩|⟨rfl,_⟩
         .obtain⟨o',h3,h4⟩:=UN I (xs:=vs) (.inl (.inr #[o,hb]));exact kia_one PySem.W.kitx_list I.Cn #[o',h3,h4] (Li _) (λz=>nomatch z) (fin false rfl)
         .cases e
       |cls cs=>exact absurd rfl (ht cs)
       |_=>cases n with|zero=>cases e|succ n=>cases e
     |Az=>
       cases JH h1;cases ru;cases t with
       |int=>exact kia_one kitx_none I.Cn True.intro (GN _) (λz=>nomatch z) (fin false rfl)
       |bool=>exact kia_one kitx_none I.Cn True.intro (G7 _) (λz=>nomatch z) (fin false rfl)
       |str=>exact kia_one kitx_none I.Cn True.intro (GL _) (λz=>nomatch z) (fin false rfl)
       |tuple=>exact kia_one kitx_none I.Cn True.intro (FF _) (λz=>nomatch z) (fin false rfl)
       |cls cs=>exact absurd rfl (ht cs)
     |bl i=>
       cases ND h1;cases ru;cases t with
       |int=>exact kia_one kitx_bool I.Cn True.intro (Ll _) (λz=>nomatch z) (fin true rfl)
       |bool=>exact kia_one kitx_bool I.Cn True.intro (K4 _) (λz=>nomatch z) (fin true rfl)
       |str=>exact kia_one kitx_bool I.Cn True.intro (Lk _) (λz=>nomatch z) (fin false rfl)
       |tuple=>exact kia_one kitx_bool I.Cn True.intro (Iu _) (λz=>nomatch z) (fin false rfl)
       |cls cs=>exact absurd rfl (ht cs)
     |int i=>
       cases Ay h1;obtain⟨tk,rfl⟩:=ru;cases t with
       |int=>exact kia_one kitx_int I.Cn True.intro (MM _) (λz=>nomatch z) (fin true rfl)
       |bool=>exact kia_one kitx_int I.Cn True.intro (Lj _) (λz=>nomatch z) (fin false rfl)
       |str=>exact kia_one kitx_int I.Cn True.intro (ML _) (λz=>nomatch z) (fin false rfl)
       |tuple=>exact kia_one kitx_int I.Cn True.intro (K3 _) (λz=>nomatch z) (fin false rfl)
       |cls cs=>exact absurd rfl (ht cs)
     |str i=>
       cases Bx h1;obtain⟨tk,rfl⟩:=ru;cases t with
       |int=>exact kia_one kitx_str I.Cn True.intro (MK _) (λz=>nomatch z) (fin false rfl)
       |bool=>exact kia_one kitx_str I.Cn True.intro (Lh _) (λz=>nomatch z) (fin false rfl)
       |str=>exact kia_one kitx_str I.Cn True.intro (MJ _) (λz=>nomatch z) (fin true rfl)
       |tuple=>exact kia_one kitx_str I.Cn True.intro (K2 _) (λz=>nomatch z) (fin false rfl)
       |cls cs=>exact absurd rfl (ht cs)
     |tup ps=>
       obtain⟨a,vs,rfl,k1,k2⟩:=CJ h1;cases ru;have ob:=Z4 I (hK▸k1);cases t with
       |int=>exact kia_one kitx_tuple I.Cn ob (K1 _) (λz=>nomatch z) (fin false rfl)
       |bool=>exact kia_one kitx_tuple I.Cn ob (Ir _) (λz=>nomatch z) (fin false rfl)
       |str=>exact kia_one kitx_tuple I.Cn ob (K0 _) (λz=>nomatch z) (fin false rfl)
       |tuple=>exact kia_one kitx_tuple I.Cn ob (HK _) (λz=>nomatch z) (fin true rfl)
       |cls cs=>exact absurd rfl (ht cs)
   |lst ps=>cases t<;>first|exact absurd rfl (ht _)|cases e
   |ro ps=>cases t<;>first|exact absurd rfl (ht _)|cases e
variable{prog:Program}{w:World}{A:Around}{es:List DictEntry}{ep:Nat}
variable{H:Hp}
variable{E:Va}{s:Shared}{d:Addr}
def R1(W:Wd):V->Hp->(Bool->Hp->Prop)->Prop:=λx H Q=>∃c b,DI W H c x/\Cz c=some b/\Q b H
theorem Jd{ps:List P}(h:A7 W H ps vs):(!ps.isEmpty)= !vs.isEmpty:=by
 have:=h.length;cases ps<;>cases vs<;>simp at this ⊢
theorem YW(hK:W.K=X.K):iU X (R1 W):=by
 intro A1 s Y H x v Q I rx h;obtain⟨c,b,h1,e,q⟩:=h;have ok:=λ(z:iT X.K x H b)=>YX A1 s Y H x v Q I rx #[b,z,q]
 unfold Cz at e;split at e
 .rename_i hc;cases e;rw[GJ hc]at h1;cases JH h1;exact ok rfl
 .rename_i hc;cases e;rw[GJ hc]at h1;cases ND h1;exact ok rfl
 .rename_i hc;cases e;rw[GJ hc]at h1;cases Ay h1;exact ok rfl
 .rename_i y hc;rw[GJ hc]at h1;cases Bx h1;split at e
  case isFalse=>cases e
  rename_i hl;cases e;refine ok #[Nat.le_trans hl Cs,?_];cases y.length<;>simp<;>lia
 .rename_i ps hc;cases e;rw[GJ hc]at h1;obtain⟨a,vs,rfl,k1,k2⟩:=CJ h1;exact ok (.inr (.inl #[vs,hK▸k1,Jd k2]))
 .rename_i ps hc;cases e;obtain⟨a,vs,rfl,k1,k2⟩:=D2 h1 hc;exact ok (.inl #[vs,hK▸k1,Jd k2])
 .cases e
variable{EX:XP}{Y:L2.St}
theorem Wf{F:Env->Res Hd}{K:List V->Hp->Prop}(h:tG W EX (Bt W) (λU=>(F U).bind λh U=>.ok [h] U) Y H K):tG W EX (FW W) F Y H λv H1=>K [v] H1:=by
 obtain⟨U,os,hR,hn,hA⟩:=h;dsimp only at hA;refine#[U,os,hR,hn,?_];cases eF:F U with
 |A2=>rw[eF]at hA;exact hA
 |err x p U'=>rw[eF]at hA;exact hA
 |ok a U1=>
   rw[eF]at hA;exact λv H1 o os1 h1 h2 h3 h4=>hA [v] H1 o os1 #[v,[],o,[],rfl,h1,#[rfl,rfl],by simp] h2 h3 h4
theorem K9{F:Env->Res (List Hd)}{n:Nat}(hF:∀U hs U',F U= .ok hs U'->hs.length=n){K:List V->Hp->Prop}(h:tG W EX (Bt W) F Y H K):tG W EX (Bt W) F Y H λvs H1=>vs.length=n/\K vs H1:=by
 obtain⟨U,os,hR,hn,hA⟩:=h;refine#[U,os,hR,hn,?_];unfold Ck at hA ⊢;cases eF:F U with
 |A2=>rw[eF]at hA;exact hA
 |err x p U'=>rw[eF]at hA;exact hA
 |ok a U1=>
   rw[eF]at hA;intro vs H1 o os1 h1 h2 h3 h4;refine#[?_,hA vs H1 o os1 h1 h2 h3 h4];rw[<-hF U a U1 eF];clear hA eF h3 h4
   induction a generalizing vs o with
   |nil=>rw[h1.1];rfl
   |cons h hs ih=>
     obtain⟨v,r,o1,o2,rfl,_,h5,rfl⟩:=h1;rw[lC,lC,ih r o2 h5]
theorem Jz{α β:Type}{rep:L2.St->Hp->Env->α->β->List Addr->Prop}{F:Env->Res α}{Q Q':β->Hp->Prop}(h:tG W EX rep F Y H Q)(k:∀b H',Q b H'->Q' b H'):tG W EX rep F Y H Q':=by
 obtain⟨U,os,hR,hn,hA⟩:=h;exact#[U,os,hR,hn,hA.imp k]
section
variable{tg:Expr}
theorem OF(hK:W.K=X.K){xs:List P}{g:Hp->Prop}(h:∀H,g H->∃vs,Fd W.K H a vs/\A7 W H xs vs):Walk W (nU X.K a) xs g where
 go:=λi H hg hi=>by
   obtain⟨vs,h1,h2⟩:=h H hg;have hi':i<vs.length:=by rw[h2.length];exact hi
   exact#[vs,vs[i],hK▸h1,List.getElem?_eq_getElem hi']
 Q8:=λi H x H' hg hi hy=>by
  obtain⟨rfl,hy⟩:=hy;obtain⟨vs,h1,h2⟩:=h _ hg;exact#[BV.refl _,h2.get' (hy vs (hK▸h1))]
 stop:=λH hg=>by
  obtain⟨vs,h1,h2⟩:=h H hg;exact#[vs,hK▸h1,Nat.le_of_eq h2.length]
theorem Ql(hK:W.K=X.K){xs:List P}{g:Hp->Prop}(h:∀H,g H->∃vs,FX W.K H a vs/\A7 W H xs vs):Walk W (nS X.K a) xs g where
 go:=λi H hg hi=>by
   obtain⟨vs,h1,h2⟩:=h H hg;have hi':i<vs.length:=by rw[h2.length];exact hi
   exact#[vs,vs[i],hK▸h1,List.getElem?_eq_getElem hi']
 Q8:=λi H x H' hg hi hy=>by
  obtain⟨rfl,hy⟩:=hy;obtain⟨vs,h1,h2⟩:=h _ hg;exact#[BV.refl _,h2.get' (hy vs (hK▸h1))]
 stop:=λH hg=>by
  obtain⟨vs,h1,h2⟩:=h H hg;exact#[vs,hK▸h1,Nat.le_of_eq h2.length]
theorem IF(y:Str):(signs y).length=y.length:=by
 unfold signs;rw[lM,Array.length_toList];rfl
theorem Qm{g:Hp->Prop}:Walk W (nT y) (signs y) g where
 go:=λi H _ hi=>by rw[IF]at hi;exact hi
 Q8:=λi H x H' _ hi hy=>by
  obtain⟨rfl,c,hc,rfl⟩:=hy;refine#[BV.refl _,sign c,?_,AE.mpr rfl];unfold signs;rw[List.getElem?_map,Array.getElem?_toList,hc];rfl
 stop:=λH _=>by rw[IF];exact lR
theorem NN(hK:W.K=X.K)(hw:W.w=X.w){F:Env->Res Hd}(hl:PE X l (tG W EX (FW W) F)):PI X tg l (Q9 W EX .op (λU=>(F U).bind λh U=>.ok [h] U)):=by
 intro A1 s Y H R I h;refine B2 (hl A1 s Y H _ I (Wf h)) λv s1 ⟨x,H1,I1,r1,q1⟩=>?_
 obtain⟨cs,xs,h1,h2,h3⟩:=q1
 have hS:∃c,cs=[c]/\QW c=some xs:=by
  unfold B5 at h2;split at h2<;>first|cases h2|skip
  all_goals first|exact#[_,rfl,h2]|(exfalso;simp_all)
 clear h2;obtain⟨c,rfl,h2⟩:=hS;obtain⟨_,e,hc⟩:=CA h1;cases e
 have up:∀{H'},CY W H' [c] [x]->DI W H' c x:=λz=>by
  obtain⟨_,e,hc⟩:=CA z;cases e;exact hc
 have fp:∀b,b=s1.heap.objs.size->Gn X A1 H1 b:=λb hb=>by
  subst hb;exact I1.Sw (lR) (I1.Ao.fresh (lR))
 unfold QW at h2;split at h2
 .rename_i ps hn;cases h2;obtain⟨a,vs,rfl,k1,k2⟩:=D2 hc hn;cases r1;obtain⟨its,rv,p,hz⟩:=I1.list (hK▸k1);refine wpAny_pyIter_list p.isList #[s1.heap.objs.size,[s1.heap.objs.size],_,_,H1,rfl,I1.kept (t':=s1.toks) λb o e=>gP e,OJ a _,#[_,Heap.get?_push_size _ rfl,rfl,rfl],λb hb=>fp b (mE hb),h3 _ (OF hK λH' z=>?_)];obtain⟨a',vs',e,g1,g2⟩:=D2 (up z) hn;cases e;exact#[vs',g1,g2]
 .rename_i ps hn;cases h2;have hn':=GJ hn;subst hn';obtain⟨a,vs,rfl,k1,k2⟩:=CJ hc;cases r1;obtain⟨its,rv,p,hz⟩:=I1.tuple (hK▸k1);refine wpAny_pyIter_tuple (show s1.heap.IsTuple a its.toArray from p) #[s1.heap.objs.size,[s1.heap.objs.size],_,_,H1,rfl,I1.kept (t':=s1.toks) λb o e=>gP e,M8 a _,#[_,Heap.get?_push_size _ rfl,rfl,rfl],λb hb=>fp b (mE hb),h3 _ (Ql hK λH' z=>?_)];obtain⟨a',vs',e,g1,g2⟩:=CJ (up z);cases e;exact#[vs',g1,g2]
 .rename_i y hn;split at h2
  case isFalse=>cases h2
  rename_i hy;cases h2;have hn':=GJ hn;subst hn';cases Bx hc;obtain⟨t,rfl⟩:=r1;exact wpAny_pyIter_ascii hy.2 #[s1.heap.objs.size,[s1.heap.objs.size],_,_,H1,rfl,I1.kept (t':=s1.toks) λb o e=>gP e,Qt _ y t,#[_,Heap.get?_push_size _ rfl,rfl,rfl],λb hb=>fp b (mE hb),h3 _ Qm]
 .cases h2
theorem AA(lo hi:Int):(Aq lo hi).length=(hi-lo).toNat:=by unfold Aq;rw[lM,length_range]
theorem Qn{lo hi:Int}{g:Hp->Prop}:Walk W (ja lo (hi-lo).toNat) (Aq lo hi) g where
 go:=λi H _ h=>by rw[AA]at h;exact h
 Q8:=λi H x H' _ h hy=>by
  obtain⟨rfl,rfl⟩:=hy;rw[AA]at h;refine#[BV.refl _,.int (lo+(i:Nat)),?_,Ak.mpr rfl];unfold Aq;rw[List.getElem?_map,List.getElem?_range h];rfl
 stop:=λH _=>by rw[AA];exact lR
variable{α:Type}
theorem VV{l:List α}(h:l.length=1):∃a,l=[a]:=by
 match l,h with
 |[a],_=>exact#[a,rfl]
theorem gw{l:List α}(h:l.length=2):∃a b,l=[a,b]:=by
 match l,h with
 |[a,b],_=>exact#[a,b,rfl]
theorem VU{l:List α}(h:l.length=3):∃a b c,l=[a,b,c]:=by
 match l,h with
 |[a,b,c],_=>exact#[a,b,c,rfl]
theorem Ve{c:C}{xs:List P}(h:B5 .Co [c]=some xs):∃n:Int,c= .p (.int n)/\n.natAbs<2^61/\xs=Aq 0 n:=by
 unfold B5 at h;split at h<;>first|(exfalso;simp_all;done)|skip
 .rename_i n hk hc;split at h
  .rename_i hb;cases hc;cases h;exact#[n,rfl,hb,rfl]
  .cases h
end
section
variable{tg:Expr}
theorem OW{c d f:C}{xs:List P}(h:B5 .Co [c,d,f]=some xs):∃a n s:Int,c= .p (.int a)/\d= .p (.int n)/\f= .p (.int s)/\(0<s/\s<1000000/\a.natAbs<2^61/\n.natAbs<2^61)/\xs=(List.range ((n-a+s-1)/s).toNat).map λk=>.int (a+s*(k:Nat)):=by
 unfold B5 at h;split at h<;>first|(exfalso;simp_all;done)|skip
 .rename_i a n s hk hc;split at h
  .rename_i hb;cases hc;cases h;exact#[a,n,s,rfl,rfl,rfl,hb,rfl]
  .cases h
variable{H:Hp}{y:V}
theorem NB{a b:C}{x:V}(h:CY W H [a,b] [x,y]):DI W H a x/\DI W H b y:=by
 obtain⟨_,_,e,h1,h2⟩:=h;cases e;obtain⟨_,e,h2⟩:=CA h2;cases e;exact#[h1,h2]
theorem G2{a b c:C}{x z:V}(h:CY W H [a,b,c] [x,y,z]):DI W H a x/\DI W H b y/\DI W H c z:=by
 obtain⟨_,_,e,h1,h2⟩:=h;cases e;exact#[h1,NB h2]
variable{F:Env->Res (List Hd)}
theorem Vy{a:Expr}{p pos:Pos}(hg:Gl X "range")(hm:X.mg "range"=none)(hF:∀U hs U',F U= .ok hs U'->hs.length=1)(ha:PA X [a] (tG W EX (Bt W) F))(hs:starEach [a] X.env=[(false,eval a X.env)]):PI X tg (.Call (.Name "range" p) [a] [] pos) (Q9 W EX .Co F):=by
 intro A1 s Y H R I h;refine P8 hg hm ha hs A1 s Y H R I (Jz (K9 hF h) λvs H1 z=>?_);obtain⟨hl,cs,xs,h1,h2,h3⟩:=z;obtain⟨v,rfl⟩:=VV hl;obtain⟨c,rfl⟩:=VV (h1.length.symm.trans hl);obtain⟨n,rfl,hb,rfl⟩:=Ve h2;obtain⟨_,e,hc⟩:=CA h1;cases e;cases Ay hc;have:=h3 (ja 0 (n-0).toNat) Qn;rw[Int.sub_zero]at this;exact#[n,rfl,by lia,by lia,this]
theorem XT{s:Int}(hs:0<s):Builtin.Range.rangeSize a n s=(((n-a+s-1)/s).toNat:Nat):=by
 unfold Builtin.Range.rangeSize;rw[iP hs];have e:n-a+s-1=(n-a-1)+s:=by lia
 have e2:((n-a-1)+s)/s=(n-a-1)/s+1:=by
  have:=Int.add_mul_ediv_right (n-a-1) 1 (c:=s) (by lia);rw[Int.one_mul]at this;exact this
 rw[e,e2];split
 .have:0<=(n-a-1)/s:=Int.ediv_nonneg (by lia) (by lia)
  lia
 .have:(n-a-1)/s<0:=Int.ediv_neg_of_neg_of_pos (by lia) hs
  lia
theorem Z7{a n s:Int}(hs:0<s)(h2:s<1000000)(ha:a.natAbs<2^61)(hn:n.natAbs<2^61):Builtin.Range.small a n s=true:=by
 have hz:=XT (a:=a) (n:=n) hs
 have hb:(n-a+s-1)/s<=2^62+1000000:=by
  have:(n-a+s-1)/s*s<=n-a+s-1:=Int.ediv_mul_le _ (by omega);rcases Int.lt_or_le ((n-a+s-1)/s) 0 with z|z
  .omega
  .have h1:(n-a+s-1)/s*1<=(n-a+s-1)/s*s:=Int.mul_le_mul_of_nonneg_left (by omega) z;omega
 unfold Builtin.Range.small;rw[hz,iP hs];simp only[Builtin.Range.rangeFitsLong,bA,Bool.or_eq_true,decide_eq_true_eq,beq_iff_eq];omega
theorem OE{a s:Int}{n:Nat}{g:Hp->Prop}:Walk W (mY a s n) ((List.range n).map λk=>.int (a+s*(k:Nat))) g where
 go:=λi H _ h=>by rw[lM,length_range]at h;exact h
 Q8:=λi H x H' _ h hy=>by
  obtain⟨rfl,rfl⟩:=hy;rw[lM,length_range]at h;refine#[BV.refl _,.int (a+s*(i:Nat)),?_,Ak.mpr (by rw[Int.mul_comm])];rw[List.getElem?_map,List.getElem?_range h];rfl
 stop:=λH _=>by rw[lM,length_range];exact lR
theorem Vx{a b c:Expr}{p pos:Pos}(hg:Gl X "range")(hm:X.mg "range"=none)(hF:∀U hs U',F U= .ok hs U'->hs.length=3)(ha:PA X [a,b,c] (tG W EX (Bt W) F))(hs:starEach [a,b,c] X.env=[(false,eval a X.env),(false,eval b X.env),(false,eval c X.env)])
 (hs2:starEach [b,c] X.env=[(false,eval b X.env),(false,eval c X.env)]):PI X tg (.Call (.Name "range" p) [a,b,c] [] pos) (Q9 W EX .Co F):=by
 intro A1 s Y H R I h;refine P7 hg hm ha hs hs2 A1 s Y H R I (Jz (K9 hF h) λvs H1 z=>?_);obtain⟨hl,cs,xs,h1,h2,h3⟩:=z;obtain⟨v,u,t,rfl⟩:=VU hl;obtain⟨c,d,f,rfl⟩:=VU (h1.length.symm.trans hl);obtain⟨i,n,k,rfl,rfl,rfl,hb,rfl⟩:=OW h2;obtain⟨c1,c2,c3⟩:=G2 h1;cases Ay c1;cases Ay c2;cases Ay c3;exact#[i,n,k,_,rfl,hb.1,hb.2.1,Z7 hb.1 hb.2.1 hb.2.2.1 hb.2.2.2,XT hb.1,h3 _ OE]
end
end Iv
namespace Iv
open PySem PySem.Spec L2 PyProof.Rows
variable{prog:Program}{w:World}{A:Around}{R:Result->Shared->Prop}{s:Shared}
noncomputable abbrev tests(ifs:List Expr)(env:PySem.Env):Sem Bool:=forIn ifs true λc r=>if r=true then do let ok <-isTrue c env (eval c env);pure (ForInStep.yield ok)else pure (ForInStep.yield r)
theorem MD{elt target iter:Expr}{ifs:List Expr}{scope:Scope}{pos:Pos}{it acc:Value}{env:PySem.Env}(I:Nat->Shared->Prop)
 (turn : ∀n s,I n s->wpAny (model prog w) A (pyNext it) (λr s₁=>match r with
  |none=>R (.ok .next) s₁
  |some v=>wpAny (model prog w) A (letOwnedTupleGo target it v) (λ_ s₀=>wpAny (model prog w) A (assign target env v) (λ_ s₂=>wpAny (model prog w) A (tests ifs env) (λok s₃=>
   if ok=true then wpAny (model prog w) A (eval elt env) (λx s₄=>
    wpAny (model prog w) A (call (.builtin "list.append") [acc,x]) (λ_ s₅=>∃m,m<n/\I m s₅) (λ_ _=>False) s₄) (λ_ _=>False) s₃ else ∃m,m<n/\I m s₃) (λ_ _=>False) s₂) (λ_ _=>False) s₀) (λ_ _=>False) s₁) (λ_ _=>False) s)
 (n:Nat)(h:I n s):codeAny (model prog w) A (.compLoop (.ListComp elt [#[target,iter,ifs,0]] scope pos) 0 it acc env) R s:=by
 refine codeAny_loop rfl I (λn s hI=>?_) n h;show wpAny _ _ ((compTurn (.ListComp elt [#[target,iter,ifs,0]] scope pos) 0 it acc env).onRaise (λx=>noteFrame x env >>= λ_=>theTreesLotGoes x)) _ _ s;refine wpAny_noted ?_;rw[compTurn_list];refine wB (wpAny_standAt (wB (wpAny_mono (turn n s hI) (λr s₁ h₁=>?_) λ_ _ z=>z.elim)));cases r with
 |none=>exact wP h₁
 |some v=>
   refine wB (wpAny_mono h₁ (λ_ s₀ h₀=>wB (wpAny_mono h₀ (λ_ s₂ h₂=>wB (wpAny_mono h₂ (λok s₃ h₃=>?_) λ_ _ z=>z.elim)) λ_ _ z=>z.elim)) λ_ _ z=>z.elim);cases ok with
   |true=>
     rw[iP rfl]at h₃;exact wB (wB (wpAny_mono h₃ (λx s₄ h₄=>wB (wpAny_mono h₄ (λ_ s₅ h₅=>wP (wP #[rfl,h₅])) λ_ _ z=>z.elim)) λ_ _ z=>z.elim))
   |false=>
     rw[iN Bool.false_ne_true]at h₃;exact wP #[rfl,h₃]
section
variable{X:Cx}{elt iter tg:Expr}{ifs:List Expr}{scope:Scope}{pos:Pos}{N:List Str}{fr:List (Option Nat)}{g:TG}{te:TE}{tc:TT}{wi:TI}
def Xd(X:Cx)(ifs:List Expr)(t:TT):Prop:=
 ∀(A1:Oa) (s:Shared) (Y:L2.St) (H:Hp) (Q:Bool->Hp->Prop),Inv X A1 Y H s->t Y H Q->(X|||(tests ifs X.env)) (TP X A1 Y Q) X.xe s
theorem Vw:Xd X [] (λY H Q=>Q true H):=λA1 s Y H Q I h=>wpAny_tests_nil #[H,I,h]
theorem Vv(h:PT X c tc):Xd X [c] tc:=λA1 s Y H Q I k=>wpAny_tests_one (h A1 s Y H Q I k)
def TM(J:It)(g:TG)(tc:TT)(te:TE)(Y0:L2.St)(H0:Hp)(Q:List V->Hp->Prop):Prop:=∃W:Nat->List V->Nat->L2.St->Hp->Prop,(∃m,W 0 [] m Y0 H0)/\∀i acc m Y' H',W i acc m Y' H'->
 (J.stop i H'/\Q acc H')\/(J.go i H'/\acc.length<sizeLine/\∀x H2,J.Q8 i H' x H2->g x Y' H2 λY2 H3=>tc Y2 H3 λb H4=>if b=true then te Y2 H4 λy H5=>∃m',m'<m/\W (i+1) (acc++[y]) m' Y2 H5 else ∃m',m'<m/\W (i+1) acc m' Y2 H4)
theorem Te{A1:Oa}{Y:L2.St}{H:Hp}{s:Shared}{J:It}{fp:List Addr}{it:Addr}{tn:Nat->Heap->Prop}{Q:List V->Hp->Prop}{E:Va}(hc:X.calm=true)(ok:DF X.N X.env.scope N scope fr)
 (hb:∀C s H fp,PG (B0 X N scope C s H fp) tg g/\PE (B0 X N scope C s H fp) elt te/\Xd (B0 X N scope C s H fp) ifs tc)(I:Inv X A1 Y H s)(T:Turn X.prog X.w X.K tg J fp it tn)(t0:tn 0 s.heap)(hf:∀b∈fp,Gn X A1 H b)
 (hW:TM J g tc te (BZ fr Y) H Q):
 (X|||(newList [])) (λacc s₃=>(X|||(newFunctionEnv scope X.env.globals (GD X.env.cells scope.names []) [] X.env.qual none .none (some X.env))) (λcenv s₄=>
  codeAny (model X.prog X.w) X.A (.compStart (.ListComp elt [#[tg,iter,ifs,0]] scope pos) 0 (.ref it) acc {cenv with scope:=relabel scope X.env}) (CompEnd X A1 Y Q acc cenv.locals) s₄) E s₃) E s:=by
 have hfl:∀b∈fp,b<s.heap.objs.size:=λb hb=>by
  obtain⟨o,e,_⟩:=T.obj 0 _ t0 b hb;exact Heap.lt_size e
 refine wpAny_newObj_type (wpAny_newFunctionEnv ok.DT (by intro y hy;simp at hy) (λh₁ hns₁ hsb₁=>?_) ok.kind);dsimp only at hns₁ hsb₁ ⊢;generalize hH2:s.heap.push {cls:=.type "list",dict:=none,data:=.seq ([]:List Value).toArray}=H2 at hns₁ hsb₁ ⊢;have hC:H2.objs.size=s.heap.objs.size+1:=by rw[<-hH2,Heap.size_push]
 have hDC:s.heap.objs.size≠H2.objs.size:=by rw[hC];exact Nat.ne_of_lt (Nat.lt_succ_self _)
 have hCle:s.heap.objs.size<=H2.objs.size:=by rw[hC];exact Nat.le_succ _
 have old:∀b o,s.heap.get? b=some o->h₁.get? b=some o:=λb o e=>
  hsb₁.extBut b o (by rw[hC];exact Nat.ne_of_lt (Nat.lt_succ_of_lt (Heap.lt_size e))) (gP (hH2▸gP e))
 have hacc:h₁.get? s.heap.objs.size=some {cls:=.type "list",dict:=none,data:=.seq ([]:List Value).toArray}:=hsb₁.extBut _ _ hDC (gP (hH2▸Heap.get?_push_size _ rfl));obtain⟨W,⟨m0,w0⟩,turn⟩:=hW;obtain⟨hg,he,ht⟩:=hb H2.objs.size s H fp;have I1:=Ia (N:=N) (fr:=fr) (tk:=s.toks+([]:List (Str×Value)).length) I ok hf hfl hCle hns₁ old;have hDfp:s.heap.objs.size∉fp:=λz=>Nat.lt_irrefl _ (hfl _ z)
 have fpx:∀{H':Hp} {ps:Oa},(∀b∈fp,H' b=none)->(∀p∈ps,p.1=s.heap.objs.size)->∀b∈fp,Gn (B0 X N scope H2.objs.size s H fp) ps H' b:=λ{H' ps} hn hp b hb=>
  ⟨hn b hb,(I1.ok.gW b hb).1,I1.ok.PQ b hb,.inl hb,(I1.ok.gW b hb).2,λp hp' z=>by
   have hp':p∈([]:Oa)++ps:=hp';rw[nil_append]at hp'
   exact hDfp (by rw[<-hp p hp',z];exact hb)⟩
 have loop :∀s₃:Shared,s₃={s with heap:=h₁,toks:=s.toks+([]:List (Str×Value)).length}->
  codeAny (model X.prog X.w) X.A (.compLoop (.ListComp elt [#[tg,iter,ifs,0]] scope pos) 0 (.ref it) (.ref s.heap.objs.size) (compEnvC scope (GD X.env.cells scope.names []) H2.objs.size X.env))
   (CompEnd X A1 Y Q (.ref s.heap.objs.size) H2.objs.size) s₃:=by
  rintro s₃ rfl
  refine MD (λn s'=>∃i acc its k Y' H',Inv (B0 X N scope H2.objs.size s H fp) [(s.heap.objs.size,({cls:=.type "list",data:=.seq its k}:Obj))] Y' H' s'/\tn i s'.heap/\(∀b∈fp,H' b=none)/\acc.length<=sizeLine/\Vals acc its.toList/\W i acc n Y' H') ?_ m0
   #[0,[],[].toArray,0,BZ fr Y,H,?_,?_,λb hb=>(hf b hb).1,Nat.zero_le _,.nil,w0]
  .rintro n s3 ⟨i,acc,its,k,Y3,H3,I3,st3,fr3,hz3,va3,w3⟩
   have pinD:=I3.pin _ (mR mS);rcases turn i acc n Y3 H3 w3 with⟨stop,q⟩|⟨go,hlen,step⟩
   .refine B2 (T.done (B0 X N scope H2.objs.size s H fp) rfl rfl rfl hc i _ s3 Y3 H3 _ I3 (fpx fr3 (by simp)) st3 stop) λr s4 ⟨hr,I4⟩=>?_
    subst hr;have p4:=I4.pin _ (mR mS);have J4:Inv X A1 Y H3 s4:=I.YA (ch:=fp) I4.os I4.base I4.Ao I4.bare λb hb=>#[(hf b hb).2.2.2.1,(hf b hb).2.1,(hf b hb).2.2.2.2.1,(hf b hb).2.2.2.2.2]
    have fD:Gn X A1 H3 s.heap.objs.size:=I.Sw (lR) p4.2.1;have e4:s4.heap.get? s.heap.objs.size=some {cls:=.type "list",data:=.seq its.toList.toArray k}:=by simpa using p4.1
    refine#[rfl,_,H3,acc,rfl,p4.2.1,J4.dW fD hz3 va3 e4,?_,I.Sw hCle ?_,q]
    .obtain⟨m,hn,_⟩:=I4.loc;exact#[m,hn]
    .rw[Ab (Ne.symm hDC)];exact I4.free
   .refine B2 (T.item (B0 X N scope H2.objs.size s H fp) rfl rfl rfl hc i _ s3 Y3 H3 _ I3 (fpx fr3 (by simp)) st3 go) λr s4 ⟨u,hr,h4⟩=>?_
    subst hr;refine B2 h4 λ_ s5 ⟨x,H5,I5,r5,y5,st5,fr5⟩=>?_
    have I5':=I5.pinned (fpx fr5 (by simp)) (T.obj _ _ st5);refine B2 (hg _ s5 Y3 H5 x u _ I5' r5 (step x H5 y5)) λ_ s6 ⟨Y6,H6,I6,q6⟩=>?_
    refine B2 (ht _ s6 Y6 H6 _ I6 q6) λok s6' ⟨H6',I6',q6'⟩=>?_
    cases ok with
    |false=>
      rw[iN Bool.false_ne_true]at q6' ⊢;obtain⟨m',hm,w7⟩:=q6';have p7:=I6'.pin _ (mR (mL mS));refine#[m',hm,i+1,acc,its,k,Y6,H6',?_,?_,λb hb=>?_,hz3,va3,w7]
      .refine(I6'.Dy (pins':=[]) λp hp=>absurd hp (by simp)).Dy λp hp=>?_
       have:p=(s.heap.objs.size,({cls:=.type "list",data:=.seq its k}:Obj)):=by simpa using hp
       subst this;exact p7
      .refine T.keep _ _ _ st5 λb hb o e=>?_
       exact(I6'.pin (b,o) (mR (mR (C2 hb e)))).1
      .obtain⟨o,e,d⟩:=T.obj _ _ st5 b hb;exact(I6'.pin (b,o) (mR (mR (C2 hb e)))).2.1
    |true=>
    rw[iP rfl]at q6' ⊢;refine B2 (he _ s6' Y6 H6' _ I6' q6') λy s7 ⟨z,H7,I7,r7,q7⟩=>?_
    obtain⟨m',hm,w7⟩:=q7;have p7:=I7.pin _ (mR (mL mS));have hsz:its.size=acc.length:=by rw[va3.length];simp
    refine wpAny_list_append_plain (hsz:=by rw[hsz];exact hz3) #[k,p7.1] λh₅ hl₅ hs₅=>?_
    obtain⟨k',e5⟩:=hl₅;refine#[m',hm,i+1,acc++[z],its.push y,k',Y6,H7,?_,?_,λb hb=>?_,?_,?_,w7]
    .have J7:Inv (B0 X N scope H2.objs.size s H fp) [] Y6 H7 s7:=I7.Dy λp hp=>absurd hp (by simp)
     have J8:Inv (B0 X N scope H2.objs.size s H fp) [] Y6 H7 {s7 with heap:=h₅}:=by
      refine J7.turned (t':=s7.toks) (it:=s.heap.objs.size) (λb o hb e=>(hs₅.2 b hb).trans e) p7.2.1 p7.2.2.1 (.inr (lR)) (λx c e z=>?_) λp hp=>absurd (show p∈([]:Oa)from hp) (by simp)
      obtain⟨v,oc,hoc,hod⟩:=J7.cell x c e;rw[z,p7.1]at hoc;cases hoc;cases hod
     refine J8.Dy λp hp=>?_
     have:p=(s.heap.objs.size,({cls:=.type "list",data:=.seq (its.push y) k'}:Obj)):=by simpa using hp
     subst this;exact#[e5,p7.2.1,p7.2.2.1,p7.2.2.2.1,λv z=>by cases z]
    .refine T.keep _ _ _ st5 λb hb o e=>?_
     have q:=(I7.pin (b,o) (mR (mR (C2 hb e)))).1;exact(hs₅.2 b (λz=>hDfp (z▸hb))).trans q
    .obtain⟨o,e,d⟩:=T.obj _ _ st5 b hb;exact(I7.pin (b,o) (mR (mR (C2 hb e)))).2.1
    .rw[lA,lS];exact hlen
    .rw[Array.toList_push];exact Vals.append va3 (.cons r7 .nil)
  .refine I1.Dy λp hp=>?_
   have:p=(s.heap.objs.size,({cls:=.type "list",data:=.seq [].toArray 0}:Obj)):=by simpa using hp
   subst this
   exact⟨hacc,I.Ao.fresh (lR),hDC,λz=>I.aa (lR) (by
    rcases mK (I.Hj _ z)with e|e
    .exact absurd I.lt (by rw[<-e];exact Nat.lt_irrefl _)
    .exact e),λv z=>by cases z⟩
  .exact T.keep _ _ _ t0 λb _ o e=>old b o e
 refine codeAny_compStart_list (loop _ rfl) ?_;exact T.self _ 0 _ _ _ (T.keep _ _ _ t0 λb _ o e=>old b o e) (loop _ rfl)
def JA(wi:TI)(g:TG)(tc:TT)(te:TE)(fr:List (Option Nat)):TE:=λY H Q=>wi Y H λJ H1=>TM J g tc te (BZ fr Y) H1 λxs H'=>∀p,H' p=none->Q (.ref p) (upd H' p (.lst xs))
theorem Rv(N:List Str)(fr:List (Option Nat))(hc:X.calm=true)(ok:DF X.N X.env.scope N scope fr)(hi:PI X tg iter wi)(hb:∀C s H fp,PG (B0 X N scope C s H fp) tg g/\PE (B0 X N scope C s H fp) elt te/\Xd (B0 X N scope C s H fp) ifs tc)
 (hs:∀x,foldedSetIterable iter X.env x=pure x:=by intro _;rfl):PE X (.ListComp elt [#[tg,iter,ifs,0]] scope pos) (JA wi g tc te fr):=by
 intro A1 s Y H Q I h;rw[eval_ListComp];refine wpAny_comprehension_free (use:=none) rfl hs (CT λy hy e=>I.ok.has y.1 (ok.free y hy e)) ok.kind ok.own ?_;refine B2 (hi A1 s Y H _ I h) λv s1 h1=>B2 h1 λitv s2 h2=>?_
 obtain⟨it,fp,tn,J,H2,e,I2,T,st2,f2,hW⟩:=h2;subst e;refine B2 (Te (pos:=pos) (iter:=iter) (E:=X.xe) hc ok hb I2 T st2 f2 hW) λacc s3 h3=>B2 h3 λcenv s4 h4=>?_
 refine codeAny_mono h4 λr s5 h5=>?_
 obtain⟨rfl,D,H',xs,rfl,hD,I5,⟨m,hn⟩,fC,q⟩:=h5;refine#[m,hn,λh' hs'=>#[.ref D,_,I5.turned (t':=s5.toks) (it:=cenv.locals) (λb o hb e=>(hs'.2 b hb).trans e) fC.1 fC.2.1 fC.2.2.2.1 fC.2.2.2.2.1 fC.2.2.2.2.2,rfl,q D hD]]
theorem Rg{i:Nat}{y:Str}{py spos:Pos}(N:List Str)(fr:List (Option Nat))(hN:X.N.Nodup)(hy:X.N[i]? =some y)(hl:X.env.scope.names.lookup y=some .local)(hc:X.calm=true)(ok:DF X.N X.env.scope N scope fr)(hi:PI X tg iter wi)
 (hb:∀C s H fp,PG (B0 X N scope C s H fp) tg g/\PE (B0 X N scope C s H fp) elt te/\Xd (B0 X N scope C s H fp) ifs tc)
 (hsw:swapsWith (.ListComp elt [#[tg,iter,ifs,0]] scope pos) (some (.Name y py)) spos.line X.env=pure true:=by rfl)
 (hs:∀x,foldedSetIterable iter X.env x=pure x:=by intro _;rfl):PS X (.Assign [.Name y py] (.ListComp elt [#[tg,iter,ifs,0]] scope pos) spos) (QD (JA wi g tc te fr) (EH i)):=by
 intro A1 s Y H Q I h;rw[exec_Assign_Name_used _ _ _ _ hsw];refine wB (wpAny_standAt (wB ?_));show wpAny _ X.A (do let _ <-comprehension (.ListComp elt [#[tg,iter,ifs,0]] scope pos) scope X.env _ (newList []) false (eval iter X.env) (some (assign (.Name y py) X.env))) _ _ s;refine wB (wpAny_mono (wpAny_comprehension_free (use:=some (assign (.Name y py) X.env)) (Q:=λ_ s'=>SP X A1 Q .next s') rfl hs (CT λy hy e=>I.ok.has y.1 (ok.free y hy e)) ok.kind ok.own ?_) (λ_ s' hq=>wP (wP hq)) λ_ _ e=>e);refine B2 (hi A1 s Y H _ I h) λv s1 h1=>B2 h1 λitv s2 h2=>?_
 obtain⟨it,fp,tn,J,H2,e,I2,T,st2,f2,hW⟩:=h2;subst e;refine B2 (Te (pos:=pos) (iter:=iter) (E:=X.xe) hc ok hb I2 T st2 f2 hW) λacc s3 h3=>B2 h3 λcenv s4 h4=>?_
 refine codeAny_mono h4 λr s5 h5=>?_
 obtain⟨rfl,D,H',xs,rfl,hD,I5,⟨m,hn⟩,fC,q⟩:=h5;show wpAny _ X.A (assign (.Name y py) X.env (.ref D)) _ _ _;refine wpAny_assign_Name (IC (v:=.ref D) I5 hN hy (.inl hl) rfl (λs6 I6 hsb=>?_) (.inr hl));obtain⟨a,sb,ha⟩:=hsb
 have hCa:cenv.locals≠a:=by
  rcases ha with e|e
  .rw[e];exact fC.2.1
  .exact λz=>fC.2.2.2.2.1 _ _ e z.symm
 refine#[m,hn.sameBut sb hCa,λh' hs'=>?_];exact#[_,_,I6.turned (t':=s6.toks) (it:=cenv.locals) (λb o hb e=>(hs'.2 b hb).trans e) fC.1 fC.2.1 fC.2.2.2.1 fC.2.2.2.2.1 fC.2.2.2.2.2,q D hD]
end
end Iv
namespace Iv
open PySem L2
variable{U:Env}
theorem EC{i:Nat}(e:A8 U i=none):U.set i none=U:=by
 apply ext_getElem?;intro j;rw[List.getElem?_set];split
 .rename_i hj;subst hj;split
  .rename_i hl;unfold A8 at e;rw[List.getElem?_eq_getElem hl]at e ⊢;have e:U[i]=none:=e;rw[e]
  .rename_i hl;rw[List.getElem?_eq_none (by lia)]
 .rfl
variable{j:Nat}
theorem E3{i:Nat}(h:i≠j):A8 (U.set i x) j=A8 U j:=by
 unfold A8;rw[List.getElem?_set_ne h]
variable{W:Wd}{H:Hp}
variable{fr:List (Option Nat)}
theorem AG{o:Option Nat}:(o::fr).filterMap id=(match o with|some i=>[i]|none=>[])++fr.filterMap id:=by
 cases o<;>simp
theorem LL{i:Nat}(h:i∉fr.filterMap id):BL fr (U.set i none)=BL fr U:=by
 unfold BL;apply map_congr_left;intro o ho;cases o with
 |none=>rfl
 |some j=>
   show A8 (U.set i none) j=A8 U j;refine E3 λz=>h ?_
   subst z;exact mem_filterMap.mpr #[some i,ho,rfl]
theorem Fm:∀{fr:List (Option Nat)} {U:Env} {Y:L2.St} {os:List Addr},(fr.filterMap id).Nodup->A6 W H U Y os->∃ob or_,A6 W H (BL fr U) (BZ fr Y) ob/\A6 W H (D1 fr U) Y or_/\(ob++or_).Perm os
 |[],U,Y,os,_,hR=>#[[],os,#[rfl,rfl,hR.tb],hR,.refl _]
 | none::fr,U,Y,os,hn,hR=>by
   obtain⟨ob,or_,h1,h2,h3⟩:=Fm (fr:=fr) (by simpa[AG]using hn) hR;exact#[ob,or_,#[none,BZ fr Y,rfl,h1],by unfold D1 at h2 ⊢;simpa[AG]using h2,h3]
 | some i::fr,U,Y,os,hn,hR=>by
   rw[AG]at hn;have hn:=nA hn;have hi:i∉fr.filterMap id:=λz=>hn.2.2 i mS i z rfl
   cases hg:A8 U i with
   |none=>
     obtain⟨ob,or_,h1,h2,h3⟩:=Fm (fr:=fr) hn.2.1 hR;refine#[ob,or_,?_,?_,h3]
     .show A6 W H (A8 U i::BL fr U) _ _;rw[hg];exact#[_,BZ fr Y,rfl,h1]
     .unfold D1 at h2 ⊢;rw[AG,foldl_append];show A6 W H ((fr.filterMap id).foldl _ (U.set i none)) _ _;rw[EC hg];exact h2
   |some c=>
     obtain⟨v,o,osr,t1,t2,t3,t4⟩:=hR.take hg;obtain⟨ob,or_,h1,h2,h3⟩:=Fm (fr:=fr) hn.2.1 t3;rw[LL hi]at h1;refine#[o++ob,or_,?_,?_,?_]
     .show A6 W H (A8 U i::BL fr U) _ _;rw[hg];refine#[v,BZ fr Y,o,ob,?_,t2,h1,rfl];show(Y[i]?).join::BZ fr Y=_;rw[t1];rfl
     .unfold D1 at h2 ⊢;rw[AG,foldl_append];exact h2
     .rw[append_assoc];exact(h3.append_left o).trans t4
theorem CG:∀{fr:List (Option Nat)} {β U:Env} {τ Y:L2.St} {ob or_:List Addr},(fr.filterMap id).Nodup->A6 W H β τ ob->A6 W H U Y or_->(∀i∈fr.filterMap id,A8 U i=none)->(∀(j i:Nat),fr[j]? =some (some i)->τ[j]? =some ((Y[i]?).join))->(ob++or_).Nodup->
 ∃os',A6 W H (AQ U fr β) Y os'/\os'.Nodup/\∀a∈os',a∈ob++or_
 |[],β,U,τ,Y,ob,or_,_,_,hR,_,_,hn=>#[or_,by cases β<;>exact hR,(nA hn).2.1,λa ha=>mR ha]
 |none::fr,[],U,τ,Y,ob,or_,_,_,hR,_,_,hn=>#[or_,hR,(nA hn).2.1,λa ha=>mR ha]
 |some i::fr,[],U,τ,Y,ob,or_,_,_,hR,_,_,hn=>#[or_,hR,(nA hn).2.1,λa ha=>mR ha]
 | none::fr,x::β,U,τ,Y,ob,or_,hd,hB,hR,he,ht,hn=>by
   have hd':(fr.filterMap id).Nodup:=by simpa[AG]using hd
   have he':∀i∈fr.filterMap id,A8 U i=none:=λi hi=>he i (by rw[AG];exact mR hi)
   cases x with
   |none=>
     obtain⟨y,r,rfl,hB⟩:=hB;show ∃os',A6 W H (AQ U fr β) Y os'/\_;exact CG hd' hB hR he' (λj i e=>by simpa using ht (j+1) i (by simpa using e)) hn
   |some c=>
     obtain⟨v,r,o,o2,rfl,hc,hB,rfl⟩:=hB;show ∃os',A6 W H (AQ U fr β) Y os'/\_
     have hn':(o2++or_).Nodup:=by
      rw[append_assoc]at hn;exact(nA hn).2.1
     obtain⟨os',h1,h2,h3⟩:=CG hd' hB hR he' (λj i e=>by simpa using ht (j+1) i (by simpa using e)) hn';exact#[os',h1,h2,λa ha=>by rw[append_assoc];exact mR (h3 a ha)]
 | some i::fr,x::β,U,τ,Y,ob,or_,hd,hB,hR,he,ht,hn=>by
   rw[AG]at hd;have hd:=nA hd;have hi:i∉fr.filterMap id:=λz=>hd.2.2 i mS i z rfl
   have hei:A8 U i=none:=he i (by rw[AG];exact mL mS)
   have he':∀{y:Option C},∀k∈fr.filterMap id,A8 (U.set i y) k=none:=λ{y} k hk=>by
    have hne:i≠k:=λz=>hi (by rw[z];exact hk)
    rw[E3 hne];exact he k (by rw[AG];exact mR hk)
   have hti:=ht 0 i rfl;cases x with
   |none=>
     obtain⟨y,r,rfl,hB⟩:=hB;show ∃os',A6 W H (AQ (U.set i none) fr β) Y os'/\_;have hR':A6 W H (U.set i none) Y or_:=by rw[EC hei];exact hR
     exact CG hd.2.1 hB hR' he' (λj i e=>by simpa using ht (j+1) i (by simpa using e)) hn
   |some c=>
     obtain⟨v,r,o,o2,rfl,hc,hB,rfl⟩:=hB
     have hYq:Y[i]? =some (some v):=by
      have hti:some (some v)=some ((Y[i]?).join):=hti;cases q:Y[i]? with
      |none=>rw[q]at hti;cases hti
      |some z=>rw[q]at hti;exact congrArg some (Option.some.inj hti).symm
     have hil:i<U.length:=by
      rw[<-hR.length];exact(List.getElem?_eq_some_iff.mp hYq).1
     obtain⟨os2,u1,u2⟩:=A6.fill hc hR hei hil;rw[set_same hYq]at u1;show ∃os',A6 W H (AQ (U.set i (some c)) fr β) Y os'/\_
     have hp:(o2++os2).Perm ((o++o2)++or_):=by
      refine(u2.append_left o2).trans ?_;rw[<-append_assoc];exact perm_append_comm.append_right or_
     obtain⟨os',h1,h2,h3⟩:=CG hd.2.1 hB u1 he' (λj i e=>by simpa using ht (j+1) i (by simpa using e)) (hp.nodup_iff.mpr hn);exact#[os',h1,h2,λa ha=>hp.subset (h3 a ha)]
theorem OH:(D1 fr U).length=U.length:=Dc
theorem M5{i:Nat}(h:i∈fr.filterMap id):A8 (D1 fr U) i=none:=CQ h
theorem Qo{i:Nat}(h:i∉fr.filterMap id):A8 (D1 fr U) i=A8 U i:=FJ h
theorem JR{i:Nat}:∀{fr:List (Option Nat)} {U β:Env},i∉fr.filterMap id->A8 (AQ U fr β) i=A8 U i
 |[],U,β,_=>by cases β<;>rfl
 |none::fr,U,[],_=>rfl
 |some j::fr,U,[],_=>rfl
 |none::fr,U,x::β,h=>JR (fr:=fr) (by simpa[AG]using h)
 | some j::fr,U,x::β,h=>by
   rw[AG]at h;have h1:i∉fr.filterMap id:=λz=>h (mR z)
   have h2:j≠i:=λz=>h (mL (by rw[z];exact mS))
   show A8 (AQ (U.set j x) fr β) i=_;rw[JR h1,E3 h2]
theorem Ms{i:Nat}{x:Option C}:∀{fr:List (Option Nat)} {U β:Env} {j:Nat},(fr.filterMap id).Nodup->fr[j]? =some (some i)->β[j]? =some x->i<U.length->A8 (AQ U fr β) i=x
 |[],_,_,_,_,e,_,_=>by simp at e
 |o::fr,U,[],j,_,_,e,_=>by simp at e
 |none::fr,U,y::β,0,_,e,_,_=>by simp at e
 |none::fr,U,y::β,j+1,hn,e,e2,hl=>Ms (fr:=fr) (j:=j) (by simpa[AG]using hn) (by simpa using e) (by simpa using e2) hl
 | some k::fr,U,y::β,0,hn,e,e2,hl=>by
   rw[AG]at hn;have hn:=nA hn;simp at e e2;subst e e2;show A8 (AQ (U.set k y) fr β) k=y;rw[JR (λz=>hn.2.2 k mS k z rfl),Bu hl]
 | some k::fr,U,y::β,j+1,hn,e,e2,hl=>by
   rw[AG]at hn;have hn:=nA hn;exact Ms (fr:=fr) (j:=j) (U:=U.set k y) hn.2.1 (by simpa using e) (by simpa using e2) (by rw[length_set];exact hl)
theorem MX{i:Nat}(h:inner fr i=some j):fr[j]? =some (some i):=by
 unfold inner at h;obtain⟨hj,h1,_⟩:=List.findIdx?_eq_some_iff_getElem.mp h;rw[List.getElem?_eq_getElem hj];exact congrArg some (by simpa using h1)
theorem HS{i:Nat}(h:inner fr i=none):i∉fr.filterMap id:=λz=>by
 unfold inner at h;obtain⟨o,ho,e⟩:=mem_filterMap.mp z;have e:o=some i:=e;subst e;have:=List.findIdx?_eq_none_iff.mp h _ ho;simp at this
def NX:XP:=λ_ _ _ _=>False
variable{EX:XP}{Y:L2.St}
theorem Iy{g:Tg}(h:FQ g fr=true):(fr.filterMap id).Nodup/\∀j∈g.slots,fr[j]? =some none:=by
 unfold FQ at h;rw[bA]at h;exact#[of_decide_eq_true h.1,λj hj=>of_decide_eq_true (all_eq_true.mp h.2 j hj)]
theorem Sv{i:Nat}(e:fr[j]? =some (some i)):(BZ fr Y)[j]? =some ((Y[i]?).join):=by
 unfold BZ;rw[List.getElem?_map,e];rfl
theorem WI{k:IK}{F:Env->Res (List Hd)}{B:Env->Res Bool}{E:Env->Res C}{Q:VK}(h:tG W EX (rV W) (λU=>(F U).bind (Jj k g fr B E)) Y H Q):
 JA (Q9 W EX k F) (gT W g) (tG W NX rB B) (tG W NX (rV W) E) fr Y H Q:=by
 obtain⟨U,os,hR,hn,hA⟩:=h;dsimp only at hA;refine#[U,os,hR,hn,?_];unfold Ck;cases eF:F U with
 |A2=>rw[eF]at hA;exact hA
 |err x p U'=>rw[eF]at hA;exact hA
 |ok hs U1=>
   rw[eF,Res.A5]at hA;intro vs H1 o1 os1 h1 h2 h3 h4;have hA:=Ck.shift hA h4;unfold Jj at hA;cases ec:Ag U1 hs with
   |none=>rw[ec]at hA;exact hA.elim
   |some cs=>
   rw[ec]at hA;dsimp only at hA;cases ex:B5 k cs with
   |none=>rw[ex]at hA;exact hA.elim
   |some xs=>
   rw[ex]at hA;dsimp only at hA;refine#[cs,xs,E6 h2 h1 ec,ex,λJ hJ=>?_];split at hA
   case isFalse=>exact hA.elim
   rename_i hgd;rw[bA,bA]at hgd;obtain⟨⟨hgf,hbk⟩,hbig⟩:=hgd;have hbig:xs.length<=big:=of_decide_eq_true hbig;obtain⟨hnd,hsl⟩:=Iy hbk;cases eL:Cw g (BU fr hs cs) B E xs [] (BL fr U1)with
   |A2=>rw[eL]at hA;exact hA.elim
   |err x p β=>rw[eL]at hA;exact hA.elim
   |ok ys βf=>
   rw[eL]at hA;have hA:∀v H' o os',Ba W H' (.lst ys) v o->A6 W H' (AQ (D1 fr U1) fr βf) Y os'->(o++os').Nodup->AY H1 H' (o1++os1) (o++os')->Q v H':=hA;obtain⟨ob,or_,s1,s2,s3⟩:=Fm hnd h2;have n3:=nA h3;have nob:=nA (s3.nodup_iff.mpr n3.2.1);have hlen:(BZ fr Y).length=fr.length:=by unfold BZ;rw[lM]
   have whole:∀{H':Hp} {β:Env} {τ:L2.St} {ob':List Addr},A6 W H' β τ ob'->ob'.Nodup->AY H1 H' ob ob'->AR g.slots (BZ fr Y) τ->∃os',A6 W H' (AQ (D1 fr U1) fr β) Y os'/\os'.Nodup/\∀a∈os',a∈ob'++or_:=by
    intro H' β τ ob' r1 r2 r3 r4;have k1:AS H1 H':=r3.but.keep s1.own;have s2':A6 W H' (D1 fr U1) Y or_:=s2.frame r1.tb k1 r3.but λa ha z=>nob.2.2 a z a ha rfl
    refine CG hnd r1 s2' (λi hi=>M5 hi) (λj i e=>?_) ?_
    .rw[r4.2 j (λz=>by rw[hsl j z]at e;cases e)];exact Sv e
    .rw[nodup_append];refine#[r2,nob.2.1,λa ha b hb z=>?_];subst z;rcases r3.src a ha with y|y
     .exact nob.2.2 a y a hb rfl
     .obtain⟨x,e,_⟩:=s2.own a hb;rw[y]at e;cases e
   have rd : ∀ {H':Hp} {β:Env} {τ:L2.St} {ob':List Addr},A6 W H' β τ ob'->ob'.Nodup->AY H1 H' ob ob'->AR g.slots (BZ fr Y) τ->holds (BU fr hs cs) β=true->CY W H' cs vs:=by
    intro H' β τ ob' r1 r2 r3 r4 hh;obtain⟨os',w1,w2,w3⟩:=whole r1 r2 r3 r4;refine JG w1 (r3.but.keep s1.own) r3.but h1 ec h2 hgf (λq hq=>#[?_,rfl]) λa ha z=>n3.2.2 a ha a (s3.subset (mL z)) rfl
    have hq':A8 U1 q.1=some q.2:=by
     unfold Bh at hq;obtain⟨p,hp,e⟩:=mem_filterMap.mp hq;split at e
     .cases e
     .split at e
      .rename_i i hi;cases e
       have:∀{hs:List Hd} {cs:List C},Ag U1 hs=some cs->p∈hs.zip cs->p.1.cont U1=some p.2:=by
        intro hs
        induction hs with
        |nil=>intro cs _ hp;simp at hp
        |cons h hs ih=>
          intro cs e hp;unfold Ag at e;obtain⟨c,ec,e⟩:=oB e;obtain⟨ds,ed,rfl⟩:=oM e;rw[zip_cons_cons]at hp;rcases mK hp with z|z
          .rw[z];exact ec
          .exact ih ed z
       have z:=this ec hp;rw[hi]at z;exact z
      .cases e
    have hlt:q.1<(D1 fr U1).length:=by rw[OH];exact C9 hq'
    cases hin:inner fr q.1 with
    |none=>rw[JR (HS hin),Qo (HS hin)];exact hq'
    |some j=>
      have hm:(j,q.2)∈BU fr hs cs:=by
       unfold BU;exact mem_filterMap.mpr #[q,hq,by rw[hin];rfl]
      have hj:=J9 hh _ hm;have hj:A8 β j=some q.2:=hj
      have hjβ:β[j]? =some (some q.2):=by
       unfold A8 at hj;cases z:β[j]? with
       |none=>rw[z]at hj;cases hj
       |some y=>rw[z]at hj;exact congrArg some hj
      exact Ms hnd (MX hin) hjβ hlt
   refine⟨λi acc m τ H'=>m=xs.length-i/\i<=xs.length/\∃β ob' accP,A6 W H' β τ ob'/\ob'.Nodup/\AY H1 H' ob ob'/\AR g.slots (BZ fr Y) τ/\A7 W H' accP acc/\accP.length<=i/\Cw g (BU fr hs cs) B E (xs.drop i) accP β= .ok ys βf,
    #[xs.length,rfl,Nat.zero_le _,BL fr U1,ob,[],s1,nob.1,AY.refl _ _,AR.refl _ _,.nil,lR,eL],?_⟩
   rintro i acc m τ H' ⟨rfl,hi,β,ob',accP,r1,r2,r3,r4,r5,r6,r7⟩
   by_cases hlt:i<xs.length
   .rw[List.drop_eq_getElem_cons hlt]at r7;unfold Cw at r7;split at r7
    case isFalse=>cases r7
    rename_i hh;have hrd:=rd r1 r2 r3 r4 hh;refine .inr #[hJ.go i H' hrd hlt,?_,λx H2 hy=>?_]
    .rw[r5.length];exact Nat.lt_of_le_of_lt r6 (Nat.lt_of_lt_of_le hlt (Nat.le_trans hbig Cs))
    obtain⟨sm,p,ep,rp⟩:=hJ.Q8 i H' x H2 hrd hlt hy;rw[List.getElem?_eq_getElem hlt]at ep;cases ep;cases eT:Ew g xs[i] β with
    |none=>rw[eT]at r7;cases r7
    |some β1=>
    rw[eT,Res.NR,Res.A5]at r7;refine Ss eT rp (r1.same sm) r2 (λj hj=>?_) λτ2 ob2 g1 g2 g3 g4=>?_
    .have e:=hsl j hj;have:τ.length=fr.length:=r4.1.trans hlen;rw[this];exact(List.getElem?_eq_some_iff.mp e).1
    have fr2:AY H1 H2 ob ob2:=(r3.trans (AY.of sm λa ha=>.inl ha)).sub g3;have un2:AR g.slots (BZ fr Y) τ2:=r4.trans g4;refine#[β1,ob2,g1,g2,?_];unfold Ck;cases eB:B β1 with
    |A2=>rw[eB]at r7;cases r7
    |err x p U'=>rw[eB]at r7;cases r7
    |ok b β2=>
    rw[eB,Res.A5]at r7;intro b' H4 o4 os4 rb hR4 hn4 fr4;obtain⟨rfl,rfl⟩:=rb;have fr4':AY H1 H4 ob os4:=fr2.trans fr4;have kp4:AS H' H4:=(AS.of sm).trans (fr4.but.keep g1.own);cases b with
    |false=>
      rw[iN Bool.false_ne_true]at r7 ⊢;exact#[xs.length-(i+1),by lia,rfl,hlt,β2,os4,accP,hR4,hn4,fr4',un2,r5.mono kp4,by lia,r7]
    |true=>
      rw[iP rfl]at r7 ⊢;refine#[β2,os4,hR4,hn4,?_];unfold Ck;cases eE:E β2 with
      |A2=>rw[eE]at r7;cases r7
      |err x p U'=>rw[eE]at r7;cases r7
      |ok c β3=>
      rw[eE,Res.A5]at r7;intro y H5 o5 os5 rc hR5 hn5 fr5;cases c with
      |obj _ _=>cases r7
      |b bb=>
      cases bb with
      |lst _=>cases r7
      |ro _=>cases r7
      |p yp=>
      have r7:Cw g (BU fr hs cs) B E (xs.drop (i+1)) (accP++[yp]) β3= .ok ys βf:=r7;obtain⟨rp5,rfl⟩:=(show AH W H5 yp y/\o5=[]from rc);have kp5:AS H' H5:=kp4.trans (fr5.but.keep hR4.own);refine#[xs.length-(i+1),by lia,rfl,hlt,β3,os5,accP++[yp],hR5,hn5,fr4'.trans fr5,un2,A7.append (.cons rp5 .nil) (r5.mono kp5),?_,r7];rw[lA,lS]
      lia
   .have e:i=xs.length:=by lia
    subst e;rw[List.drop_length]at r7;unfold Cw at r7;split at r7
    case isFalse=>cases r7
    rename_i hh;cases r7;refine .inl #[hJ.stop H' (rd r1 r2 r3 r4 hh),λp hp=>?_];obtain⟨os',w1,w2,w3⟩:=whole r1 r2 r3 r4;have sm:BV H' (upd H' p (.lst acc)):=λb o e=>by rw[Ab (AL e hp)];exact e
    have hpos:p∉os':=λz=>by
     obtain⟨x,e,_⟩:=w1.own p z;rw[hp]at e;cases e
    have fr':AY H1 H' (o1++os1) os':=by
     have f1:=((r3.more or_).perm (perm_append_comm.trans s3) (.refl _)).sub (os2:=os') λa ha=>by
      rcases mZ (w3 a ha)with z|z
      .exact mR z
      .exact mL z
     exact f1.weak λa ha=>mR ha
    refine hA (.ref p) _ [p] os' #[p,acc,rfl,Ar,r5.mono (AS.of sm),rfl] (w1.same sm) ?_ ?_
    .rw[nodup_append];exact#[by simp,w2,λa ha b hb z=>hpos (by rw[<-mE ha,z];exact hb)]
    .refine fr'.trans (AY.of sm λa ha=>?_);rcases mZ ha with z|z
     .rw[mE z];exact .inr hp
     .exact .inl z
variable{X:Cx}
theorem Ah{t t':TE}(h:PE X e t)(k:∀Y H Q,t' Y H Q->t Y H Q):PE X e t':=λA1 s Y H Q I z=>h A1 s Y H Q I (k Y H Q z)
theorem EV{t t':TT}(h:PT X e t)(k:∀Y H Q,t' Y H Q->t Y H Q):PT X e t':=λA1 s Y H Q I z=>h A1 s Y H Q I (k Y H Q z)
theorem Mq{t t':TA}(h:PA X e t)(k:∀Y H Q,t' Y H Q->t Y H Q):PA X e t':=λpos A1 s Y H Q I z=>h pos A1 s Y H Q I (k Y H Q z)
variable{t':TS}
theorem DR{e:Stmt}{t:TS}(h:PS X e t)(k:∀D Y H,t' D Y H->t D Y H):PS X e t':=λA1 s Y H D I z=>h A1 s Y H D I (k D Y H z)
theorem NL{e:List Stmt}{t:TS}(h:Nf X e t)(k:∀D Y H,t' D Y H->t D Y H):Nf X e t':=λA1 s Y H D I z=>h A1 s Y H D I (k D Y H z)
def XR(W:Wd)(Y:L2.St)(H:Hp):T->V->Prop
 |.An p,v=>FU p=true/\AH W H p v
 |.A3 i,v=>Y[i]? =some (some v)
 |.Aw i f,v=>∃a C dx fs,Y[i]? =some (some (.ref a))/\H a=some (.ins C dx fs)/\Dv W.K C/\BN W.K C f/\fs.lookup f=some v
 |_,_=>False
def tX(W:Wd)(t:T):TE:=λY H Q=>∃v,XR W Y H t v/\Q v H
def UL(W:Wd):List T->TA
 |[]=>DJ
 |t::ts=>Bl (tX W t) (UL W ts)
section
variable{cf:CF}{mt:MT}{U:Env}{os:List Addr}
theorem Tq(h:FU p=true):∃v,AH W H p v:=by
 cases p with
 |Az=>exact#[_,BR.mpr rfl]
 |bl b=>exact#[_,BB.mpr rfl]
 |int b=>exact#[_,Ak.mpr rfl]
 |str b=>exact#[_,AE.mpr rfl]
 |tup b=>cases h
 |fn b=>cases h
 |box _ _=>cases h
theorem HV(hR:A6 W H U Y os){i:Nat}{c:C}(e:BD U i f=some c):∃a C dx fs v b o',Y[i]? =some (some (.ref a))/\H a=some (.ins C dx fs)/\Dv W.K C/\BN W.K C f/\fs.lookup f=some v/\c= .b b/\BJ W H b v o':=by
 unfold BD at e;cases hg:A8 U i with
 |none=>rw[hg]at e;cases e
 |some d=>
   rw[hg]at e;cases d with
   |b x=>cases e
   |obj k fs'=>
     obtain⟨b,hb,rfl⟩:=oM e;obtain⟨u,o',q1,q2,_⟩:=hR.get hg;obtain⟨a',dx',vs,os',rfl,q3,q4,_,q5⟩:=q2;obtain⟨v',o'',g1,g2,_⟩:=q4.look hb;exact#[a',W.Br k,dx',vs,v',b,o'',q1,q3,q5.1,q5.2.1 _ (PySem.mem_of_lookup hb),g1,rfl,g2]
theorem Sk{t:T}(ht:t.calm=true)(hR:A6 W H U Y os):(∃h v,BP t (ev cf mt t) U= .ok h U/\XR W Y H t v/\FW W Y H U h v [])\/BP t (ev cf mt t) U= .A2:=by
 have A4:∀i,(∃h v,(if(A8 U i).isSome then Res.ok (Hd.A4 i) U else .A2)= .ok h U/\Y[i]? =some (some v)/\FW W Y H U h v [])\/(if(A8 U i).isSome then Res.ok (Hd.A4 i) U else .A2)= .A2:=by
  intro i;cases hg:A8 U i with
  |none=>exact .inr rfl
  |some c=>
    obtain⟨v,o,q1,_⟩:=hR.get hg;exact .inl #[.A4 i,v,rfl,q1,q1,rfl]
 cases t with
 |An p=>
   obtain⟨v,hv⟩:=Tq (W:=W) (H:=H) (show FU p=true from ht);exact .inl #[.AN (.p p),v,by unfold BP ev den;rfl,#[ht,hv],hv,rfl]
 |A3 i=>exact A4 i
 |Aw i f=>
   show(∃h v,(if(BD U i f).isSome then Res.ok (Hd.Aw i f) U else .A2)= .ok h U/\_)\/(if(BD U i f).isSome then Res.ok (Hd.Aw i f) U else .A2)= .A2;cases hg:BD U i f with
   |none=>exact .inr rfl
   |some c=>
     obtain⟨a,C,dx,fs,v,b,o',q1,q2,q3,q4,q5,_⟩:=HV hR hg;exact .inl #[.Aw i f,v,rfl,#[a,C,dx,fs,q1,q2,q3,q4,q5],rfl,a,C,dx,fs,q1,q2,q5]
 |_=>cases ht
theorem C4(t:T)(ts:List T)(U:Env):Ae cf mt (t::ts) U=(BP t (ev cf mt t) U).bind λh U=>match h with
 |.Aw i f=>if ts.all T.calm then(Ae cf mt ts U).bind λhs U=>.ok (.Aw i f::hs) U else .A2
 |h=>(Ae cf mt ts U).bind λhs U=>.ok (h::hs) U:=by
 rfl
theorem CS(U:Env):Ae cf mt [] U= .ok [] U:=by unfold Ae;rfl
theorem Es:∀{ts:List T},ts.all T.calm=true->A6 W H U Y os->(∃hs,Ae cf mt ts U= .ok hs U/\∀Q:List V->Hp->Prop,(∀vs,Bt W Y H U hs vs []->Q vs H)->UL W ts Y H Q)\/Ae cf mt ts U= .A2
 |[],_,hR=>.inl #[[],CS U,λQ k=>k [] #[rfl,rfl]]
 | t ::ts,ht,hR=>by
   rw[all_cons,bA]at ht;rcases Sk (cf:=cf) (mt:=mt) ht.1 hR with⟨h,v,e,x,r⟩|e
   .rcases Es ht.2 hR with⟨hs,e2,q2⟩|e2
    .refine .inl #[h::hs,?_,λQ k=>#[v,x,q2 _ λvs r2=>k (v::vs) #[v,vs,[],[],rfl,r,r2,rfl]]];rw[C4,e,Res.A5];cases h with
     |Aw i f=>dsimp only;rw[iP ht.2,e2];rfl
     |A4 i=>dsimp only;rw[e2];rfl
     |AN c=>dsimp only;rw[e2];rfl
    .refine .inr ?_;rw[C4,e,Res.A5];cases h with
     |Aw i f=>dsimp only;rw[iP ht.2,e2];rfl
     |A4 i=>dsimp only;rw[e2];rfl
     |AN c=>dsimp only;rw[e2];rfl
   .refine .inr ?_;rw[C4,e];rfl
def GG(W:Wd)(EX:XP)(cf:CF)(mt:MT):List T->TA
 |[]=>DJ
 |t::ts=>if(t::ts).all T.calm=true then UL W (t::ts)else Bl (tG W EX (FW W) (BP t (ev cf mt t))) (GG W EX cf mt ts)
theorem Ti{r:Res C}{i:Nat}(e:(r.bind λc U=>Res.ok (Hd.AN c) U)=Res.ok (Hd.Aw i f) U'):False:=by
 cases r<;>cases e
theorem Wi{i:Nat}(e:BP t (ev cf mt t) U= .ok (.Aw i f) U'):t= .Aw i f:=by
 cases t with
 |Aw j g=>
   have e:(if(BD U j g).isSome then Res.ok (Hd.Aw j g) U else .A2)= .ok (.Aw i f) U':=e;split at e
   .cases e;rfl
   .cases e
 |A3 j=>
   have e:(if(A8 U j).isSome then Res.ok (Hd.A4 j) U else .A2)= .ok (.Aw i f) U':=e;split at e<;>cases e
 |_=>
   unfold BP at e;exact(Ti e).elim
theorem Mt:∀{ts:List T} {Y:L2.St} {H:Hp} {K:List V->Hp->Prop},tG W EX (Bt W) (Ae cf mt ts) Y H K->GG W EX cf mt ts Y H K
 | [],Y,H,K,h=>by
   obtain⟨U,os,hR,hn,hA⟩:=h;rw[CS]at hA;exact hA [] H [] os #[rfl,rfl] hR hn (AY.refl _ _)
 | t ::ts,Y,H,K,h=>by
   unfold GG;split
   .rename_i hc;obtain⟨U,os,hR,hn,hA⟩:=h;rcases Es (cf:=cf) (mt:=mt) hc hR with⟨hs,e,q⟩|e
    .rw[e]at hA;exact q K λvs r=>hA vs H [] os r hR hn (AY.refl _ _)
    .rw[e]at hA;exact hA.elim
   .rename_i hc
    by_cases hf:∃i f,t= .Aw i f
    .obtain⟨i,f,rfl⟩:=hf;have hts:¬ts.all T.calm=true:=λz=>hc (by rw[all_cons,z];rfl)
     obtain⟨U,os,hR,hn,hA⟩:=h;rw[C4]at hA;have e:BP (.Aw i f) (ev cf mt (.Aw i f)) U=(if(BD U i f).isSome then Res.ok (Hd.Aw i f) U else .A2):=rfl;rw[e]at hA;cases hg:(BD U i f).isSome with
     |false=>rw[hg]at hA;exact False.elim hA
     |true=>
       rw[hg]at hA;have hA:Ck W EX (Bt W Y) H os Y (if ts.all T.calm then(Ae cf mt ts U).bind λhs U=>.ok (.Aw i f::hs) U else .A2) K:=hA;rw[iN hts]at hA;exact False.elim hA
    .have nf:∀U h U',BP t (ev cf mt t) U= .ok h U'->∀i f,h≠.Aw i f:=λU h U' e i f z=>hf #[i,f,by rw[z]at e;exact Wi e]
     have h2:tG W EX (Bt W) (λU=>(BP t (ev cf mt t) U).bind λh U=>(Ae cf mt ts U).bind λhs U=>.ok (h::hs) U) Y H K:=by
      obtain⟨U,os,hR,hn,hA⟩:=h;refine#[U,os,hR,hn,?_];rw[C4]at hA;show Ck W EX (Bt W Y) H os Y ((BP t (ev cf mt t) U).bind λh U=>(Ae cf mt ts U).bind λhs U=>.ok (h::hs) U) K;cases e:BP t (ev cf mt t) U with
      |A2=>rw[e]at hA;exact hA
      |err x p U'=>rw[e]at hA;exact hA
      |ok h U'=>
        rw[e,Res.A5]at hA;cases h with
        |Aw i f=>exact absurd rfl (nf U _ U' e i f)
        |A4 i=>exact hA
        |AN c=>exact hA
     have:=Si nf h2;exact Jz this λv H1 z=>Mt z
end
end Iv
namespace Xc
open PySem PySem.Spec
noncomputable abbrev F6(C t:Addr)(d:Option Addr):Obj:={cls:=.ref C,dict:=d,data:=.fields [.ref t,.none,.none,.none,.bool false,.none].toArray}
abbrev Jw(rest:List Value):Obj:={cls:=.type "tuple",data:=.seq rest.toArray}
section
variable{prog:Program}{w:World}{A:Around}{h:Heap}{g:Array GenState}{d:Drawn}{t:Nat}{os:OsState}
variable{nm q:Str}{C N:Addr}{bs bm:List Value}{hdct:Bool}{sn:List Str}{sub:List Value}{ab:Bool}{col:Option Bool}{dd:Option Addr}{k0 k1 k2 k3 k5:Option Value}
structure Dv(h:Heap)(C:Addr)(bm:List Value):Prop where
 at_:∃nm q N bs hdct sn sub ab col dd k0 k1 k2 k3 k5,h.get? C=some (excClassObj nm q C N bs bm hdct sn sub ab col dd k0 k1 k2 k3 k5 "ValueError.__new__")
 val:bm.contains (.type "ValueError")=true
 base:bm.contains (.type "BaseException")=true
 jl:bm.contains (.type "AttributeError")=false
 oO:bm.contains (.type "NameError")=false
theorem Dv.keeps{h h':Heap}{C:Addr}{bm:List Value}(c:Dv h C bm)(k:∀b o,h.get? b=some o->h'.get? b=some o):Dv h' C bm:=by
 obtain⟨⟨nm,q,N,bs,hdct,sn,sub,ab,col,dd,k0,k1,k2,k3,k5,e⟩,h1,h2,h3,h4⟩:=c;exact#[#[nm,q,N,bs,hdct,sn,sub,ab,col,dd,k0,k1,k2,k3,k5,k _ _ e],h1,h2,h3,h4]
theorem Pj{M:Model}{E:Va}{rest:List Value}{Q:Unit->Shared->Prop}(c:Dv h C bm)(hq:Q () #[h,g,d,t,os]):wpAny M A (checkBuiltinCall "ValueError.__new__" #[.ref C::rest,[]]) Q E #[h,g,d,t,os]:=by
 obtain⟨⟨nm,q,N,bs,hdct,sn,sub,ab,col,dd,k0,k1,k2,k3,k5,hC⟩,h1,-,-,-⟩:=c;have F:=PySem.F.excBase_ValueError;have hv:(Value.ref C::bm).contains (.type "ValueError")=true:=by rw[contains_cons,h1,Bool.or_true]
 have hs:=F.noStar;simp only[checkBuiltinCall,F.newKind,F.newSplit,F.newRow]
 repeat (first
  |simp only[bne_self_eq_false,Bool.false_eq_true,if_false]
  |refine wpAny_madeBy_exc hC ?_
  |refine wpAny_staticBase_exc hC ?_
  |refine wpAny_loadPart_at hC ?_
  |(refine wpAny_isSubtype_exc hC ?_;rw[hv])
  |wp_step)
 exact hq
theorem VL{R:Result->Shared->Prop}{rest:List Value}(c:Dv h C bm)(hr:rest.length<=sizeLine)(hq:R (.ok (.ret (.ref (h.objs.size+1)))) #[(h.push (Jw rest)).push (F6 C h.objs.size none),g,d,t,os]):
 codeAny (model prog w) A (.builtin "ValueError.__new__" #[.ref C::rest,[]]) R #[h,g,d,t,os]:=by
 obtain⟨⟨nm,q,N,bs,hdct,sn,sub,ab,col,dd,k0,k1,k2,k3,k5,hC⟩,h1,-,h3,h4⟩:=c;have F:=PySem.F.excBase_ValueError;have he:=F.ends;have hv:(Value.ref C::bm).contains (.type "ValueError")=true:=by rw[contains_cons,h1,Bool.or_true]
 have ha:(Value.ref C::bm).contains (.type "AttributeError")=false:=by rw[contains_cons,h3];rfl
 have hn:(Value.ref C::bm).contains (.type "NameError")=false:=by rw[contains_cons,h4];rfl
 refine codeAny_builtinAt F.entry ?_;unfold Builtin.«BaseException.__new__»;refine wpAt_bind ?_;show wpAt _ _ _ (stack >>= _) _ _ _;refine wpAt_bind (wpAt_stack λp below=>wpAt_of_wpAny ?_)
 wp_walk
 refine wpAt_of_wpAny ?_;rw[F.owner]
 repeat (first
  |with_reducible refine wpAny_loadPart_at hC ?_
  |with_reducible refine wpAny_madeHere_exc F.canon hC ?_
  |(with_reducible refine wpAny_isSubtype_exc hC ?_;first|rw[hv]|rw[ha]|rw[hn])
  |wp_step)
 show R _ _;rw[Heap.size_push];exact hq
end
section
variable{prog:Program}{w:World}{A:Around}{h:Heap}{g:Array GenState}{d:Drawn}{t:Nat}{os:OsState}{C f:Addr}{bm:List Value}{K:PySem.W.Frag}
theorem SH{R:Result->Shared->Prop}{rest:List Value}(X:K.In h)(c:Dv h C bm)(hi:findIn K (.ref C) "__init__"=some (some (.ref f)))(hf:typeIn K (.ref f)=some (.type "function"))(hr:rest.length<=sizeLine)
 (hq:codeAny (model prog w) (A.under (.builtin "type.__call__" #[.ref C::rest,[]])) (.call (.ref f) #[.ref (h.objs.size+1)::rest,[]]) (InitBack (h.objs.size+1) R) #[(h.push (Jw rest)).push (F6 C h.objs.size none),g,d,t,os]):
 codeAny (model prog w) A (.call (.ref C) #[rest,[]]) R #[h,g,d,t,os]:=by
 obtain⟨nm,q,N,bs,hdct,sn,sub,ab,col,dd,k0,k1,k2,k3,k5,hC⟩:=c.at_;have F:=PySem.F.excBase_ValueError;have f1:=tc_lookup;have f2:=tc_bind (.ref C);have hT:(#[h,g,d,t,os]:Shared).TypeIs (.ref C) "type":=#[_,hC,rfl];refine codeAny_of_tree ?_;show wpAny _ _ (callAny (.ref C) _) _ _ _
 repeat (any_goals (first|assumption|with_reducible refine wpAny_loadPart_at hC ?_|wp_step))
 refine#[rfl,?_];refine codeAny_call_builtin_at (Code.quiet_builtin _ (by decide +kernel)) entry_typeCall (wpAny_check_type_call_sub hC ?_)
 repeat (first|with_reducible refine wpAny_loadPart_at hC ?_|with_reducible refine wpAny_madeBy_exc hC ?_|wp_step)
 refine codeAny_call_builtin_code (Code.quiet_builtin _ F.quiet) (Pj c ?_);refine VL c hr ?_;show wpAny _ _ _ _ _ _;have k:∀b o,h.get? b=some o->((h.push (Jw rest)).push (F6 C h.objs.size none)).get? b=some o:=λb o e=>gP (gP e)
 have hg:((h.push (Jw rest)).push (F6 C h.objs.size none)).get? (h.objs.size+1)=some (F6 C h.objs.size none):=by heap_get
 have hC1:=k _ _ hC;have hcC:(Value.ref C::bm).contains (.ref C)=true:=by simp
 have i1:=(looks_findIn (M:=model prog w) X hi).keeps k;have b1:=(bind_fn (M:=model prog w) X (.ref (h.objs.size+1)) hf).keeps k;unfold isInstance
 repeat (first|with_reducible refine wpAny_loadPart_at hg ?_|(with_reducible refine wpAny_isSubtype_exc hC1 ?_;rw[hcC])|wp_step)
 show wpAny _ _ (isSubtype (.ref C) (.ref C)) _ _ #[(h.push (Jw rest)).push (F6 C h.objs.size none),g,d,t,os];refine wpAny_isSubtype_exc hC1 ?_;rw[hcC];simp only[Bool.not_true,Bool.false_eq_true,if_false];have t1:Looks (model prog w) ((h.push (Jw rest)).push (F6 C h.objs.size none)) (typeOf (.ref (h.objs.size+1))) (.ref C):=(Looks.ld hg).andThen .now;unfold callSpecial? specialOf
 repeat (first|with_reducible refine wpAny_call ?_|lk)
 refine codeAny_mono hq λr s' z=>?_
 rcases r with e|(v|_|_|_)<;>first|exact z|exact z.elim|skip
 obtain⟨rfl,z⟩:=z;exact wP (wP z)
end
end Xc
namespace Xc
open PySem PySem.Spec PySem.Builtin PySem.Builtin.ObjectAttr
noncomputable def RD:List Value->Bool
 |.ref _::r=>RD r
 |r=>r==[.type "ValueError",.type "Exception",.type "BaseException",.type "object"]
theorem L8(self:Value):∀{l:List Value},RD l=true->refuseLoop self "__setattr__" l=pure ():=by
 intro l
 induction l with
 |nil=>intro e;cases e
 |cons v l ih=>
   intro e;cases v with
   |ref c=>rw[refuseLoop_ref];exact ih e
   |_=>
     have:=beq_iff_eq.mp (show(_==_)=true from e);rw[this];exact PySem.F.store_ValueError.passes self
theorem RC:∀{l:List Value},RD l=true->l.contains (.type "object")=true:=by
 intro l
 induction l with
 |nil=>intro e;cases e
 |cons v l ih=>
   intro e;cases v with
   |ref c=>rw[contains_cons,ih e,Bool.or_true]
   |_=>
     have:=beq_iff_eq.mp (show(_==_)=true from e);rw[this];decide +kernel
def IU(K:PySem.W.Frag)(C:Addr):Bool:=(clsIn K C).any λcd=>RD cd.mro
section
variable{prog:Program}{w:World}{A:Around}{E:Va}{s:Shared}{x C:Addr}{K:PySem.W.Frag}{name:Str}{v:Value}
theorem V4{Q:Unit->Shared->Prop}{vs:Array Value}(X:K.In s.heap)(hx:s.heap.get? x=some #[.ref C,none,.fields vs,[].toArray])
 (hs:findIn K (.ref C) "__setattr__"=some (some (.builtin "object.__setattr__")))(hp:IU K C=true)(ht:takerIn K C name=some none)(hh:hasDictIn K C=true)
 (h:∀h' tk,h'.get? x=some #[.ref C,some s.heap.objs.size,.fields vs,[].toArray]->h'.Ns1 s.heap.objs.size (λz=>if z=name then some v else none)->(∀b o,b≠x->s.heap.get? b=some o->h'.get? b=some o)->Q () {s with heap:=h',toks:=tk}):
 wpAny (model prog w) A (setAttr (.ref x) name v) Q E s:=by
 have I:InstAt s.heap x #[.ref C,none,.fields vs,[].toArray] C none:=#[hx,rfl,rfl,trivial];refine set_plain X I hs ?_;have SF:=PySem.F.store_object;obtain⟨cd,hc,ho⟩:=any_some hp;obtain⟨cd',hc',hd⟩:=any_some hh;obtain rfl:cd=cd':=Option.some.inj (hc.symm.trans hc');have ne:cd.mro.isEmpty=false:=by cases q:cd.mro with|nil=>rw[q]at ho;cases ho|cons _ _=>rfl
 have sub:Looks (model prog w) s.heap (isInstance (.ref x) (.type "object")) true:=I.type.andThen (looks_mroIn X (by unfold mroIn;rw[hc,Option.bind_some,iN (by rw[ne];decide),RC ho]));refine codeAny_call_builtin SF.slot.plain SF.entry (@check_slot (model prog w) _ _ _ "object.__setattr__" "object" "__setattr__" (.ref x) [.str name s.toks,v] [] _ SF.kind SF.split sub (SF.args (.ref x) (.str name s.toks) v) ?_);obtain⟨attr,ha,hr⟩:=oB ht;have hm:Looks (model prog w) s.heap (mroOf (.ref C)) cd.mro:=(looks_clsIn X hc).andThen .now
 have L3:Looks (model prog w) s.heap (storeTaker? attr) none:=by
  cases attr with
  |none=>exact .now
  |some a=>
    obtain⟨b,hb,e⟩:=oM hr;refine(PySem.W.looks_takesIn X hb).andThen ?_;cases b
    .exact .now
    .cases e
 rw[osa_eq,refuse_eq];have kk:∀b o,s.heap.get? b=some o->s.heap.get? b=some o:=λ_ _ e=>e
 refine wB (wB (I.type _ _ _ _ kk (wB (hm _ _ _ _ kk ?_))));rw[L8 _ ho];refine wP (wB (I.type _ _ _ _ kk (wB (looks_findIn X ha _ _ _ _ kk (wB (L3 _ _ _ _ kk ?_))))));show wpAny _ _ (storeInOwnDict (.ref x) (.ref C) (.str name s.toks) name v _) _ _ _;refine wB (wP (wB (wB (wpAny_loadPart hx (wB (looks_clsIn X hc _ _ _ _ kk ?_))))));rw[hd];show wpAny _ _ (alloc _ >>= λd=>_) _ _ _;have hx1:(s.heap.push {cls:=.type "dict",data:=.dict [].toArray}).get? x=some #[.ref C,none,.fields vs,[].toArray]:=gP hx;have hxs:x≠s.heap.objs.size:=Nat.ne_of_lt (Heap.lt_size hx);refine wB (wpAny_alloc' (wB (wpAny_update' hx1 ?_)));refine wP ?_;show wpAny _ _ (storeInDict s.heap.objs.size (.str name s.toks) name v) _ _ _
 have hgd:((s.heap.push {cls:=.type "dict",data:=.dict [].toArray}).update x λo=>{cls:=o.cls,dict:=some s.heap.objs.size,data:=o.data,slots:=o.slots}).get? s.heap.objs.size=some {cls:=.type "dict",data:=.dict [].toArray}:=
  (Heap.get?_update_ne _ _ _ _ hxs.symm).trans (Heap.get?_push_at rfl rfl)
 have hnd:((s.heap.push {cls:=.type "dict",data:=.dict [].toArray}).update x λo=>{cls:=o.cls,dict:=some s.heap.objs.size,data:=o.data,slots:=o.slots}).Ns s.heap.objs.size (λ_=>none):=
  #[_,[].toArray,_,hgd,rfl,λe he=>absurd he (by simp),λ_=>rfl]
 unfold storeInDict newKeyGuard;refine wB (wP (wB (wpAny_nsSet1 (s:=#[_,s.gens,s.drawn,s.toks+1,s.os]) (Heap.Ns1.of_empty hnd) λh' hn' hs'=>?_)));obtain⟨oD,esD,epD,hoD,hdD,hcD⟩:=hn'.count (Within.cons name v Within.nil);refine wB (wpAny_lookBehind hoD (by rw[hdD];exact pastItsLine_dict (Nat.le_trans hcD (by rw[lC,length_nil,sizeLine_eq];omega))) ?_)
 wp_walk
 refine h h' _ ((hs'.2 x hxs).trans (Heap.get?_update_self _ hx1 rfl)) hn' λb o hb e=>?_
 exact(hs'.2 b (Nat.ne_of_lt (Heap.lt_size e))).trans ((Heap.get?_update_ne _ _ _ _ hb).trans (gP e))
end
end Xc
namespace Xc
open PySem PySem.Spec L2
section
variable{P:Program}{w:World}{A:Around}{s:Shared}{e C f:Addr}{K:PySem.W.Frag}{x qual:Str}{st:Stmt}{fd:FuncData}{p1 p2 p3 p4:Pos}{sf pl:Str}
theorem Sf{R:Result->Shared->Prop}{vs:Array Value}(F:OC K x qual st f fd)(S:D6 [sf,pl] [sf,pl] (Am st))(hb:Binds K fd [sf,pl] [])
 (h1:(Am st).names.lookup sf=some .local)(h2:(Am st).names.lookup pl=some .local)
 (hbody:Ca st=[.Assign [.Attribute (.Name sf p1) pl p2] (.Name pl p3) p4])(hne:sf≠pl)(d1:ng sf)(d2:ng pl)(hr:Bk 2 A)(X:K.In s.heap)(lim:s.heap.NoLimit)
 (he:s.heap.get? e=some #[.ref C,none,.fields vs,[].toArray])(hs:findIn K (.ref C) "__setattr__"=some (some (.builtin "object.__setattr__")))(hp:IU K C=true)(ht:takerIn K C pl=some none)(hh:hasDictIn K C=true)
 (h:∀h' tk d,h'.get? e=some #[.ref C,some d,.fields vs,[].toArray]->h'.Ns1 d (λz=>if z=pl then some .none else none)->s.heap.objs.size<=d->(∀b o,b≠e->s.heap.get? b=some o->h'.get? b=some o)->R (.ok (.ret .none)) {s with heap:=h',toks:=tk}):
 codeAny (model P w) A (.call (.ref f) #[[.ref e,.none],[]]) R s:=by
 obtain⟨oc,od,kV,doc,pm,an,cdv,ct,osl,rfl,lk,hcd⟩:=F.ex
 have hkind:∀y∈[sf,pl].zip [Value.ref e,Value.none],(Am st).names.lookup y.1=some .local\/((Am st).names.lookup y.1=some .cell/\((cellsFrom (s.heap.objs.size+1) (Am st).names []).lookup y.1).isSome=true):=λ⟨n,v⟩ hy=>by
  rcases S.par n (of_mem_zip hy).1 with q|q
  .exact .inl q
  .exact .inr #[q,cellsFrom_some _ _ _ (.inl q)]
 refine codeAny_call_function hr.depth (X _ _ lk) rfl S.co S.gen rfl (codeRec_of X hcd) (hb s [.ref e,.none] X rfl _ _ _ _ ?_);refine wpAny_newFunctionEnv_cells S.kind hkind λenv hen s1 x=>?_
 subst hen;refine#[lim.keeps x.toInCall.keep,codeAny_func ?_];show wpAny (model P w) (A.deeper (PyProof.Rows.envOfC qual (Am st) s.heap.objs.size f cdv)) (execs (Ca st) (PyProof.Rows.envOfC qual (Am st) s.heap.objs.size f cdv)) _ _ s1;have hk:=x.toInCall.keep;have hns:=x.toInCall.ns;obtain⟨h1',tk,rfl,hkp⟩:=x.done;have m1:=Eu (kindOf:=(PyProof.Rows.envOfC qual (Am st) s.heap.objs.size f cdv).kindOf) (m:=λ_=>none) (vs:=[Value.ref e,Value.none]) S.nd (i:=0) (x:=sf) rfl rfl h1;have m2:=Eu (kindOf:=(PyProof.Rows.envOfC qual (Am st) s.heap.objs.size f cdv).kindOf) (m:=λ_=>none) (vs:=[Value.ref e,Value.none]) S.nd (i:=1) (x:=pl) rfl rfl h2;rw[hbody];refine wpAny_execs_cons (plainObj_wpAny_Assign_Attribute ?_);refine wpAny_Name (wpAny_loadName_local S.kind h2 hns m2 ?_) d2;refine wpAny_Name (wpAny_loadName_local S.kind h1 hns m1 ?_) d1;refine V4 (λb o q=>hk b o (X b o q)) (hk _ _ he) hs hp ht hh λh' tk' q1 q3 q2=>?_
 exact wpAny_execs_nil (h h' tk' _ q1 q3 (Nat.le_of_lt (show s.heap.objs.size<_ from hns.lt)) λb o hb q=>q2 b o hb (hk b o q))
end
variable{s:Shared}
theorem Mm{M:Model}{A:Around}{E:Va}{env:Env}{x:Sem Value}{Q:Flow->Shared->Prop}{C:Addr}{bm:List Value}(hh:A.handled=none)
 (h:wpAny M A x (λv s1=>∃e d t,v= .ref e/\Dv s1.heap C bm/\s1.heap.get? e=some (F6 C t d)/\E (.ref e) s1) E s):wpAny M A (raiseStmt env (some x) none) Q E s:=by
 unfold raiseStmt;refine wB (B2 h λv s1 ⟨e,d,t,hv,c,he,hE⟩=>?_);subst hv;obtain⟨nm,q,N,bs,hdct,sn,sub,ab,col,dd,k0,k1,k2,k3,k5,hC⟩:=c.at_;have hcB:(Value.ref C::bm).contains (.type "BaseException")=true:=by rw[contains_cons,c.base,Bool.or_true]
 obtain⟨hp,g,dr,tk,os⟩:=s1
 repeat (first|with_reducible refine wpAny_loadPart_at he ?_|with_reducible refine wpAny_loadPart_at hC ?_|(with_reducible refine wpAny_isSubtype_exc hC ?_;rw[hcB])|wp_step)
 exact wpAny_raiseNew_none hh hE
structure Xk(K:PySem.W.Frag)(C f:Addr)(sf:Str)(st:Stmt)(fd:FuncData):Prop where
 cls:∃bm,∀h:Heap,K.In h->Dv h C bm
 kp:keepIn K (.ref C)=true
 o8:findIn K (.ref C) "__init__"=some (some (.ref f))
 fn:isFn K (.ref f)=true
 sa:findIn K (.ref C) "__setattr__"=some (some (.builtin "object.__setattr__"))
 ov:IU K C=true
 tk:takerIn K C "place"=some none
 hd:hasDictIn K C=true
 fu:∃x qual,OC K x qual st f fd
 sc:D6 [sf,"place"] [sf,"place"] (Am st)
 bi:Binds K fd [sf,"place"] []
 l1:(Am st).names.lookup sf=some .local
 l2:(Am st).names.lookup ("place":Str)=some .local
 bd:∃p1 p2 p3 p4,Ca st=[.Assign [.Attribute (.Name sf p1) "place" p2] (.Name "place" p3) p4]
 ne:sf≠"place"
 d1:ng sf
 d2:(("place":Str)==("__debug__":Str))=false
theorem OZ{X:Cx}{C:Addr}{sf:Str}{st:Stmt}{fd:FuncData}{cp pos np:Pos}{j:Nat}{A1:Oa}{Y:St}{H:Hp}{Q:Flow->Shared->Prop}
 (k:Xk X.K C f sf st fd)(hr:Bk 4 X.A)(hg:Gl X x)(hm:X.mg x=some (.ref C))(hdb:ng x)(I:Inv X A1 Y H s)
 (h:∀s1 s' e t d,Inv X A1 Y H s1->s'.os=s1.os->s'.gens=s1.gens->(∀b o,s1.heap.get? b=some o->s'.heap.get? b=some o)->s1.heap.get? e=none->s'.heap.get? e=some (F6 C t (some d))->s'.heap.Ns1 d (λz=>if z="place" then some .none else none)->s1.heap.get? d=none->d≠e->X.xe (.ref e) s'):
 (X|||(exec (.Raise (some (.Call (.Name x p) [.Constant .none j np] [] cp)) none pos) X.env)) Q X.xe s:=by
 rw[arm_exec_Raise];obtain⟨bm,hc⟩:=k.cls;refine wB (wpAny_standAt (Mm (C:=C) (bm:=bm) hr.hd ?_));refine wB (B2 (Q:=λv s1=>∃e d t,v= .ref e/\Dv s1.heap C bm/\s1.heap.get? e=some (F6 C t d)/\X.xe (.ref e) s1) ?_ λv s1 h1=>wB (wpAny_standAt (wP h1)));refine wpAny_Call_Name_kw (DC I hg hm ?_ hdb);refine callWith_K (h₀:=X.base) I.ok.mod.PB k.kp (B2 ((AV (X:=X) (Mo (j:=j) (pos:=np)) Cp rfl) cp A1 s Y H (λvs H1=>vs=[V.Az]/\H1=H) I #[rfl,rfl]) λus s1 ⟨vs,H1,I1,r,e1,e2⟩=>#[I1.Cn,?_]);subst e1;subst e2;obtain⟨u,rfl,ru⟩:=vals1 r;obtain rfl:u=Value.none:=ru;obtain⟨x',qual,F⟩:=k.fu;obtain⟨p1,p2,p3,p4,hb⟩:=k.bd;have hf:=beq_iff_eq.mp k.fn;have I0:=I1;obtain⟨hp,g,dr,tk,os⟩:=s1;refine wpAny_call (SH I1.Cn (hc _ I1.Cn) k.o8 hf (by decide) ?_);have kk:∀b o,hp.get? b=some o->((hp.push (Jw [.none])).push (F6 C hp.objs.size none)).get? b=some o:=λb o e=>gP (gP e)
 refine Sf (s:=#[(hp.push (Jw [.none])).push (F6 C hp.objs.size none),g,dr,tk,os]) F k.sc k.bi k.l1 k.l2 hb k.ne k.d1 k.d2 ((hr.mono (by decide:3<=4)).make C [.none] []) (λb o q=>kk b o (I1.Cn b o q)) (I1.nolimit.keeps kk) (by heap_get) k.sa k.ov k.tk k.hd λh' tk' d q1 q3 q4 q2=>?_
 have q5:hp.objs.size+1+1<=d:=by
  have z:((hp.push (Jw [.none])).push (F6 C hp.objs.size none)).objs.size<=d:=q4;rwa[Heap.size_push,Heap.size_push]at z
 have kp:∀b o,hp.get? b=some o->h'.get? b=some o:=λb o q=>q2 b o (Nat.ne_of_lt (Nat.lt_succ_of_lt (Heap.lt_size q))) (kk b o q)
 exact#[rfl,_,some d,hp.objs.size,rfl,(hc hp I1.Cn).keeps kp,q1,h #[hp,g,dr,tk,os] _ _ _ _ I0 rfl rfl kp (Heap.get?_none_of_le (Nat.le_succ _)) q1 q3 (Heap.get?_none_of_le (by lia)) (by lia)]
end Xc
namespace Xc
open PySem PySem.Spec
def nQ(h base:Heap)(e:Addr)(cls:Value)(d:Option Addr)(fl:Value):Prop:=
 ∃oe vs T oT ts,h.get? e=some oe/\(oe.cls=cls/\oe.dict=d)/\oe.data= .fields vs/\vs[1]? =some (.ref T)/\base.get? T=none/\T≠e/\h.get? T=some oT/\oT.data= .fields ts/\ts[3]? =some fl
def XF(base:Heap)(l:List Env)(e:Addr)(cls:Value)(d:Option Addr)(fl:Value)(h':Heap):Prop:=base.StaysIn h'/\h'.FunFrames base l/\nQ h' base e cls d fl
noncomputable abbrev kl(head L fl:Value)(pl:List Value):Obj:={cls:=.type "traceback",data:=.fields ([head,L,Value.none,fl,Value.none]++if pl.isEmpty=true then List.replicate 6 Value.none else pl).toArray}
section
variable{M:Model}{A:Around}{E:Va}{s:Shared}{base:Heap}{env:Env}{outer:List Env}{L e:Addr}{cls head fl:Value}{d:Option Addr}{Q:Unit->Shared->Prop}
variable{oe:Obj}{vs:Array Value}
theorem L9{b:Bool}(fr:A.frames=some (env::outer))(ff:s.heap.FunFrames base (env::outer))(hf:env.frame=some L)(he:s.heap.get? e=some oe)(st:base.StaysIn s.heap)(hb:base.get? e=none)(hd:oe.data= .fields vs)(hz:1<vs.size)(hc:oe.cls=cls/\oe.dict=d)
 (k:∀h',XF base (env::outer) e cls d (rawInt ↑L) h'->s.heap.UpToSlots h'->Q () {s with heap:=h'}):
 wpAny M A (do let a <-frameOf env;let pl <-entryPlaceOf L b;let b <-EntryCells.newEntry head a Value.none (rawInt ↑L) Value.none pl;setField (.ref e) 1 b) Q E s:=by
 refine wB (wpAny_frameOf_fun fr ff hf λh1 so=>wB (wpAny_entryPlaceOf λpl ip=>?_));obtain⟨hp,g,dr,tk,os⟩:=s;obtain⟨o1,o2,o3⟩:=so;obtain⟨sl,he1⟩:=o3 e oe he
 have hlen:(([head,.ref L,Value.none,rawInt ↑L,Value.none]++if pl.isEmpty=true then List.replicate 6 Value.none else pl).toArray).size<=11:=by
  rcases ip with rfl|⟨_,_,_,_,_,_,_,rfl⟩<;>simp
 unfold EntryCells.newEntry newFields newObj;dsimp only;have h11:(11:Nat)<=sizeLine+2:=by decide
 rw[iN (by lia)];unfold newObjAsIs;refine wB (wB (wpAny_alloc' (wP ?_)));have he2:(h1.push (kl head (.ref L) (rawInt ↑L) pl)).get? e=some {cls:=oe.cls,dict:=oe.dict,data:=oe.data,slots:=sl}:=gP he1;refine wpAny_setField he2 hd hz ?_;have Di:∀c o,c≠e->h1.get? c=some o->((h1.push (kl head (.ref L) (rawInt ↑L) pl)).update e (Obj.mapFields λx=>x.setIfInBounds 1 (.ref h1.objs.size))).get? c=some o:=λc o hne q=>(Heap.get?_update_ne _ _ _ _ hne).trans (gP q)
 have up:hp.UpToSlots ((h1.push (kl head (.ref L) (rawInt ↑L) pl)).update e (Obj.mapFields λx=>x.setIfInBounds 1 (.ref h1.objs.size))):=λc o q hn=>by
  obtain⟨sl',q'⟩:=o3 c o q;exact#[sl',Di c _ (λz=>by subst z;rw[he]at q;cases q;exact hn _ hd) q']
 have en:h1.objs.size≠e:=(Nat.ne_of_lt (Heap.lt_size he1)).symm;refine k _ #[λc o q=>Di c o (λz=>by subst z;rw[hb]at q;cases q) (by rw[o2 c (λhm=>by rw[(ff.mem hm).1]at q;cases q)];exact st c o q),ff.of_keeps λc o q hn=>?_,?_] up
 .obtain⟨sl',q'⟩:=up c o q hn;exact#[_,q',rfl]
 .refine#[_,_,h1.objs.size,_,_,Heap.get?_update_self _ he2 (by unfold Obj.mapFields;rw[hd];rfl),?_,by unfold Obj.mapFields;rw[hd],?_,?_,en,(Heap.get?_update_ne _ _ _ _ en).trans (Heap.get?_push_size _ rfl),rfl,?_]
  .unfold Obj.mapFields;rw[hd];exact hc
  .rw[Array.getElem?_setIfInBounds_self,iP hz]
  .cases q:base.get? h1.objs.size with
   |none=>rfl
   |some o=>
     have:=Heap.lt_size (st _ o q);rw[<-o1]at this;exact absurd this (Nat.lt_irrefl _)
  .rfl
theorem H8(st:base.StaysIn s.heap)(ff:s.heap.FunFrames base outer)(hb:base.get? e=none)(t:nQ s.heap base e cls d fl)(k:∀h',XF base outer e cls d Value.none h'->s.heap.UpToSlots h'->Q () {s with heap:=h'}):wpAny M A (setFlight (.ref e) none) Q E s:=by
 obtain⟨oe,vs,T,⟨cT,dT,aT,sT⟩,ts,h1,h2,h3,h4,h5,h6,h7,h8,h9⟩:=t;cases (show aT=_ from h8);have hsz:=(Array.getElem?_eq_some_iff.mp h9).1;refine wpAny_setFlight_none h1 h3 h4 h7 h8 hsz ?_;have Di:∀c o,c≠T->s.heap.get? c=some o->(s.heap.update T (Obj.mapFields λx=>x.setIfInBounds 3 Value.none)).get? c=some o:=λc o hne q=>(Heap.get?_update_ne _ _ _ _ hne).trans q
 have up:s.heap.UpToSlots (s.heap.update T (Obj.mapFields λx=>x.setIfInBounds 3 Value.none)):=λc o q hn=>#[o.slots,Di c o (λz=>by subst z;rw[h7]at q;cases q;exact hn _ h8) q]
 refine k _ #[λc o q=>Di c o (λz=>by subst z;rw[h5]at q;cases q) (st c o q),ff.of_keeps λc o q hn=>?_,oe,vs,T,_,_,Di e oe (Ne.symm h6) h1,h2,h3,h4,h5,h6,Heap.get?_update_self _ h7 rfl,rfl,by rw[Array.getElem?_setIfInBounds_self,iP hsz]] up;obtain⟨sl',q'⟩:=up c o q hn;exact#[_,q',rfl]
theorem La(fr:A.frames=some (env::outer))(hf:env.frame=some L)(hb:base.get? e=none)(t:XF base (env::outer) e cls d Value.none s.heap)(k:∀h',XF base (env::outer) e cls d (rawInt ↑L) h'->s.heap.UpToSlots h'->Q () {s with heap:=h'}):
 wpAny M A (noteFrame (.ref e) env) Q E s:=by
 obtain⟨st,ff,oe,vs,T,oT,ts,h1,h2,h3,h4,h5,h6,h7,h8,h9⟩:=t;have hsz:=(Array.getElem?_eq_some_iff.mp h9).1;unfold noteFrame;rw[hf];refine wB (wpAny_field h1 h3 h4 ?_);show wpAny _ _ (if _ then _ else _) _ _ _;rw[iP (by simp)];refine wB (wpAny_field h7 h8 h9 ?_);rw[iN (by intro z;cases beq_iff_eq.mp z)];refine wB (wpAny_setField h7 h8 hsz ?_);have Di:∀c o,c≠T->s.heap.get? c=some o->(s.heap.update T (Obj.mapFields λx=>x.setIfInBounds 3 Value.none)).get? c=some o:=λc o hne q=>(Heap.get?_update_ne _ _ _ _ hne).trans q
 have up:s.heap.UpToSlots (s.heap.update T (Obj.mapFields λx=>x.setIfInBounds 3 Value.none)):=λc o q hn=>#[o.slots,Di c o (λz=>by subst z;rw[h7]at q;cases q;exact hn _ h8) q]
 exact L9 (s:={s with heap:=s.heap.update T (Obj.mapFields λx=>x.setIfInBounds 3 Value.none)}) fr (ff.of_keeps λc o q hn=>by obtain⟨sl',q'⟩:=up c o q hn;exact#[_,q',rfl]) hf (Di e oe (Ne.symm h6) h1) (λc o q=>Di c o (λz=>by subst z;rw[h5]at q;cases q) (st c o q)) hb h3 (Array.getElem?_eq_some_iff.mp h4).1 h2 λh' f u=>k h' f (up.trans u)
theorem MF(fr:A.frames=some (env::outer))(hf:env.frame=some L)(hb:base.get? e=none)(t:XF base (env::outer) e cls d Value.none s.heap)(k:∀h',XF base (env::outer) e cls d Value.none h'->s.heap.UpToSlots h'->Q () {s with heap:=h'}):
 wpAny M A (leaving env (.ref e)) Q E s:=by
 unfold leaving;exact wB (La fr hf hb t λh' f u=>H8 f.1 f.2.1 hb f.2.2 λh2 f2 u2=>k h2 f2 (u.trans u2))
theorem Lg(fr:A.frames=some (env::outer))(ff:s.heap.FunFrames base (env::outer))(hf:env.frame=some L)(he:s.heap.get? e=some oe)(st:base.StaysIn s.heap)(hb:base.get? e=none)(hd:oe.data= .fields vs)(h1:vs[1]? =some Value.none)(hc:oe.cls=cls/\oe.dict=d)
 (k:∀h',XF base (env::outer) e cls d Value.none h'->s.heap.UpToSlots h'->Q () {s with heap:=h'}):wpAny M A (leaving env (.ref e)) Q E s:=by
 unfold leaving noteFrame;rw[hf];refine wB (wB (wpAny_field he hd h1 ?_));show wpAny _ _ (if _ then _ else _) _ _ _;rw[iN (by decide)];exact L9 fr ff hf he st hb hd (Array.getElem?_eq_some_iff.mp h1).1 hc λh' f u=>H8 f.1 f.2.1 hb f.2.2 λh2 f2 u2=>k h2 f2 (u.trans u2)
end
end Xc
namespace Xc
open PySem PySem.Spec L2 PyProof.Rows
abbrev Y4:Str->Option Value:=λz=>if z="place" then some .none else none
noncomputable def Eb(P:Program)(w:World):di:=λouter H s E e s'=>∃(ea C d:Addr) (B:Heap) (H':Hp),e= .ref ea/\s'.os=s.os/\AllBare s'.gens/\Un (Cv outer) [] H H' s.heap s'.heap/\Ff P w H' s'.heap/\
 B.get? ea=none/\(B.Ns1 d Y4/\H' d=none)/\XF B outer ea (.ref C) (some d) Value.none s'.heap/\(∀b,b∉Cv outer->((∃o,s.heap.get? b=some o)\/H' b≠none)->∃o,B.get? b=some o)/\E (.ref C) none H'
variable{w:World}
theorem Y5{P:Program}{X:Cx}:Passes (Eb P w) X E0:=λ_ _ _ _ _ _ _ ⟨_,_,_,_,_,_,_,_,_,_,_,_,_,_,q⟩=>q.elim
section
variable{X:Cx}{A1:Oa}{Y:L2.St}{H H':Hp}{s s':Shared}{B h':Heap}{e C d:Addr}{E:XK}
theorem gI{P:Program}{w:World}(ok:Ff P w H' s'.heap)(hB:∀b o,s'.heap.get? b=some o->H' b≠none->h'.get? b=some o):Ff P w H' h':=λa o q=>
 (ok a o q).Di (λb u hb r=>hB b u r (by rcases hb with rfl|hb<;>simp_all)) (λ_ r=>r) λ_ _ r=>r
theorem Sn{l:List Addr}{R:Addr->Prop}(k0:B.StaysIn s'.heap)(hB:∀b,b∉l->R b->∃o,B.get? b=some o){b:Addr}{o:Obj}(q:s'.heap.get? b=some o)(hb:b∉l)(r:R b):B.get? b=some o:=by
 obtain⟨o2,e2⟩:=hB b hb r;have:=k0 b o2 e2;rw[q]at this;rw[e2,this]
theorem Nj(I:Inv X A1 Y H s)(un:Un (Cv X.stack) [] H H' s.heap s'.heap)(k0:B.StaysIn s'.heap)(hB:∀b,b∉Cv X.stack->((∃o,s.heap.get? b=some o)\/H' b≠none)->∃o,B.get? b=some o)(k1:B.StaysIn h')(k4:s'.heap.UpToSlots h'):
 Un (Cv X.stack) [] H H' s.heap h' where
 keep:=λb o q n hb hx=>k1 b o (Sn k0 hB (un.keep b o q n hb hx) hb (.inl #[o,q]))
 A4:=λb o q n hb hx=>by
  obtain⟨sl,e1⟩:=un.A4 b o q n hb hx;obtain⟨_,o',q',hd⟩:=I.stack.mem hb;rw[q]at q';cases q';obtain⟨sl',e2⟩:=k4 b _ e1 hd;exact#[sl',e2]
 free:=un.free
 there:=λb o q hx=>by
  by_cases hb:b∈Cv X.stack
  .obtain⟨sl,e1⟩:=un.A4 b o q (I.Ec b hb) hb hx;obtain⟨_,o',q',hd⟩:=I.stack.mem hb;rw[q]at q';cases q';obtain⟨sl',e2⟩:=k4 b _ e1 hd;exact#[_,e2]
  .obtain⟨o',e1⟩:=un.there b o q hx;exact#[o',k1 b o' (Sn k0 hB e1 hb (.inl #[o,q]))]
 FY:=un.FY
 DK:=un.DK
 Fj:=un.Fj
theorem Lq(I:Inv X A1 Y H s)(un:Un (Cv X.stack) [] H H' s.heap s'.heap)(Ao:Ff X.prog X.w H' s'.heap)(k0:B.StaysIn s'.heap)(hB:∀b,b∉Cv X.stack->((∃o,s.heap.get? b=some o)\/H' b≠none)->∃o,B.get? b=some o)(k1:B.StaysIn h'):Ff X.prog X.w H' h':=
 gI Ao λb o q hn=>k1 b o (Sn k0 hB q (λhb=>by
  obtain⟨_,o',q',_⟩:=I.stack.mem hb
  exact hn (un.free b o' q' (I.Ec b hb) (by simp))) (.inr hn))
theorem O2(I:Inv X A1 Y H s)(hst:X.stack=X.env::X.outer)(hf:X.env.frame=some X.env.locals)(hex:X.ex=[])(os:s'.os=s.os)(gb:AllBare s'.gens)(un:Un (Cv X.stack) [] H H' s.heap s'.heap)(Ao:Ff X.prog X.w H' s'.heap)
 (k0:B.StaysIn s'.heap)(hB:∀b,b∉Cv X.stack->((∃o,s.heap.get? b=some o)\/H' b≠none)->∃o,B.get? b=some o)(L:XF B (X.env::X.outer) e (.ref C) (some d) Value.none h')(k4:s'.heap.UpToSlots h')(en:B.get? e=none)(hd:B.Ns1 d Y4/\H' d=none)(q:E (.ref C) none H'):
 Eb X.prog X.w X.outer X.H₀ X.s₀ E (.ref e) {s' with heap:=h'}:=by
 obtain⟨k1,⟨_,_,k2⟩,k3⟩:=L;have xUU:=Nj I un k0 hB k1 k4;have hfs:Cv X.stack=X.env.locals::Cv X.outer:=by rw[hst];unfold Cv;rw[filterMap_cons,hf]
 have out:∀b o,X.s₀.heap.get? b=some o->b∉Cv X.outer->b∉Cv X.stack:=λb o q hb=>by
  rw[hfs];intro hm;rcases mK hm with z|z
  .exact absurd (Heap.lt_size q) (by rw[z];exact Nat.not_lt.mpr I.ok.above)
  .exact hb z
 have dw:∀b,b∈Cv X.outer->b∈Cv X.stack:=λb hb=>by rw[hfs];exact mC hb
 have no:∀b:Addr,b∉X.ex:=λb=>by rw[hex];simp
 refine#[e,C,d,B,H',rfl,os.trans I.os,gb,#[λb o q n hb hx=>?_,λb o q n hb hx=>?_,λb o q n hx=>?_,λb o q hx=>?_,λb xs q=>xUU.FY b xs (I.base.FY b xs q),λb o u q=>xUU.DK b o u (I.base.DK b o u q),λb ps q=>?_],Lq I un Ao k0 hB k1,en,hd,#[k1,k2,k3],λb hb hor=>?_,q]
 .exact xUU.keep b o (I.base.keep b o q n hb (no b)) (I.base.free b o q n (no b)) (out b o q hb) hx
 .obtain⟨sl,e1⟩:=I.base.A4 b o q n hb (no b);obtain⟨sl',e2⟩:=xUU.A4 b _ e1 (I.base.free b o q n (no b)) (dw b hb) hx;exact#[sl',e2]
 .obtain⟨o',e1⟩:=I.base.there b o q (no b);exact xUU.free b o' e1 (I.base.free b o q n (no b)) hx
 .obtain⟨o',e1⟩:=I.base.there b o q (no b);exact xUU.there b o' e1 hx
 .obtain⟨m1,e1⟩:=I.base.Fj b ps q;obtain⟨m2,e2⟩:=xUU.Fj b _ e1;exact#[m1++m2,by rw[e2,Array.append_assoc]]
 .rcases hor with⟨o,e0⟩|hn
  .obtain⟨o',e1⟩:=I.base.there b o e0 (no b);exact hB b (out b o e0 hb) (.inl #[o',e1])
  .exact hB b (λhm=>by
    obtain⟨_,o',q',_⟩:=I.stack.mem hm
    exact hn (un.free b o' q' (I.Ec b hm) (by simp))) (.inr hn)
end
variable{X:Cx}{A1:Oa}{Y:L2.St}{H H':Hp}{s s':Shared}{E E':XK}
variable{h:Heap}
theorem Ej{P:Program}{H:Hp}{a:Addr}{o:HO}(x:BW P w H h a o):∃ob,h.get? a=some ob:=by
 induction o with
 |lst xs=>obtain⟨_,_,_,_,e⟩:=x;exact#[_,e]
 |tup xs=>obtain⟨_,_,_,ob,e,_⟩:=x;exact#[ob,e]
 |dK kvs=>obtain⟨_,_,_,_,o,_,_,e,_⟩:=x;exact#[_,e]
 |dT kvs=>obtain⟨_,_,_,_,o,_,_,e,_⟩:=x;exact#[_,e]
 |set S n=>obtain⟨o,_,_,_,e,_⟩:=x;exact#[_,e]
 |ins C dx fs=>obtain⟨_,_,_,e,_⟩:=x;exact#[_,e]
 |own y=>exact x
 |xd fs=>obtain⟨_,⟨_,_,_,e,_⟩,_⟩:=x;exact#[_,e]
 |Co lo hi=>obtain⟨_,_,_,e⟩:=x;exact#[_,e]
 |E4 o u ih=>exact#[_,x.1]
 |Jy ps=>exact#[_,x]
 |met f y=>exact#[_,x]
 |ext φ=>exact x.2.1
theorem Lw{base:Heap}{as:List Addr}:∀{l:List PySem.Env},h.FunFrames base l->(∀b∈Cv l,b∈as)->h.FunFrames (hideAll h as) l
 |[],_,_=>trivial
 | env::l,⟨hk,⟨L,o,hf,_,ho,hd⟩,hr⟩,hin=>by
   have h1:Cv (env::l)=L::Cv l:=by unfold Cv;rw[filterMap_cons,hf]
   exact#[hk,#[L,o,hf,hideAll_none _ (hin L (by rw[h1];exact .head _)),ho,hd],Lw hr λb hb=>hin b (by rw[h1];exact .tail _ hb)]
theorem Qi{C:Addr}(I:Inv X A1 Y H s)(hst:X.stack=X.env::X.outer)(hf:X.env.frame=some X.env.locals)(hex:X.ex=[])(os:s'.os=s.os)(gb:s'.gens=s.gens)
 (kp:∀b o,s.heap.get? b=some o->s'.heap.get? b=some o)(en:s.heap.get? e=none)(he:s'.heap.get? e=some (F6 C t (some d)))(nd:s'.heap.Ns1 d Y4)(dn:s.heap.get? d=none)(de:d≠e)(q:E (.ref C) none H):
 (X|||(leaving X.env (.ref e))) (λ_ s''=>Eb X.prog X.w X.outer X.H₀ X.s₀ E (.ref e) s'') (λe' s''=>Eb X.prog X.w X.outer X.H₀ X.s₀ E e' s'') s':=by
 have k0:(hideAll s'.heap (e::Cv X.stack)).StaysIn s'.heap:=λb o q=>of_hideAll _ q
 have en':(hideAll s'.heap (e::Cv X.stack)).get? e=none:=hideAll_none _ mS;have ff2:s'.heap.FunFrames (hideAll s'.heap (e::Cv X.stack)) (X.env::X.outer):=hst▸Lw (I.stack.of_keeps (h':=s'.heap) λb o q _=>#[o,kp b o q,rfl]) λb hb=>mC hb
 have isB:∀b o,s.heap.get? b=some o->b∉Cv X.stack->∃o,(hideAll s'.heap (e::Cv X.stack)).get? b=some o:=λb o e0 hb=>⟨o,hideAll_get _ (kp b o e0) λz=>by
  rcases mK z with z|z
  .rw[z,en]at e0;cases e0
  .exact hb z⟩
 refine Lg (base:=hideAll s'.heap (e::Cv X.stack)) (outer:=X.outer) (by rw[I.ok.frames,hst]) ff2 hf he k0 en' rfl rfl #[rfl,rfl] λh' L k4=>?_
 refine O2 (B:=hideAll s'.heap (e::Cv X.stack)) I hst hf hex os (by rw[gb];exact I.bare) #[λb o q _ _ _=>kp b o q,λb o q _ _ _=>#[o.slots,kp b o q],λb o q n _=>n,λb o q _=>#[o,kp b o q],λ_ _ q=>q,λ_ _ _ q=>q,λ_ ps q=>#[[].toArray,by rw[Array.append_empty];exact q]] (I.Ao.kept kp) k0 (λb hb hor=>?_) L k4 en' #[nd.at λo q=>hideAll_get _ q λz=>?_,?_] q
 .rcases hor with⟨o,e0⟩|hn
  .exact isB b o e0 hb
  .have hl:∃o,s.heap.get? b=some o:=by
    cases hH:H b with
    |none=>exact absurd hH hn
    |some u=>exact Ej (I.Ao b u hH)
   obtain⟨o,e0⟩:=hl;exact isB b o e0 hb
 .rcases mK z with z|z
  .exact de z
  .obtain⟨_,o',q',_⟩:=I.stack.mem z;rw[dn]at q';cases q'
 .cases hH:H d with
  |none=>rfl
  |some u=>
    obtain⟨o,e0⟩:=Ej (I.Ao d u hH);rw[dn]at e0;cases e0
theorem UD(I:Inv X A1 Y H s)(hst:X.stack=X.env::X.outer)(hf:X.env.frame=some X.env.locals)(hex:X.ex=[])(c:Eb X.prog X.w X.stack H s E' e s')(hE:∀cls H',E' cls none H'->E cls none H'):
 (X|||(leaving X.env e)) (λ_ s''=>Eb X.prog X.w X.outer X.H₀ X.s₀ E e s'') (λe' s''=>Eb X.prog X.w X.outer X.H₀ X.s₀ E e' s'') s':=by
 obtain⟨ea,C,d,B,H',rfl,os,gb,un,Ao,f2,nd,f3,hB,q⟩:=c;rw[hst]at f3;exact MF (by rw[I.ok.frames,hst]) hf f2 f3 λh' L k4=>O2 I hst hf hex os gb un Ao f3.1 hB L k4 f2 nd (hE _ _ q)
end Xc
namespace Xc
open PySem PySem.Spec
section
variable{prog:Program}{w:World}{A:Around}{E:Va}{s:Shared}{K:PySem.W.Frag}{x C:Addr}{ox:Obj}{od:Option Obj}{name:Str}
structure GA(K:PySem.W.Frag)(C:Addr):Prop where
 ga:findIn K (.ref C) "__getattribute__"=some (some (.builtin "BaseException.__getattribute__"))
 gt:findIn K (.ref C) "__getattr__"=some none
 bs:mroIn K C (.type "BaseException")=some true
variable{expr:Bool}
theorem Yp{fill:Bool}{tk:Tok}{r:Builtin.ObjectAttr.Found}{Q:Va}(X:K.In s.heap)(I:InstAt s.heap x ox C od)(k:GA K C)(hf:PySem.W.findObj K C od name=some r)(hr:r≠.missing)
 (h:wpAny (model prog w) A.in1 (match r with
  |.value v=>ret v
  |.bind g a=>Builtin.ObjectAttr.bindTo g a (.ref x) (.ref C)
  |.missing=>throw .none) (λfin s'=>∃v,fin= .done (.ret v)/\handedIn v=true/\Q v s') (λ_ _=>False) s):
 wpAny (model prog w) A (getAttrBy (.ref x) (.str name tk) fill expr) Q E s:=by
 have F:=PySem.F.attrBase_ValueError;obtain⟨hp,g,dr,tk0,os⟩:=s;have i1:=I.type (M:=model prog w);have i2:=looks_findIn (M:=model prog w) X k.ga;have i3:=looks_findIn (M:=model prog w) X k.gt;have i4:=PySem.W.looks_find (M:=model prog w) X I hf;unfold getAttrBy;refine wpAny_holding (wB (i1.at (wB (i2.at ?_))));show wpAny _ _ (if _ then _ else _) _ _ _;rw[iN (λz=>absurd (Bool.and_eq_true_iff.mp z).2 (by decide))];unfold getAttrByItsOwn hookBefore;refine wB (i3.at (wB (wpAny_attempt (wpAny_holding ?_))));unfold callGetattribute;rw[iN (by cases expr<;>decide)];unfold boundAndCalled;rw[F.ga.bind];refine wB (wP (wpAny_call (codeAny_call_builtin F.ga.plain PySem.F.entry_bexc_ga ?_)));have sub:Looks (model prog w) hp (isInstance (.ref x) (.type "BaseException")) true:=i1.andThen (looks_mroIn X k.bs);refine @check_slot (model prog w) _ _ _ "BaseException.__getattribute__" "BaseException" "__getattribute__" (.ref x) [.str name tk] [] _ (by decide +kernel) (by decide +kernel) sub (PySem.F.args_bexc_ga _ _) ?_;unfold Builtin.«object.__getattribute__»;show wpAny _ _ (slotArgs "__getattribute__" 1 #[[.ref x,.str name tk],[]] >>= _) _ _ _;have hs:slotArgs "__getattribute__" 1 #[[.ref x,.str name tk],[]]=pure (.ref x,[.str name tk]):=rfl;rw[hs];refine wB (wP ?_);show wpAny _ _ (Builtin.ObjectAttr.attrName (.str name tk) >>= _) _ _ _;have ha:Builtin.ObjectAttr.attrName (.str name tk)=pure name:=rfl;rw[ha];refine wB (wP (wB (i1.at (wB (i4.at ?_)))));cases r with
 |missing=>exact absurd rfl hr
 |value v=>
   refine wpAny_mono h (λfin s' z=>?_) (λ_ _ z=>z.elim);obtain⟨v',rfl,hh,q⟩:=z;exact handed_on hh q
 |bind g a=>
   refine wpAny_mono h (λfin s' z=>?_) (λ_ _ z=>z.elim);obtain⟨v',rfl,hh,q⟩:=z;exact handed_on hh q
theorem SI{d:Addr}{m:Str->Option Value}{v:Value}{Q:Va}(X:K.In s.heap)(hx:s.heap.get? x=some ox)(hc:ox.cls= .ref C)(hn:notCls ox=true)(hd:ox.dict=some d)(ns:s.heap.Ns1 d m)(k:GA K C)(hh:hasDictIn K C=true)
 (ha:findIn K (.ref C) name=some none)(hv:m name=some v)(hv':handedIn v=true)(h:Q v {s with toks:=s.toks+1}):
 wpAny (model prog w) A (getAttr (.ref x) name expr) Q E s:=by
 obtain⟨od,ho,hl⟩:=L2.J0 ns;unfold getAttr;refine wB (wpAny_mkText ?_);exact Yp (s:={s with toks:=s.toks+1}) X #[hx,hc,hn,by rw[hd];exact ho] k (findObj_own hh ha rfl (by rw[hl,hv])) (by intro z;cases z) (wP #[v,rfl,hv',h])
theorem Wn{od:Obj}{bm:List Value}(hcl:∀h:Heap,K.In h->Dv h C bm)(k:GA K C)(hh:hasDictIn K C=true)(ha:findIn K (.ref C) "__class__"=some (some (.builtin "object.__class__")))
 (hn:specialIn K (.builtin "object.__class__") "__get__"=some (some (.builtin "getset_descriptor.__get__")))(htk:takesIn K (.builtin "object.__class__")=some true)(hm:mroIn K C (.type "object")=some true):
 KitX K (.ref x) (.ref C) λh=>InstAt h x ox C (some od) where
 ty:=λM h X I=>I.type
 it:=λM h X I A' Q' E' s' kp q=>by
   obtain⟨nm,q1,N,bs,hdct,sn,sub,ab,col,dd,k0,k1,k2,k3,k5,hC⟩:=(hcl h X).at_;exact wB (wpAny_loadPart (kp _ _ hC) (wP q))
 ne:=λh tp dd its n sl X q=>Bool.eq_false_iff.mpr λz=>by
   obtain⟨nm,q1,N,bs,hdct,sn,sub,ab,col,dd,k0,k1,k2,k3,k5,hC⟩:=(hcl h X).at_;cases Value.ref.inj (beq_iff_eq.mp z);rw[q]at hC;have:=congrArg Obj.data (Option.some.inj hC);cases this
 ca:=λ{prog w A E Q s} X I h=>by
   have hf:=PySem.W.findObj_data (od:=od) (by obtain⟨cd,hc,_⟩:=any_some hh;rw[hc];rfl) ha hn htk;unfold getAttr? getAttrBy?;refine wB (wpAny_mkText (wB (wpAny_attempt (Yp (s:={s with toks:=s.toks+1}) X I k hf (by intro z;cases z) ?_))));refine wB (wpAny_holding (wpAny_call (PySem.W.class_get (s:={s with toks:=s.toks+1}) X I hm ?_)));exact wP #[_,rfl,rfl,wP h]
end
end Xc
namespace Xc
open PySem PySem.Spec L2 PyProof.Rows
section
variable{prog:Program}{w:World}{A:Around}{E:Va}{s:Shared}{C D e:Addr}{oe:Obj}{bm bd:List Value}
theorem Pu{Q:Bool->Shared->Prop}(c:Dv s.heap C bm)(cd:Dv s.heap D bd)(hs:bm.contains (.ref D)=true)(he:s.heap.get? e=some oe)(ho:oe.cls= .ref C)(hq:Q true s):wpAny (model prog w) A (excMatches (.ref e) (.ref D)) Q E s:=by
 obtain⟨nm,q,N,bs,hdct,sn,sub,ab,col,dd,k0,k1,k2,k3,k5,hC⟩:=c.at_;obtain⟨nm',q',N',bs',hdct',sn',sub',ab',col',dd',j0,j1,j2,j3,j5,hD⟩:=cd.at_;have hb:(Value.ref D::bd).contains (.type "BaseException")=true:=by rw[contains_cons,cd.base,Bool.or_true]
 have hcD:(Value.ref C::bm).contains (.ref D)=true:=by rw[contains_cons,hs,Bool.or_true]
 have f:=tc_notTuple;obtain⟨oc,od,oa,os'⟩:=oe;cases (show oc=_ from ho);obtain⟨hp,g,dr,tk,os⟩:=s;unfold excMatches isInstance
 repeat (first
  |with_reducible refine wpAny_loadPart_at hD ?_
  |with_reducible refine wpAny_loadPart_at he ?_
  |(with_reducible refine wpAny_isSubtype_exc hD ?_;rw[hb])
  |(with_reducible refine wpAny_isSubtype_exc hC ?_;rw[hcD])
  |wp_step)
 exact hq
end
noncomputable abbrev hX(X:Cx)(ea d:Addr)(oe od:Obj):Cx:={X with A:=X.A.mark (some (.ref ea)),calm:=false,pn:=(ea,oe)::(d,od)::X.pn,xe:=λ_ _=>False}
section
variable{X:Cx}{A1:Oa}{Y:L2.St}{H H':Hp}{s s':Shared}{E:XK}{C D ea d:Addr}{oe od:Obj}{x en:Str}{p zp rp hp:Pos}{ie:Nat}
theorem aO(I:Inv X A1 Y H s)(h:∀q∈[(ea,oe),(d,od)],s.heap.get? q.1=some q.2/\H q.1=none/\q.1≠X.env.locals/\q.1∉X.fs/\∀v,q.2.data≠.cell v):Inv (hX X ea d oe od) A1 Y H s:=
 ⟨#[I.ok.mod,I.ok.kind,I.ok.glob,I.ok.blt,I.ok.above,I.ok.inj,I.ok.has,I.ok.bD,(λz=>by cases z),I.ok.frames,I.ok.eM,I.ok.gW,I.ok.bs,I.ok.Tc,I.ok.Pf,I.ok.PQ,I.ok.EA,I.ok.Wk],I.os,I.bare,I.base,I.loc,I.cell,I.free,I.D4,λq hq=>by
   rcases mK hq with z|hq
   .exact h q (z▸mS)
   .rcases mK hq with z|hq
    .exact h q (z▸mC mS)
    .exact I.pin q hq,I.Ao,I.len⟩
theorem Sd(ok:X.Ok)(I:Inv (hX X ea d oe od) A1 Y H s):Inv X A1 Y H s:=
 #[ok,I.os,I.bare,I.base,I.loc,I.cell,I.free,I.D4,λq hq=>I.pin q (mC (mC hq)),I.Ao,I.len]
theorem MW{h':Heap}{m:Str->Option Value}{u:Option Value}(I:Inv X A1 Y H s)(hN:X.N.Nodup)(hi:X.N[ie]? =some en)(hn:s.heap.Ns X.env.locals m)(hl:∀(i:Nat) (x:Str) (v:V),X.N[i]? =some x->Y[i]? =some (some v)->dH X.env.scope x->∃u,RelV v u/\Look X.env s.heap m x u)
 (hn':h'.Ns X.env.locals λx=>if x=en then u else m x)(hs:Heap.SameBut X.env.locals s.heap h'):Inv X A1 (Y.set ie none) H {s with heap:=h'}:=by
 obtain⟨oL,_,_,hoL,_⟩:=id hn;refine#[I.ok,I.os,I.bare,#[λb o e n hb hx=>?_,λb o e n hb hx=>?_,I.base.free,λb o e hx=>?_,I.base.FY,I.base.DK,I.base.Fj],#[_,hn',λj y v' e1 e2 e3=>?_],λy c e=>?_,I.free,I.D4,λp hp=>?_,λb ob e=>?_,by simpa using I.len]
 .exact(hs.2 b (Nat.ne_of_lt (Nat.lt_of_lt_of_le (Heap.lt_size e) I.ok.above))).trans (I.base.keep b o e n hb hx)
 .obtain⟨sl,e1⟩:=I.base.A4 b o e n hb hx;exact#[sl,(hs.2 b (Nat.ne_of_lt (Nat.lt_of_lt_of_le (Heap.lt_size e) I.ok.above))).trans e1]
 .obtain⟨o',e1⟩:=I.base.there b o e hx;exact#[o',(hs.2 b (Nat.ne_of_lt (Nat.lt_of_lt_of_le (Heap.lt_size e) I.ok.above))).trans e1]
 .by_cases hj:j=ie
  .subst hj;rw[List.getElem?_set_self']at e2;cases q:Y[j]?<;>rw[q]at e2<;>cases e2
  .rw[List.getElem?_set_ne (Ne.symm hj)]at e2;obtain⟨u',r',q⟩:=hl j y v' e1 e2 e3;refine#[u',r',?_];rcases q with⟨k,e⟩|⟨k,c,e,z⟩
   .refine .inl #[k,?_];have:y≠en:=λe=>hj (HD hN e1 (e▸hi))
    simp[this,e]
   .exact .inr #[k,c,e,z.sameBut hs (I.Uz y c e)]
 .obtain⟨w',z⟩:=I.cell y c e;exact#[w',z.sameBut hs (I.Uz y c e)]
 .obtain⟨e,n,ne,nf,d⟩:=I.pin p hp;exact#[(hs.2 p.1 ne).trans e,n,ne,nf,d]
 .refine(I.Ao b ob e).Di (λc w' hc q=>(hs.2 c ?_).trans q) (λ_ q=>q) λ_ _ q=>q
  rintro rfl
  have hfree:=I.free;rcases hc with rfl|hc
  .rw[hfree]at e;cases e
  .rw[hfree]at hc;cases hc
theorem aB{A:Around}{E:Va}{Q:Unit->Shared->Prop}(I:Inv X A1 Y H s)(hN:X.N.Nodup)(hi:X.N[ie]? =some en)(hl:X.env.scope.names.lookup en=some .local)(k:∀s',Inv X A1 (Y.set ie none) H s'->Q () s'):
 wpAny (model X.prog X.w) A (do bindName X.env en Value.none;unbindBehindTheSuite X.env en hp) Q E s:=by
 unfold bindName unbindBehindTheSuite;refine wB (wB (wpAny_holding (wpAny_point (wB (DN (v:=.Az) I hN hi (.inl hl) rfl (λs1 I1=>wpAny_point ?_) (.inr hl))))));obtain⟨m,hn,hlk⟩:=id I1.loc;have hie:ie<Y.length:=by rw[I.len];exact(List.getElem?_eq_some_iff.mp hi).1
 obtain⟨u,r,q⟩:=hlk ie en .Az hi (List.getElem?_set_self hie) (.inl hl)
 have hm:m en=some u:=by
  rcases q with⟨_,q⟩|⟨q,_⟩
  .exact q
  .rw[show X.env.kindOf en=_ from hl]at q;rcases q with q|q<;>cases q
 refine wpAny_onRaise (wpAny_unbindName_local hl hn hm (by rw[I.ok.kind];rfl) λh' u' hn' hs=>k _ ?_);have:=MW I1 hN hi hn hlk hn' hs;rwa[set_set]at this
end
section
variable{X:Cx}{A1:Oa}{Y:L2.St}{H:Hp}{s s':Shared}{E:XK}{C D:Addr}{x en:Str}{p hp:Pos}{ie:Nat}{bm bd:List Value}
theorem land{R:Hp->Prop}{Q:Flow->Shared->Prop}{b0:Stmt}{body:List Stmt}(hc:∀h:Heap,X.K.In h->Dv h C bm)(hcd:∀h:Heap,X.K.In h->Dv h D bd)(hsub:bm.contains (.ref D)=true)
 (hg:Gl X x)(hm:X.mg x=some (.ref D))(hdb:ng x)(hN:X.N.Nodup)(hi:X.N[ie]? =some en)(hl:X.env.scope.names.lookup en=some .local)(I:Inv X A1 Y H s)(hst:X.stack=X.env::X.outer)(hf:X.env.frame=some X.env.locals)
 (c:Eb X.prog X.w X.stack H s E e s')(hE:∀cls H',E cls none H'->cls= .ref C/\R H')
 (k:∀ea d oe od H' s'',oe.cls= .ref C->oe.dict=some d->notCls oe=true->(∀h:Heap,h.get? d=some od->h.Ns1 d Y4)->Inv (hX X ea d oe od) A1 (Y.set ie (some (.ref ea))) H' s''->R H'->
   wpAny (model X.prog X.w) (X.A.mark (some (.ref ea))) (execs (b0::body) X.env) (λf s3=>f= .next/\∃Y3 H3,Inv (hX X ea d oe od) A1 Y3 H3 s3/\∀s4,Inv X A1 (Y3.set ie none) H3 s4->Q .next s4) (λ_ _=>False) s''):
 (X|||(noteFrame e X.env)) (λ_ s2=>(X|||(setFlight e none)) (λ_ s3=>(X|||(handleBy e X.env [.ExceptHandler (some (.Name x p)) (some en) (b0::body) hp])) Q X.xe s3) X.xe s2) X.xe s':=by
 obtain⟨ea,C',d,B,H',rfl,os,gb,un,Ao,f2,⟨nd,hd⟩,f3,hB,q⟩:=c;obtain⟨ec,r⟩:=hE _ _ q;cases ec;have inv:∀h':Heap,B.StaysIn h'->s'.heap.UpToSlots h'->Inv X A1 Y H' {s' with heap:=h'}:=λh' k1 k4=>I.YA (ch:=[]) os (Nj I un f3.1 hB k1 k4) (Lq I un Ao f3.1 hB k1) gb (λb z=>absurd z (by simp))
 have fr:X.A.frames=some (X.env::X.outer):=by rw[I.ok.frames,hst]
 rw[hst]at f3;refine La fr hf f2 f3 λh4 t4 u4=>H8 t4.1 t4.2.1 f2 t4.2.2 λh5 t5 u5=>?_
 refine wpAny_handleBy_cons (codeAny_handlers_test ?_) (by intro z;cases z);have I5:=inv h5 t5.1 (u4.trans u5);refine Calls.Name_function_global I5.ok.kind hg (Calls.loadGlobal_global (by rw[I5.ok.glob];exact I5.mod.glob.keeps I5.bk) hm ?_) hdb;obtain⟨oe5,_,_,_,_,he5,⟨hcl5,_⟩,_⟩:=id t5.2.2;refine Pu (s:={s' with heap:=h5}) (hc h5 I5.Cn) (hcd h5 I5.Cn) hsub he5 hcl5 ?_;show codeAny _ _ _ _ _;refine codeAny_handlers_suite_as (H8 (s:={s' with heap:=h5}) t5.1 t5.2.1 f2 t5.2.2 λh6 t6 u6=>?_);have I6:=inv h6 t6.1 ((u4.trans u5).trans u6);obtain⟨oe,vs,_,_,_,he,⟨hcl,hdc⟩,hdt,_⟩:=id t6.2.2;obtain⟨od,es,ep,hod,hodd,hk1,hk2,hk3⟩:=id nd
 have nfe:ea∉Cv (X.env::X.outer):=λz=>by
  obtain⟨_,o',q',hn⟩:=t6.2.1.mem z;rw[he]at q';cases q';exact hn _ hdt
 have nfd:d∉Cv (X.env::X.outer):=λz=>by
  rw[(t6.2.1.mem z).1]at hod;cases hod
 have sub:∀b,b∉Cv (X.env::X.outer)->b≠X.env.locals/\b∉X.fs:=λb hb=>by
  have h1:Cv (X.env::X.outer)=X.env.locals::Cv X.outer:=by unfold Cv;rw[filterMap_cons,hf]
  rw[h1]at hb;exact#[λz=>hb (by rw[z];exact mS),λz=>hb (mC z)]
 have hne:H' ea=none:=Classical.byContradiction λz=>by
  obtain⟨o,ho⟩:=hB ea (by rw[hst];exact nfe) (.inr z);rw[f2]at ho;cases ho
 have J:=aO (ea:=ea) (d:=d) (oe:=oe) (od:=od) I6 λq hq=>by
  rcases mK hq with z|z
  .cases z;exact#[he,hne,(sub _ nfe).1,(sub _ nfe).2,λv z=>by rw[hdt]at z;cases z]
  .cases mE z;exact#[t6.1 _ _ hod,hd,(sub _ nfd).1,(sub _ nfd).2,λv z=>by rw[hodd]at z;cases z]
 refine DN (X:=hX X ea d oe od) (v:=.ref ea) J hN hi (.inl hl) rfl (λs7 I7=>?_) (.inr hl);refine wpAny_mono (k ea d oe od H' s7 hcl hdc (by unfold notCls;rw[hdt]) (λh q=>#[od,es,ep,q,hodd,hk1,hk2,hk3]) I7 r) (λf s8 z=>?_) λ_ _ z=>z.elim
 obtain⟨rfl,Y3,H3,I8,k8⟩:=z;exact aB (Sd I.ok I8) hN hi hl k8
end
structure Hk(K:PySem.W.Frag)(C n1 n2 n3:Addr):Prop where
 ga:GA K C
 hd:hasDictIn K C=true
 pl:findIn K (.ref C) "place"=some none
 ca:findIn K (.ref C) "__class__"=some (some (.builtin "object.__class__"))
 cg:specialIn K (.builtin "object.__class__") "__get__"=some (some (.builtin "getset_descriptor.__get__"))
 ct:takesIn K (.builtin "object.__class__")=some true
 mo:mroIn K C (.type "object")=some true
 ve:kitOne K (.ref C) (.type "ValueError")=some true
 no:kitAny K (.ref C) [.ref n1,.ref n2,.ref n3]=some false
section
variable{X:Cx}{C n1 n2 n3 ea d:Addr}{oe od:Obj}{bm:List Value}{ie ig:Nat}{en g:Str}
theorem Wb{A1:Oa}{Y:L2.St}{H:Hp}{s:Shared}(hcl:oe.cls= .ref C)(hdc:oe.dict=some d)(hnc:notCls oe=true)(I:Inv (hX X ea d oe od) A1 Y H s):InstAt s.heap ea oe C (some od):=
 #[(I.pin (ea,oe) mS).1,hcl,hnc,by rw[hdc];exact(I.pin (d,od) (mC mS)).1]
theorem T4(hc:∀h:Heap,X.K.In h->Dv h C bm)(k:Hk X.K C n1 n2 n3)(hcl:oe.cls= .ref C)(hdc:oe.dict=some d)(hnc:notCls oe=true):
 Bc (hX X ea d oe od) (.builtin "isinstance") (λxs H Q=>(∃y c b,xs=[.ref ea,y]/\(∀u,RelV y u->u=c)/\kitOne X.K (.ref C) c=some b/\Q (.bl b) H)\/∃t,xs=[.ref ea,.ref t]/\H t=some (.tup [.ref n1,.ref n2,.ref n3])/\Q (.bl false) H):=by
 intro A1 s Y H xs us Q I r h;have KX:KitX X.K (.ref ea) (.ref C) λh=>InstAt h ea oe C (some od):=Wn hc k.ga k.hd k.ca k.cg k.ct k.mo
 have J:=Wb hcl hdc hnc I;rcases h with⟨y,c,b,rfl,hu,ek,q⟩|⟨t,rfl,ht,q⟩
 .obtain⟨u,w',rfl,ru,rw'⟩:=vals2 r;cases ru;cases hu _ rw';exact kia_one KX I.Cn J ek (λz=>by cases z) λtk=>#[.bl b,H,I.tok tk,rfl,q]
 .obtain⟨u,w',rfl,ru,rw'⟩:=vals2 r;cases ru;cases rw';obtain⟨_,its,hv,⟨⟨oc,odd,oa,osl⟩,h1,h2,n,h3⟩⟩:=(show BW X.prog X.w H s.heap t (.tup [.ref n1,.ref n2,.ref n3])from I.Ao t _ ht);cases h2;cases h3;cases hv with|cons a1 hv=>cases hv with|cons a2 hv=>cases hv with|cons a3 hv=>
  cases hv;cases a1;cases a2;cases a3;exact PySem.W.kia_tup KX I.Cn J h1 k.no (λz=>by cases z) λtk=>#[.bl false,H,I.tok tk,rfl,q]
theorem Ro{q:Pos}(k:Hk X.K C n1 n2 n3)(hcl:oe.cls= .ref C)(hdc:oe.dict=some d)(hnc:notCls oe=true)(hns:∀h:Heap,h.get? d=some od->h.Ns1 d Y4)(hi:X.N[ie]? =some en)(hl:X.env.scope.names.lookup en=some .local)(hdb:ng en)(hcd:(en==("__classdict__":Str))=false):
 PE (hX X ea d oe od) (.Attribute (.Name en p) "place" q) (λY H Q=>Y[ie]? =some (some (.ref ea))/\Q .Az H):=by
 rintro A1 s Y H Q I ⟨h1,h2⟩
 refine Ox rfl (B2 ((G4 (X:=hX X ea d oe od) (pos:=p) hi (.inl hl) hdb hcd) A1 s Y H (λv H1=>v= .ref ea/\H1=H) I #[_,h1,rfl,rfl]) λu s1 ⟨x,H1,I1,rx,e1,e2⟩=>?_);subst e1 e2;cases rx;exact SI I1.Cn (I1.pin (ea,oe) mS).1 hcl hnc hdc (hns _ (I1.pin (d,od) (mC mS)).1) k.ga k.hd k.pl rfl rfl #[.Az,H1,I1.tok _,rfl,h2]
theorem PL{nw:Str}{a1 b1 b3 c2 d1:Pos}{c3:Nat}{k4:_}(hc:∀h:Heap,X.K.In h->Dv h C bm)(k:Hk X.K C n1 n2 n3)(hcl:oe.cls= .ref C)(hdc:oe.dict=some d)(hnc:notCls oe=true)(hns:∀h:Heap,h.get? d=some od->h.Ns1 d Y4)
 (hN:X.N.Nodup)(hi:X.N[ie]? =some en)(hl:X.env.scope.names.lookup en=some .local)(hdb:ng en)(hcd:(en==("__classdict__":Str))=false)
 (gi:X.N[ig]? =some g)(gl:X.env.scope.names.lookup g=some .local)(gdb:ng g)(gcd:(g==("__classdict__":Str))=false)(hne:ig≠ie)
 (is1:Gl X "isinstance")(is2:X.mg "isinstance"=none)(ve1:Gl X "ValueError")(ve2:X.mg "ValueError"=none)
 (w1:Gl X nw)(w2:X.mg nw=some (.ref C))(w3:ng nw)(x1:Gl X m1)(x2:X.mg m1=some (.ref n1))(x3:ng m1)
 (y1:Gl X m2)(y2:X.mg m2=some (.ref n2))(y3:ng m2)(z1:Gl X m3)(z2:X.mg m3=some (.ref n3))(z3:ng m3):
 Nf (hX X ea d oe od) [.Assign [.Name g q0] (.BoolOp .And [.Call (.Name "isinstance" a1) [.Name en a2,.Name nw a3] [] a4,.Call (.Name "isinstance" b1) [.Name en b2,.Name "ValueError" b3] [] b4,.Compare (.Attribute (.Name en c1) "place" c2) [.Is] [.Constant .none c3 c4] c5] q1) q2,
  .Assign [.Name g r0] (.BoolOp .And [.Name g r1,.UnaryOp .Not (.Call (.Name "isinstance" d1) [.Name en d2,.Tuple [.Name m1 e1,.Name m2 e2,.Name m3 e3] k4 e4] [] d3) d4] r2) r3]
  (λD Y H=>Y[ie]? =some (some (.ref ea))/\∀t,H t=none->D.nx (Y.set ig (some (.bl true))) (upd H t (.tup [.ref n1,.ref n2,.ref n3]))):=by
 have ve:∀{p:Pos},PE (hX X ea d oe od) (.Name en p) (EO ie):=G4 hi (.inl hl) hdb hcd;have vg:∀{p:Pos},PE (hX X ea d oe od) (.Name g p) (EO ig):=G4 gi (.inl gl) gdb gcd;have ci:=T4 (X:=X) (ea:=ea) (od:=od) hc k hcl hdc hnc;have i1:=Dm (p:=a1) (pos:=a4) ci is1 is2 rfl (AV (e:=.Name en a2) ve (AV (Ei (X:=hX X ea d oe od) (v:=.ref C) (pos:=a3) w1 w2 rfl w3) Cp));have i2:=Dm (p:=b1) (pos:=b4) ci is1 is2 rfl (AV (e:=.Name en b2) ve (AV (NQ (X:=hX X ea d oe od) (x:="ValueError") (v:=.ty "ValueError") (u:=.type "ValueError") (pos:=b3) ve1 ve2 rfl rfl) Cp));have i3:=NP (pos:=c5) (ZR (X:=hX X ea d oe od)) (Ro (ea:=ea) (p:=c1) (q:=c2) k hcl hdc hnc hns hi hl hdb hcd) (Mo (j:=c3) (pos:=c4)) (ZZ _);have i4:=Dm (p:=d1) (pos:=d3) ci is1 is2 rfl (AV (e:=.Name en d2) ve (AV (Rm (x1:=k4) (pos:=e4) (AV (Ei (X:=hX X ea d oe od) (v:=.ref n1) (pos:=e1) x1 x2 rfl x3) (AV (Ei (v:=.ref n2) (pos:=e2) y1 y2 rfl y3) (AV (Ei (v:=.ref n3) (pos:=e3) z1 z2 rfl z3) Cp)))) Cp));have s1:=EW (X:=hX X ea d oe od) (pos':=q0) (pos:=q2) hN gi (.inl gl) (JP (pos:=q1) i1 (JP i2 (Mn i3))) rfl (.inr gl);have s2:=EW (X:=hX X ea d oe od) (pos':=r0) (pos:=r3) hN gi (.inl gl) (JP (pos:=r2) (vg (p:=r1)) (Mn (Rp (pos:=d4) i4))) rfl (.inr gl);intro A1 s Y H D I ⟨h1,h2⟩;have hlen:ig<Y.length:=by rw[I.len];exact(List.getElem?_eq_some_iff.mp gi).1
 have h1':(Y.set ig (some (.bl true)))[ie]? =some (some (.ref ea)):=by rw[List.getElem?_set_ne hne];exact h1
 refine(Hw s1 (Hw s2 NK)) A1 s Y H D I ?_;refine#[_,h1,.inl #[_,_,true,rfl,λu z=>z,?_,true,rfl,?_]]
 .unfold kitOne;rw[iP (by simp)]
 refine#[_,h1,.inl #[_,_,true,rfl,λu z=>z,k.ve,true,rfl,h1,rfl,?_]];refine#[_,List.getElem?_set_self hlen,true,rfl,_,h1',(show(3:Nat)<=sizeLine by decide),λt ht=>.inr #[t,rfl,Ar,false,rfl,?_]];show D.nx ((Y.set ig (some (.bl true))).set ig (some (.bl true))) _;rw[set_set];exact h2 t ht
end
end Xc
namespace Iv
open PySem L2 PyProof.Rows
noncomputable def AI(X:Cx)(W:Wd):XP:=λx _ Y H'=>
 (∀A1 H s e s',Inv X A1 Y H s->Xc.Eb X.prog X.w X.stack H s (λcls _ H''=>cls= .ref (W.Br x)/\H''=H') e s'->X.xe e s')/\
 ∀A1 s1 s' e t d,Inv X A1 Y H' s1->s'.os=s1.os->s'.gens=s1.gens->(∀b o,s1.heap.get? b=some o->s'.heap.get? b=some o)->s1.heap.get? e=none->s'.heap.get? e=some (Xc.F6 (W.Br x) t (some d))->s'.heap.Ns1 d Xc.Y4->s1.heap.get? d=none->d≠e->X.xe (.ref e) s'
variable{W:Wd}{α β:Type}{H:Hp}
theorem XM{EX:XP}{rep:L2.St->Hp->Env->α->β->List Addr->Prop}{F:Env->Res α}{Y:L2.St}{Q:β->Hp->Prop}(h:tG W NX rep F Y H Q):tG W EX rep F Y H Q:=by
 obtain⟨U,os,hR,hn,hA⟩:=h;refine#[U,os,hR,hn,?_];cases e:F U with
 |A2=>rw[e]at hA;exact hA
 |ok a U'=>rw[e]at hA;exact hA
 |err x p U'=>rw[e]at hA;exact λH' os' r1 r2 r3=>(hA H' os' r1 r2 r3).elim
variable{A1:Oa}{s:Shared}
theorem Mp{X:Cx}{Y:L2.St}{s':Shared}(I:Inv X A1 Y H s)(h:Xc.Eb X.prog X.w X.stack H s (EE W (AI X W) Y) e s'):X.xe e s':=by
 obtain⟨ea,C,d,B,H',e1,e2,e3,e4,e5,e6,e7,e8,e9,x,p,e10,e11⟩:=h;exact e11.1 A1 H s e s' I #[ea,C,d,B,H',e1,e2,e3,e4,e5,e6,e7,e8,e9,e10,rfl]
def Bd:Expr->Bool
 |.Starred _ _=>false
 |.Set _ _ _=>false
 |.Slice _ _ _ _=>false
 |_=>true
theorem Ac(h:Bd e=true)(es:List Expr)(env:PySem.Env):starEach (e::es) env=(false,eval e env)::starEach es env:=by
 cases e<;>first|rfl|cases h
theorem Gj(h:Bd e=true)(op:CmpOp):behindInMarks op e=false:=by
 cases e<;>first|rfl|cases h
theorem Dh(h:Bo e=false)(tg:Option Expr)(l:Nat)(env:PySem.Env):swapsWith e tg l env=pure false:=by
 cases e<;>first|rfl|cases h
theorem Gd(h:Bd e=true)(env:PySem.Env)(x:Value):foldedSetIterable e env x=pure x:=by
 cases e<;>first|rfl|cases h
variable{W:Wd}{EX:XP}{Y:L2.St}{H:Hp}
theorem MY{F:Env->Res C}{Q:VK}(h:tG W EX (FW W) (λU=>(F U).bind λc U=>.ok (.AN c) U) Y H Q):tG W EX (rV W) F Y H Q:=by
 obtain⟨U,os,hR,hn,hA⟩:=h;refine#[U,os,hR,hn,?_];dsimp only at hA;cases e:F U with
 |A2=>rw[e]at hA;exact hA
 |err x p U'=>rw[e]at hA;exact hA
 |ok c U'=>rw[e]at hA;exact hA
theorem Ma{F:Env->Res Hd}{Q:Bool->Hp->Prop}(h:tG W EX rB (λU=>(F U).bind λh U=>Res.of ((h.cont U).bind Cz) U) Y H Q):tG W EX (FW W) F Y H λx H1=>R1 W x H1 Q:=by
 obtain⟨U,os,hR,hn,hA⟩:=h;dsimp only at hA;refine#[U,os,hR,hn,?_];unfold Ck;cases eF:F U with
 |A2=>rw[eF]at hA;exact hA
 |err x p U'=>rw[eF]at hA;exact hA
 |ok a U1=>
   rw[eF,Res.A5]at hA;intro u H1 o1 os1 rA hR1 hn1 fr1;cases ec:a.cont U1 with
   |none=>rw[ec]at hA;exact False.elim hA
   |some c=>
     rw[ec]at hA;have hA:Ck W EX (rB Y) H os Y (Res.of (Cz c) U1) Q:=hA;cases eb:Cz c with
     |none=>rw[eb]at hA;exact False.elim hA
     |some b=>
       rw[eb]at hA;refine#[c,b,FN hR1 rA ec,eb,hA b H1 [] os1 #[rfl,rfl] hR1 (nA hn1).2.1 (fr1.sub λa ha=>mR ha)]
variable{X:Cx}
theorem Ra(hK:W.K=X.K){a:Expr}{ta:TE}(ha:PE X a ta)(he:∀whole,isTrue a X.env whole=(do let v <-whole;standAt a.pos;holding [v] (truthy v))):PT X a (λY H Q=>ta Y H λx H1=>R1 W x H1 Q):=by
 intro A1 s Y H Q I h;exact isTrue_plain (B2 (ha A1 s Y H _ I h) λv s1 ⟨x,H1,I1,r1,q1⟩=>YW hK A1 s1 Y H1 x v Q I1 r1 q1) (he _)
structure Au(X:Cx)(W:Wd)(cf:CF)(mt:MT)(e:Expr)(t:T):Prop where
 v:PE X e (tG W (AI X W) (rV W) (ev cf mt t))
 h:PE X e (tG W (AI X W) (FW W) (BP t (ev cf mt t)))
 b:PT X e (tG W (AI X W) rB (tv cf mt t))
 x:t.calm=true->PE X e (tX W t)
 st:Bd e=true
 i:(B3 t).1.ok=true->∀tg,PI X tg e (Q9 W (AI X W) (B3 t).1 (Ae cf mt (B3 t).2))
 a:∀(i:Nat) (y:Str) (py spos:Pos),X.N.Nodup->X.N[i]? =some y->Loc X.env.scope y->(X.fn y=true\/X.env.scope.names.lookup y=some .local)->PS X (.Assign [.Name y py] e spos) (QD (tG W (AI X W) (rV W) (ev cf mt t)) (EH i))
 nc:Bo e=true->∃elt gs sc pos,e= .ListComp elt gs sc pos
inductive BI(X:Cx)(W:Wd)(cf:CF)(mt:MT):List Expr->List T->Prop where
 |nil:BI X W cf mt [] []
 |cons {e:Expr} {t:T} {es:List Expr} {ts:List T} (h:Au X W cf mt e t) (r:BI X W cf mt es ts):BI X W cf mt (e::es) (t::ts)
section
variable{cf:CF}{mt:MT}
theorem LC(t:T)(U:Env):Ae cf mt [t] U=(BP t (ev cf mt t) U).bind λh U=>.ok [h] U:=by
 rw[C4];cases BP t (ev cf mt t) U with
 |A2=>rfl
 |err x p U'=>rfl
 |ok h U'=>cases h<;>(rw[Res.A5,Res.A5];dsimp only;rw[CS];rfl)
theorem Er(t:T):Ae cf mt [t]=λU=>(BP t (ev cf mt t) U).bind λh U=>.ok [h] U:=funext λU=>LC t U
theorem Au.of(hK:W.K=X.K)(hw:W.w=X.w){e:Expr}{t:T}(ht:∀v U,BP t v U=(v U).bind λc U=>.ok (.AN c) U)(hb:∀U,tv cf mt t U=((ev cf mt t U).bind λc U=>.ok (Hd.AN c) U).bind λh U=>Res.of ((h.cont U).bind Cz) U)
 (hc:t.calm=false)(hi:B3 t=(.op,[t]))(v:PE X e (tG W (AI X W) (rV W) (ev cf mt t)))(he:∀whole,isTrue e X.env whole=(do let v <-whole;standAt e.pos;holding [v] (truthy v)))(st:Bd e=true)(nc:Bo e=false:=by rfl):Au X W cf mt e t:=by
 have h:PE X e (tG W (AI X W) (FW W) (BP t (ev cf mt t))):=Ah v λY H Q z=>MY (by
  rw[show BP t (ev cf mt t)=λU=>(ev cf mt t U).bind λc U=>.ok (.AN c) U from funext λU=>ht _ U]at z
  exact z)
 refine#[v,h,EV (Ra hK h he) λY H Q z=>Ma ?_,λz=>(by rw[hc]at z;cases z),st,λ_ tg=>?_,λi y py spos hN hi' hx hf=>EW hN hi' hx v (Dh nc _ _ _) hf,λz=>(by rw[nc]at z;cases z)]
 .rw[show(λU=>(BP t (ev cf mt t) U).bind λh U=>Res.of ((h.cont U).bind Cz) U)=tv cf mt t from funext λU=>by rw[hb,ht]];exact z
 .rw[hi];show PI X tg e (Q9 W (AI X W) .op (Ae cf mt [t]));rw[Er];exact NN hK hw h
theorem Au.ZV(hK:W.K=X.K)(hw:W.w=X.w){t:T}(ht:∀v U,BP t v U=(v U).bind λc U=>.ok (.AN c) U)
 (hc:t.calm=false)(hi:B3 t=(.op,[t]))(v:PE X e (tG W (AI X W) (rV W) (ev cf mt t)))(hb:PT X e (tG W (AI X W) rB (tv cf mt t)))(st:Bd e=true)(nc:Bo e=false:=by rfl):Au X W cf mt e t:=by
 have h:PE X e (tG W (AI X W) (FW W) (BP t (ev cf mt t))):=Ah v λY H Q z=>MY (by
  rw[show BP t (ev cf mt t)=λU=>(ev cf mt t U).bind λc U=>.ok (.AN c) U from funext λU=>ht _ U]at z
  exact z)
 refine#[v,h,hb,λz=>(by rw[hc]at z;cases z),st,λ_ tg=>?_,λi y py spos hN hi' hx hf=>EW hN hi' hx v (Dh nc _ _ _) hf,λz=>(by rw[nc]at z;cases z)]
 .rw[hi];show PI X tg e (Q9 W (AI X W) .op (Ae cf mt [t]));rw[Er];exact NN hK hw h
variable{α:Type}{H:Hp}
theorem Hh{β:Type}{rep:L2.St->Hp->Env->α->β->List Addr->Prop}{F:Env->Res α}(hF:∀U,F U= .A2){Y:L2.St}{Q:β->Hp->Prop}(h:tG W (AI X W) rep F Y H Q):False:=by
 obtain⟨U,os,hR,hn,hA⟩:=h;rw[hF]at hA;exact hA
theorem Dl{rep:L2.St->Hp->Env->α->V->List Addr->Prop}{F:Env->Res α}(hF:∀U,F U= .A2):PE X e (tG W (AI X W) rep F):=λ_ _ _ _ _ _ h=>(Hh hF h).elim
theorem L6{rep:L2.St->Hp->Env->α->Bool->List Addr->Prop}{F:Env->Res α}(hF:∀U,F U= .A2):PT X e (tG W (AI X W) rep F):=λ_ _ _ _ _ _ h=>(Hh hF h).elim
theorem Au.not(hK:W.K=X.K)(hw:W.w=X.w){t:T}(ht:∀v U,BP t v U=(v U).bind λc U=>.ok (.AN c) U)(hv:∀U,ev cf mt t U= .A2)(hb:∀U,tv cf mt t U= .A2)(hc:t.calm=false)(hi:B3 t=(.op,[t]))(st:Bd e=true)(nc:Bo e=false:=by rfl):Au X W cf mt e t:=
 Au.ZV hK hw ht hc hi (Dl hv) (L6 hb) st nc
def E9(t:TE):Prop:=∀Y H Q Q',t Y H Q->(∀v H',Q v H'->Q' v H')->t Y H Q'
theorem GV{EX:XP}{rep:L2.St->Hp->Env->Hd->V->List Addr->Prop}{F:Env->Res Hd}:E9 (tG W EX rep F):=λ_ _ _ _ h k=>Jz h k
theorem GU :E9 (tX W t):=λ_ _ _ _ ⟨v,h1,h2⟩ k=>#[v,h1,k _ _ h2]
def jX(X:Cx):List Expr->List TE->Prop
 |[],[]=>True
 |e::es,t::ts=>PE X e t/\Bd e=true/\jX X es ts/\E9 t
 |_,_=>False
def chain:List TE->TA
 |[]=>DJ
 |t::ts=>Bl t (chain ts)
theorem Hy:∀{es:List Expr} {ts:List TE},jX X es ts->PA X es (chain ts)
 |[],[],_=>Cp
 |e::es,t::ts,⟨h1,h2,h3,_⟩=>AV h1 (Hy h3) (Ac h2 es X.env)
 |[],_::_,h=>h.elim
 |_::_,[],h=>h.elim
theorem F8:∀{es:List Expr} {ts:List T},BI X W cf mt es ts->ts.all T.calm=true->∃tes,jX X es tes/\UL W ts=chain tes
 |_,_,.nil,_=>#[[],True.intro,rfl]
 | _,_,.cons (t:=t) (ts:=ts) h r,hc=>by
   rw[all_cons,bA]at hc;obtain⟨tes,h1,h2⟩:=F8 r hc.2;exact#[tX W t::tes,#[h.x hc.1,h.st,h1,GU],by show Bl (tX W t) (UL W ts)=Bl (tX W t) (chain tes);rw[h2]]
theorem Dn:∀{es:List Expr} {ts:List T},BI X W cf mt es ts->∃tes,jX X es tes/\GG W (AI X W) cf mt ts=chain tes
 |_,_,.nil=>#[[],True.intro,rfl]
 | _,_,.cons (t:=t) (ts:=ts) h r=>by
   by_cases hc:(t::ts).all T.calm=true
   .obtain⟨tes,h1,h2⟩:=F8 (.cons h r) hc;refine#[tes,h1,?_];unfold GG;rw[iP hc];exact h2
   .obtain⟨tes,h1,h2⟩:=Dn r;refine#[_::tes,#[h.h,h.st,h1,GV],?_];unfold GG;rw[iN hc,h2];rfl
variable{ts:List T}
theorem RB{es:List Expr}(h:BI X W cf mt es ts):PA X es (GG W (AI X W) cf mt ts):=by
 obtain⟨tes,h1,h2⟩:=Dn h;rw[h2];exact Hy h1
theorem DS{es:List Expr}(h:BI X W cf mt es ts):PA X es (tG W (AI X W) (Bt W) (Ae cf mt ts)):=Mq (RB h) λY H Q z=>Mt z
theorem BI.plain:∀{es:List Expr} {ts:List T},BI X W cf mt es ts->∀e∈es,Bd e=true
 |_,_,.nil,e,he=>by cases he
 | _,_,.cons h r,e,he=>by
   rcases mK he with z|z
   .rw[z];exact h.st
   .exact r.plain e z
theorem Hl:∀{es:List Expr},(∀e∈es,Bd e=true)->∀env,starEach es env=es.map λe=>(false,eval e env)
 |[],_,env=>rfl
 |e::es,h,env=>by rw[Ac (h e mS),Hl (λe he=>h e (mC he)) env];rfl
theorem B8{o:O}(Ao:o.ok=true){Y:L2.St}{Q:VK}(h:tG W (AI X W) (rV W) (ev cf mt (.A0 o ts)) Y H Q):GG W (AI X W) cf mt ts Y H λvs H1=>AU W (Ax o) vs H1 Q:=by
 refine Mt (XX ?_)
 rw[show ev cf mt (.A0 o ts)=λU=>(Ae cf mt ts U).bind λhs U=>Res.of ((Ag U hs).bind (Ax o)) U from funext λU=>by
   show(den cf mt (.A0 o ts)).v U=_
   show(if o.ok=true then _ else _)=_
   rw[iP Ao]]at h
 exact h
theorem Hx{o:O}(Ao:o.ok=false)(U:Env):ev cf mt (.A0 o ts) U= .A2:=by
 show(den cf mt (.A0 o ts)).v U=_
 show(if o.ok=true then _ else _)=_;rw[Ao];rfl
theorem B7(U:Env):tv cf mt (.A0 o ts) U=((ev cf mt (.A0 o ts) U).bind λc U=>.ok (Hd.AN c) U).bind λh U=>Res.of ((h.cont U).bind Cz) U:=by
 show(den cf mt (.A0 o ts)).b U=(((den cf mt (.A0 o ts)).v U).bind _).bind _;rfl
theorem CK{g:List C->Option C}{g2:C->C->Option C}(hg:∀a b,g [a,b]=g2 a b){x y:V}{Q:VK}(h:AU W g [x,y] H Q):Cc W g2 x y H Q:=by
 obtain⟨cs,c,h1,h2,h3⟩:=h;have:=h1.length;obtain⟨a,b,rfl⟩:=gw this.symm;obtain⟨r1,r2⟩:=NB h1;exact#[a,b,c,r1,r2,by rw[<-hg];exact h2,h3]
theorem CL{g:List C->Option C}{g1:C->Option C}(hg:∀a,g [a]=g1 a){x:V}{Q:VK}(h:AU W g [x] H Q):fo W g1 x H Q:=by
 obtain⟨cs,c,h1,h2,h3⟩:=h;have:=h1.length;obtain⟨a,rfl⟩:=VV this.symm;obtain⟨v,e,r1⟩:=CA h1;cases e;exact#[a,c,r1,by rw[<-hg];exact h2,h3]
theorem Fi(h1:Au X W cf mt a x)(h2:Au X W cf mt b y):∃ta tb,PE X a ta/\PE X b tb/\GG W (AI X W) cf mt [x,y]=Bl ta (Bl tb DJ)/\E9 ta/\E9 tb:=by
 obtain⟨tes,h3,h4⟩:=Dn (.cons h1 (.cons h2 .nil))
 match tes,h3 with
 |[ta,tb],⟨q1,_,⟨q2,_,_,m2⟩,m1⟩=>exact#[ta,tb,q1,q2,h4,m1,m2]
theorem Hz(h1:Au X W cf mt a x):∃ta,PE X a ta/\GG W (AI X W) cf mt [x]=Bl ta DJ/\E9 ta:=by
 obtain⟨tes,h3,h4⟩:=Dn (.cons h1 .nil)
 match tes,h3 with
 |[ta],⟨q1,_,_,m⟩=>exact#[ta,q1,h4,m]
theorem OM(h1:Au X W cf mt a x)(h2:Au X W cf mt b y)(h3:Au X W cf mt c z):∃ta tb tc,PE X a ta/\PE X b tb/\PE X c tc/\GG W (AI X W) cf mt [x,y,z]=Bl ta (Bl tb (Bl tc DJ))/\E9 ta/\E9 tb/\E9 tc:=by
 obtain⟨tes,h3,h4⟩:=Dn (.cons h1 (.cons h2 (.cons h3 .nil)))
 match tes,h3 with
 |[ta,tb,tc],⟨q1,_,⟨q2,_,⟨q3,_,_,m3⟩,m2⟩,m1⟩=>exact#[ta,tb,tc,q1,q2,q3,h4,m1,m2,m3]
variable{r':R2}
theorem Cb.imp{f:Value->Value->Sem Value}{r:R2}(h:Cb X f r)(k:∀x y H Q,r' x y H Q->r x y H Q):Cb X f r':=λA1 s Y H x y v u Q I rx ry z=>h A1 s Y H x y v u Q I rx ry (k _ _ _ _ z)
theorem YH.imp{f:Value->Sem Value}{r r':V->Hp->VK->Prop}(h:YH X f r)(k:∀x H Q,r' x H Q->r x H Q):YH X f r':=λA1 s Y H x v Q I rx z=>h A1 s Y H x v Q I rx (k _ _ _ z)
theorem Bc.imp{r r':List V->Hp->VK->Prop}(h:Bc X f r)(k:∀x H Q,r' x H Q->r x H Q):Bc X f r':=λA1 s Y H xs us Q I r z=>h A1 s Y H xs us Q I r (k _ _ _ z)
theorem XE.imp{r:R2}(h:XE X r)(k:∀x y H Q,r' x y H Q->r x y H Q):XE X r':=λvalue slice A1 s Y H x y v u Q I rx ry z hs=>h value slice A1 s Y H x y v u Q I rx ry (k _ _ _ _ z) hs
theorem AF(v:Env->Res C)(U:Env):BP (.A0 o ts) v U=(v U).bind λc U=>.ok (.AN c) U:=rfl
theorem Ee(hK:W.K=X.K)(hw:W.w=X.w){op:Operator}{o:O}(Ao:o.ok=true){g:C->C->Option C}(ho:Cb X (binaryOp op) (Cc W g))(hg:∀a b,Ax o [a,b]=g a b){a b:Expr}{x y:T}{pos:Pos}(hi:B3 (.A0 o [x,y])=(.op,[.A0 o [x,y]]))
 (h1:Au X W cf mt a x)(h2:Au X W cf mt b y):Au X W cf mt (.BinOp a op b pos) (.A0 o [x,y]):=by
 obtain⟨ta,tb,q1,q2,q3,_,_⟩:=Fi h1 h2;refine Au.of hK hw AF B7 rfl hi (Ah (fJ (Cb.imp ho λx y H Q z=>CK hg z) q1 q2) λY H Q z=>?_) (λ_=>rfl) rfl;have z:=B8 Ao z;rw[q3]at z;exact z
theorem US(hK:W.K=X.K)(hw:W.w=X.w){pos:Pos}(h1:Au X W cf mt a x):Au X W cf mt (.UnaryOp .USub a pos) (.A0 .neg [x]):=by
 obtain⟨ta,q1,q3,_⟩:=Hz h1;refine Au.of hK hw AF B7 rfl rfl (Ah (fH (YH.imp dR λx H Q z=>CL (W:=W) (g:=Ax .neg) (g1:=F3 ah) (λ_=>rfl) z) q1) λY H Q z=>?_) (λ_=>rfl) rfl;have z:=B8 (o:=.neg) rfl z;rw[q3]at z;exact z
theorem IS{o:O}(Ao:o.ok=true)(hbl:∀cs c,Ax o cs=some c->∃b,c= .p (.bl b)){Y:L2.St}{Q:Bool->Hp->Prop}(h:tG W (AI X W) rB (tv cf mt (.A0 o ts)) Y H Q):
 GG W (AI X W) cf mt ts Y H λvs H1=>AU W (Ax o) vs H1 λx H2=>∃k,x= .bl k/\Q k H2:=by
 refine B8 Ao ?_;obtain⟨U,os,hR,hn,hA⟩:=h;refine#[U,os,hR,hn,?_];rw[B7]at hA
 have hv :∀c U',ev cf mt (.A0 o ts) U= .ok c U'->∃b,c= .p (.bl b):=by
  intro c U' e;have e:(den cf mt (.A0 o ts)).v U= .ok c U':=e;have e:(if o.ok=true then(Ae cf mt ts U).bind λhs U=>Res.of ((Ag U hs).bind (Ax o)) U else .A2)= .ok c U':=e;rw[iP Ao]at e;cases e1:Ae cf mt ts U with
  |A2=>rw[e1]at e;cases e
  |err x p U2=>rw[e1]at e;cases e
  |ok hs U2=>
    rw[e1,Res.A5]at e;cases e2:Ag U2 hs with
    |none=>rw[e2]at e;cases e
    |some cs=>
      rw[e2]at e;have e:Res.of (Ax o cs) U2= .ok c U':=e;cases e3:Ax o cs with
      |none=>rw[e3]at e;cases e
      |some d=>
        rw[e3]at e;cases e;exact hbl cs _ e3
 show Ck W (AI X W) (rV W Y) H os Y (ev cf mt (.A0 o ts) U) _;cases e:ev cf mt (.A0 o ts) U with
 |A2=>rw[e]at hA;exact hA
 |err x p U'=>rw[e]at hA;exact hA
 |ok c U'=>
   rw[e]at hA;obtain⟨b,rfl⟩:=hv c U' e;intro v H' o1 os' r1 r2 r3 r4;have r1:Ba W H' (.p (.bl b)) v o1:=r1;obtain⟨r5,rfl⟩:=r1;refine#[b,BB.mp r5,?_];exact hA b H' [] os' #[rfl,rfl] r2 r3 r4
theorem UZ(hK:W.K=X.K)(hw:W.w=X.w){op:CmpOp}{o:O}(Ao:o.ok=true)(ho:Cb X (compareOp op) (Cc W (CV o)))(hg:∀a b,Ax o [a,b]=CV o a b)(hbl:∀cs c,Ax o cs=some c->∃b,c= .p (.bl b)){a b:Expr}{x y:T}{pos:Pos}
 (hi:B3 (.A0 o [x,y])=(.op,[.A0 o [x,y]]))(h1:Au X W cf mt a x)(h2:Au X W cf mt b y):Au X W cf mt (.Compare a [op] [b] pos) (.A0 o [x,y]):=by
 obtain⟨ta,tb,q1,q2,q3,_,_⟩:=Fi h1 h2;have ho':=Cb.imp ho λx y H Q z=>CK hg z
 refine Au.ZV hK hw AF rfl hi (Ah (NP ho' q1 q2 (Gj h2.st op)) λY H Q z=>?_) (EV (Vq ho' q1 q2 (Gj h2.st op)) λY H Q z=>?_) rfl
 .have z:=B8 Ao z;rw[q3]at z;exact z
 .have z:=IS Ao hbl z;rw[q3]at z;exact z
end
variable{α β γ δ:Type}
theorem Bz{rep:L2.St->Hp->Env->α->β->List Addr->Prop}{rep':L2.St->Hp->Env->γ->δ->List Addr->Prop}{F:Env->Res α}{G:α->Env->Res γ}{Q:δ->Hp->Prop}{K:β->Hp->Prop}
 (h:tG W EX rep' (λU=>(F U).bind G) Y H Q)(k:∀a U1 b H1 o1 os1,rep Y H1 U1 a b o1->A6 W H1 U1 Y os1->(o1++os1).Nodup->Ck W EX (rep' Y) H1 (o1++os1) Y (G a U1) Q->AS H H1->(∃U0,F U0= .ok a U1)->K b H1):tG W EX rep F Y H K:=by
 obtain⟨U,os,hR,hn,hA⟩:=h;dsimp only at hA;refine#[U,os,hR,hn,?_];unfold Ck;cases eF:F U with
 |A2=>rw[eF]at hA;exact hA
 |err x p U'=>rw[eF]at hA;exact hA
 |ok a U1=>
   rw[eF,Res.A5]at hA;exact λb H1 o1 os1 h1 h2 h3 h4=>k a U1 b H1 o1 os1 h1 h2 h3 (Ck.shift hA h4) (h4.but.keep hR.own) #[U,eF]
theorem DI.same{H':Hp}(s:BV H H')(h:DI W H c v):DI W H' c v:=by
 have k:=AS.of s;cases c with
 |obj c fs=>obtain⟨a,dx,vs,e,h1⟩:=h;exact#[a,dx,vs,e,s _ _ h1]
 |b x=>
   cases x with
   |p x=>exact AH.mono k h
   |ro ps=>obtain⟨a,vs,e,h1,h2⟩:=h;exact#[a,vs,e,h1.mono k,h2.mono k]
   |lst ps=>obtain⟨a,vs,e,h1,h2⟩:=h;exact#[a,vs,e,s _ _ h1,h2.mono k]
section
variable{cf:CF}{mt:MT}
theorem PY(hp:FU p=true)(h1:Au X W cf mt a x)(h2:Au X W cf mt b y):∃ta tb,PE X a ta/\PE X b tb/\GG W (AI X W) cf mt [x,y,.An p]=Bl ta (Bl tb (Bl (tX W (.An p)) DJ))/\E9 ta/\E9 tb:=by
 have hq:(T.An p).calm=true:=hp
 have e1:GG W (AI X W) cf mt [.An p]=Bl (tX W (.An p)) DJ:=by
  unfold GG;rw[iP (by simp[hq])];rfl
 by_cases c2:y.calm=true
 .have e2:GG W (AI X W) cf mt [y,.An p]=Bl (tX W y) (Bl (tX W (.An p)) DJ):=by
   unfold GG;rw[iP (by simp[hq,c2])];rfl
  by_cases c1:x.calm=true
  .refine#[tX W x,tX W y,h1.x c1,h2.x c2,?_,GU,GU];unfold GG;rw[iP (by simp[hq,c2,c1])];rfl
  .refine#[_,tX W y,h1.h,h2.x c2,?_,GV,GU];unfold GG;rw[iN (by simp[c1]),e2]
 .have e2:GG W (AI X W) cf mt [y,.An p]=Bl (tG W (AI X W) (FW W) (BP y (ev cf mt y))) (Bl (tX W (.An p)) DJ):=by
   conv=>lhs;unfold GG
   rw[iN (by simp[c2]),e1]
  refine#[_,_,h1.h,h2.h,?_,GV,GV]
  conv=>lhs;unfold GG
  rw[iN (by simp[c2]),e2]
variable{H:Hp}
theorem LG{Y:L2.St}{x y:V}{Q:VK}(h:tX W (.An p) Y H λw H3=>AU W (Ax (.chain o1 o2)) [x,y,w] H3 Q):
 Cc W (CV o1) x y H λz H3=>∃k,z= .bl k/\(if k=true then tX W (.An p) Y H3 λw H4=>Cc W (CV o2) y w H4 Q else Q (.bl false) H3):=by
 obtain⟨w,hw,cs,c,r1,r2,q⟩:=h;obtain⟨a,b,d,rfl⟩:=VU r1.length.symm;obtain⟨ra,rb,rd⟩:=G2 r1;have r2:C5 o1 o2 a b d=some c:=r2;unfold C5 at r2;obtain⟨k,e1,e2⟩:=oB r2;refine#[a,b,.p (.bl k),ra,rb,by unfold CV;rw[e1];rfl,λv H' o s r ho hf=>#[k,?_,?_]]
 .exact BB.mp r.1
 .cases k with
  |true=>
    rw[iP rfl]at e2 ⊢;refine#[w,#[hw.1,AH.mono (AS.of s) hw.2],b,d,c,rb.same s,rd.same s,by unfold CV;exact e2,λv' H2 o' s' r' ho' hf'=>?_];exact q v' H2 o' (s.trans s') r' ho' (λa ha=>BV.free s (hf' a ha))
  |false=>
    rw[iN Bool.false_ne_true]at e2 ⊢;cases e2;exact q (.bl false) H' [] s #[BB.mpr rfl,rfl] .nil (λa ha=>by cases ha)
theorem O3{b:Expr}(h:Bd c=true)(o1 o2:CmpOp):lastMarks [o1,o2] [b,c]=false:=Gj h o2
theorem OR(hK:W.K=X.K)(hw:W.w=X.w){op1 op2:CmpOp}(Ao:(O.chain o1 o2).ok=true)(r1:Cb X (compareOp op1) (Cc W (CV o1)))(r2:Cb X (compareOp op2) (Cc W (CV o2)))(hp:FU p=true){pos:Pos}
 (h1:Au X W cf mt a x)(h2:Au X W cf mt b y)(h3:Au X W cf mt c (.An p)):Au X W cf mt (.Compare a [op1,op2] [b,c] pos) (.A0 (.chain o1 o2) [x,y,.An p]):=by
 obtain⟨ta,tb,q1,q2,q3,m1,m2⟩:=PY hp h1 h2
 have hbl:∀cs c,Ax (.chain o1 o2) cs=some c->∃b,c= .p (.bl b):=by
  intro cs c e
  obtain⟨a,b,d,e⟩:∃a b d,C5 o1 o2 a b d=some c:=by
   rcases cs with _|⟨a,_|⟨b,_|⟨d,_|⟨f,r⟩⟩⟩⟩
   .exact absurd (show(none:Option C)=some c from e) nofun
   .exact absurd (show(none:Option C)=some c from e) nofun
   .exact absurd (show(none:Option C)=some c from e) nofun
   .exact#[a,b,d,e]
   .exact absurd (show(none:Option C)=some c from e) nofun
  unfold C5 at e;obtain⟨k,e1,e2⟩:=oB e;cases k with
  |true=>
    rw[iP rfl]at e2;obtain⟨k2,_,e3⟩:=oM e2;exact#[k2,e3.symm]
  |false=>
    rw[iN Bool.false_ne_true]at e2;cases e2;exact#[false,rfl]
 have h3x:=h3.x hp;refine Au.ZV hK hw AF rfl rfl (Ah (Rw r1 r2 q1 q2 h3x (O3 h3.st op1 op2)) λY H Q z=>?_) (EV (Rb r1 r2 q1 q2 h3x (O3 h3.st op1 op2)) λY H Q z=>?_) rfl
 .have z:=B8 Ao z;rw[q3]at z;exact m1 _ _ _ _ z λu H1 z=>m2 _ _ _ _ z λw H2 z=>LG z
 .have z:=IS Ao hbl z;rw[q3]at z;exact m1 _ _ _ _ z λu H1 z=>m2 _ _ _ _ z λw H2 z=>LG z
theorem UW(hK:W.K=X.K)(hw:W.w=X.w)(hu:X.A.units+200<cLine){pos:Pos}(hs:Ks b)(h1:Au X W cf mt a x)(h2:Au X W cf mt b y):Au X W cf mt (.Subscript a b pos) (.A0 .idx [x,y]):=by
 obtain⟨ta,tb,q1,q2,q3,_,_⟩:=Fi h1 h2;refine Au.of hK hw AF B7 rfl rfl (Ah (fK (XE.imp (gD hK (g:=CP)) λx y H Q z=>CK (W:=W) (g:=Ax .idx) (g2:=CP) (λ_ _=>rfl) z) q1 q2 hs) λY H Q z=>?_) (λ_=>rfl) rfl;have z:=B8 (o:=.idx) rfl z;rw[q3]at z;exact z
abbrev TV:=L2.St->Hp->(Option V->Hp->Prop)->Prop
def nD:Option V->Value->Prop
 |none,u=>u= .none
 |some v,u=>RelV v u
def kX:Option V->Option Int->Prop
 |none,none=>True
 |some v,some i=>v= .int i
 |_,_=>False
def PV(X:Cx)(e:Option Expr)(t:TV):Prop:=∀(A1:Oa) (s:Shared) (Y:L2.St) (H:Hp) (Q:Option V->Hp->Prop),Inv X A1 Y H s->t Y H Q->
    (X|||(evalPart e X.env)) (λu s'=>∃o H',Inv X A1 Y H' s'/\nD o u/\Q o H') X.xe s
def YT:TV:=λ_ H Q=>Q none H
def YS(t:TE):TV:=λY H Q=>t Y H λv H1=>Q (some v) H1
theorem GR:PV X none YT:=by
 intro A1 s Y H Q I h;rw[evalPart_none];exact wP #[none,H,I,rfl,h]
variable{te:TE}
theorem GQ(h:PE X e te):PV X (some e) (YS te):=by
 intro A1 s Y H Q I hw;rw[evalPart_some];exact B2 (h A1 s Y H _ I hw) λu s1 ⟨x,H1,I1,r1,q1⟩=>#[some x,H1,I1,r1,q1]
theorem XZ{o:Option V}{i:Option Int}(h:kX o i)(r:nD o u):IsPart u i:=by
 cases o with
 |none=>
   cases i with
   |none=>rw[show u= .none from r];exact .none
   |some i=>exact h.elim
 |some v=>
   cases i with
   |none=>exact h.elim
   |some i=>
     have h:v= .int i:=h;subst h;obtain⟨t,rfl⟩:=r;exact .int i t
theorem JO{r:V->Option Int->Option Int->Hp->VK->Prop}{lo hi:Option Expr}{tl th:TV}{pos:Pos}(hr:jW X r)(he:PE X e te)(hl:PV X lo tl)(hu:PV X hi th):
 PE X (.Subscript e (.Slice lo hi none p2) pos) (λY H Q=>te Y H λx H1=>tl Y H1 λl H2=>th Y H2 λu H3=>∃i j,kX l i/\kX u j/\r x i j H3 Q):=by
 intro A1 s Y H Q I h;refine Subscript_ (B2 (he A1 s Y H _ I h) λv s1 ⟨x,H1,I1,r1,q1⟩=>?_);refine wpAny_Slice (B2 (hl A1 s1 Y H1 _ I1 q1) λvl s2 ⟨l,H2,I2,pl,q2⟩=>B2 (hu A1 s2 Y H2 _ I2 q2) λvu s3 ⟨u,H3,I3,pu,i,j,g1,g2,q3⟩=>?_);rw[evalPart_none];refine wP ?_;have I4:Inv X A1 Y H3 {s3 with heap:=s3.heap.push {cls:=.type "slice",data:=.fields [vl,vu,.none].toArray}}:=I3.kept (t':=s3.toks) λb ob q=>gP q
 obtain⟨T,id,hT,ht,hg⟩:=hr A1 {s3 with heap:=s3.heap.push {cls:=.type "slice",data:=.fields [vl,vu,.none].toArray}} Y H3 x v vl vu i j s3.heap.objs.size Q I4 r1 (Heap.IsSliceOf.new ..) (XZ g1 pl) (XZ g2 pu) q3;show (X|||(subscriptTail e (.Slice lo hi none p2) v (.ref s3.heap.objs.size))) (EP X A1 Y Q) X.xe {s3 with heap:=s3.heap.push {cls:=.type "slice",data:=.fields [vl,vu,.none].toArray}};exact tail_any (ops:=[.ref s3.heap.objs.size,v]) ht hT hg (by with_unfolding_all rfl)
theorem GS{i:Int}(h:EF d=some i)(r:DI W H d u):u= .int i:=by
 unfold EF at h;split at h
 .cases h;exact Ay r
 .cases h
theorem QP(hK:W.K=X.K)(hw:W.w=X.w){pos:Pos}(h1:Au X W cf mt a x):Au X W cf mt (.Subscript a (.Slice none none none p2) pos) (.A0 (.Cm false false) [x]):=by
 obtain⟨ta,q1,q3,m1⟩:=Hz h1;refine Au.of hK hw AF B7 rfl rfl (Ah (JO (Nz hK) q1 GR GR) λY H Q z=>?_) (λ_=>rfl) rfl;have z:=B8 (o:=.Cm false false) rfl z;rw[q3]at z;refine m1 _ _ _ _ z λu H1 z=>?_
 obtain⟨a,c,g1,g2,g3⟩:=CL (g:=Ax (.Cm false false)) (g1:=λa=>CI a none none) (λ_=>rfl) z;exact#[none,none,True.intro,True.intro,a,c,g1,g2,g3]
theorem QO(hK:W.K=X.K)(hw:W.w=X.w){pos:Pos}(h1:Au X W cf mt a x)(h2:Au X W cf mt b y):Au X W cf mt (.Subscript a (.Slice (some b) none none p2) pos) (.A0 (.Cm true false) [x,y]):=by
 obtain⟨ta,tb,q1,q2,q3,m1,m2⟩:=Fi h1 h2;refine Au.of hK hw AF B7 rfl rfl (Ah (JO (Nz hK) q1 (GQ q2) GR) λY H Q z=>?_) (λ_=>rfl) rfl;have z:=B8 (o:=.Cm true false) rfl z;rw[q3]at z;refine m1 _ _ _ _ z λu H1 z=>m2 _ _ _ _ z λw H2 z=>?_
 obtain⟨a,b,c,g1,g2,g3,g4⟩:=CK (g:=Ax (.Cm true false)) (g2:=λa i=>(EF i).bind λi=>CI a (some i) none) (λ_ _=>rfl) z;obtain⟨i,e1,e2⟩:=oB g3;exact#[some i,none,GS e1 g2,True.intro,a,c,g1,e2,g4]
theorem QN(hK:W.K=X.K)(hw:W.w=X.w){pos:Pos}(h1:Au X W cf mt a x)(h2:Au X W cf mt b y):Au X W cf mt (.Subscript a (.Slice none (some b) none p2) pos) (.A0 (.Cm false true) [x,y]):=by
 obtain⟨ta,tb,q1,q2,q3,m1,m2⟩:=Fi h1 h2;refine Au.of hK hw AF B7 rfl rfl (Ah (JO (Nz hK) q1 GR (GQ q2)) λY H Q z=>?_) (λ_=>rfl) rfl;have z:=B8 (o:=.Cm false true) rfl z;rw[q3]at z;refine m1 _ _ _ _ z λu H1 z=>m2 _ _ _ _ z λw H2 z=>?_
 obtain⟨a,b,c,g1,g2,g3,g4⟩:=CK (g:=Ax (.Cm false true)) (g2:=λa i=>(EF i).bind λi=>CI a none (some i)) (λ_ _=>rfl) z;obtain⟨i,e1,e2⟩:=oB g3;exact#[none,some i,True.intro,GS e1 g2,a,c,g1,e2,g4]
theorem QM(hK:W.K=X.K)(hw:W.w=X.w){pos:Pos}(h1:Au X W cf mt a x)(h2:Au X W cf mt b y)(h3:Au X W cf mt d z):Au X W cf mt (.Subscript a (.Slice (some b) (some d) none p2) pos) (.A0 (.Cm true true) [x,y,z]):=by
 obtain⟨ta,tb,tc,q1,q2,q3,q4,m1,m2,m3⟩:=OM h1 h2 h3;refine Au.of hK hw AF B7 rfl rfl (Ah (JO (Nz hK) q1 (GQ q2) (GQ q3)) λY H Q z=>?_) (λ_=>rfl) rfl;have z:=B8 (o:=.Cm true true) rfl z;rw[q4]at z;refine m1 _ _ _ _ z λu H1 z=>m2 _ _ _ _ z λw H2 z=>m3 _ _ _ _ z λt H3 z=>?_
 obtain⟨cs,c,g1,g2,g4⟩:=z;obtain⟨a,b,d,rfl⟩:=VU g1.length.symm;obtain⟨ra,rb,rd⟩:=G2 g1;have g2:((EF b).bind λi=>(EF d).bind λj=>CI a (some i) (some j))=some c:=g2;obtain⟨i,e1,e2⟩:=oB g2;obtain⟨j,e3,e4⟩:=oB e2;exact#[some i,some j,GS e1 rb,GS e3 rd,a,c,ra,e4,g4]
end
section
variable{cf:CF}{mt:MT}
noncomputable def C7(c:C)(r:Env->Res C)(U:Env):Res C:=match c with
    |.p (.bl true)=>r U
    |.p (.bl false)=>.ok (.p (.bl false)) U
    |_=>.A2
noncomputable def ZM(c:C)(r:Env->Res C)(U:Env):Res C:=match c with
    |.p (.bl true)=>.ok (.p (.bl true)) U
    |.p (.bl false)=>r U
    |_=>.A2
theorem bh(a b:T):ev cf mt (.and a b)=λU=>(ev cf mt a U).bind λc U=>C7 c (ev cf mt b) U:=funext λU=>by
 show(den cf mt (.and a b)).v U=_;rfl
theorem YR(a b:T):tv cf mt (.and a b)=λU=>(tv cf mt a U).bind λc U=>if c then tv cf mt b U else .ok false U:=funext λU=>by
 show(den cf mt (.and a b)).b U=_
 rfl
theorem gZ(a b:T):ev cf mt (.or a b)=λU=>(ev cf mt a U).bind λc U=>ZM c (ev cf mt b) U:=funext λU=>by
 show(den cf mt (.or a b)).v U=_;rfl
theorem dU(a b:T):tv cf mt (.or a b)=λU=>(tv cf mt a U).bind λc U=>if c then .ok true U else tv cf mt b U:=funext λU=>by
 show(den cf mt (.or a b)).b U=_
 rfl
variable{H:Hp}
theorem dD{c:C}{b:Bool}(r:Ba W H (.p (.bl b)) v o):v= .bl b/\o=[]:=#[BB.mp r.1,r.2]
theorem Nc{os:List Addr}{Y:L2.St}{b:Bool}{Q:VK}(hR:A6 W H U Y os)(hn:os.Nodup)(h:Ck W (AI X W) (rV W Y) H os Y (.ok (.p (.bl b)) U) Q):Q (.bl b) H:=
 h (.bl b) H [] os #[BB.mpr rfl,rfl] hR hn (AY.refl _ _)
theorem iR{Y:L2.St}{Q:VK}(h:tG W (AI X W) (rV W) (ev cf mt (.and a b)) Y H Q):XO (tG W (AI X W) (rV W) (ev cf mt a)) (tG W (AI X W) (rV W) (ev cf mt b)) Y H Q:=by
 rw[bh]at h;refine Bz h λc U1 v H1 o1 os1 r1 r2 r3 r4 kp ef=>?_
 unfold C7 at r4;split at r4
 .obtain⟨rfl,rfl⟩:=dD (c:=.p (.bl true)) r1;exact#[true,rfl,W8 #[U1,os1,r2,r3,r4]]
 .obtain⟨rfl,rfl⟩:=dD (c:=.p (.bl false)) r1;exact#[false,rfl,W9 (Nc r2 r3 r4)]
 .exact False.elim r4
theorem kZ{Y:L2.St}{Q:VK}(h:tG W (AI X W) (rV W) (ev cf mt (.or a b)) Y H Q):eo (tG W (AI X W) (rV W) (ev cf mt a)) (tG W (AI X W) (rV W) (ev cf mt b)) Y H Q:=by
 rw[gZ]at h;refine Bz h λc U1 v H1 o1 os1 r1 r2 r3 r4 kp ef=>?_
 unfold ZM at r4;split at r4
 .obtain⟨rfl,rfl⟩:=dD (c:=.p (.bl true)) r1;exact#[true,rfl,W8 (Nc r2 r3 r4)]
 .obtain⟨rfl,rfl⟩:=dD (c:=.p (.bl false)) r1;exact#[false,rfl,W9 #[U1,os1,r2,r3,r4]]
 .exact False.elim r4
theorem iS{Y:L2.St}{Q:Bool->Hp->Prop}(h:tG W (AI X W) rB (tv cf mt (.and a b)) Y H Q):eI (tG W (AI X W) rB (tv cf mt a)) (tG W (AI X W) rB (tv cf mt b)) Y H Q:=by
 rw[YR]at h;refine Bz h λc U1 v H1 o1 os1 r1 r2 r3 r4 kp ef=>?_
 obtain⟨rfl,rfl⟩:=r1;cases c with
 |true=>exact W8 #[U1,os1,r2,r3,r4]
 |false=>exact W9 (r4 false H1 [] os1 #[rfl,rfl] r2 r3 (AY.refl _ _))
theorem l5{Y:L2.St}{Q:Bool->Hp->Prop}(h:tG W (AI X W) rB (tv cf mt (.or a b)) Y H Q):nk (tG W (AI X W) rB (tv cf mt a)) (tG W (AI X W) rB (tv cf mt b)) Y H Q:=by
 rw[dU]at h;refine Bz h λc U1 v H1 o1 os1 r1 r2 r3 r4 kp ef=>?_
 obtain⟨rfl,rfl⟩:=r1;cases c with
 |true=>exact W8 (r4 true H1 [] os1 #[rfl,rfl] r2 r3 (AY.refl _ _))
 |false=>exact W9 #[U1,os1,r2,r3,r4]
structure Kr(X:Cx)(W:Wd)(cf:CF)(mt:MT)(op:PySem.BoolOp)(es:List Expr)(t:T):Prop where
 v:∀pos,PE X (.BoolOp op es pos) (tG W (AI X W) (rV W) (ev cf mt t))
 w:∀pos,PW X (.BoolOp op es pos) (tG W (AI X W) rB (tv cf mt t))
theorem Kr.one{op:PySem.BoolOp}(h:Au X W cf mt e t):Kr X W cf mt op [e] t:=
 #[λpos=>Mn h.v,λpos=>by cases op with|And=>exact Vp h.b|Or=>exact Zx h.b]
variable{e':Expr}
theorem Kr.and{es:List Expr}(h:Au X W cf mt e t)(r:Kr X W cf mt .And (e'::es) u):Kr X W cf mt .And (e::e'::es) (.and t u):=
 #[λpos=>Ah (JP h.v (r.v pos)) λ_ _ _ z=>iR z,λpos whole A1 s Y H Q I z=>Zy h.b (r.w pos) whole A1 s Y H Q I (iS z)]
theorem Kr.or{es:List Expr}(h:Au X W cf mt e t)(r:Kr X W cf mt .Or (e'::es) u):Kr X W cf mt .Or (e::e'::es) (.or t u):=
 #[λpos=>Ah (fI h.v (r.v pos)) λ_ _ _ z=>kZ z,λpos whole A1 s Y H Q I z=>fE h.b (r.w pos) whole A1 s Y H Q I (l5 z)]
noncomputable def Pe(c:C)(U:Env):Res C:=match c with
    |.p (.bl b)=>.ok (.p (.bl (!b))) U
    |_=>.A2
theorem bc(a:T):ev cf mt (.not a)=λU=>(ev cf mt a U).bind λc U=>Pe c U:=funext λU=>by
 show(den cf mt (.not a)).v U=_;rfl
theorem YQ(a:T):tv cf mt (.not a)=λU=>(tv cf mt a U).bind λb U=>.ok (!b) U:=funext λU=>by
 show(den cf mt (.not a)).b U=_
 rfl
theorem UR(hK:W.K=X.K)(hw:W.w=X.w){pos:Pos}(h1:Au X W cf mt a x):Au X W cf mt (.UnaryOp .Not a pos) (.not x):=by
 refine Au.ZV hK hw (λ_ _=>rfl) rfl rfl (Ah (Rp h1.v) λY H Q z=>?_) (EV (Zz h1.b) λY H Q z=>?_) rfl
 .rw[bc]at z;refine Bz z λc U1 v H1 o1 os1 r1 r2 r3 r4 kp ef=>?_
  unfold Pe at r4;split at r4
  .rename_i b;obtain⟨rfl,rfl⟩:=dD (c:=.p (.bl b)) r1;exact#[b,rfl,Nc r2 r3 r4]
  .exact False.elim r4
 .rw[YQ]at z;refine Bz z λc U1 v H1 o1 os1 r1 r2 r3 r4 kp ef=>?_
  obtain⟨rfl,rfl⟩:=r1;exact r4 (!c) H1 [] os1 #[rfl,rfl] r2 r3 (AY.refl _ _)
noncomputable def Ol(c:C)(r:Env->Res (List P))(U:Env):Res (List P):=match c with
    |.p x=>(r U).bind λxs U=>.ok (x::xs) U
    |_=>.A2
theorem Je(t:T)(ts:List T):Cf cf mt (t::ts)=λU=>(ev cf mt t U).bind λc U=>Ol c (Cf cf mt ts) U:=funext λU=>by
 rfl
theorem FL(U:Env):Cf cf mt [] U= .ok [] U:=by unfold Cf;rfl
theorem JQ:∀{es:List Expr} {ts:List T},BI X W cf mt es ts->PA X es (tG W (AI X W) (nC W) (Cf cf mt ts))
 | _,_,.nil=>Mq Cp λY H Q h=>by
   obtain⟨U,os,hR,hn,hA⟩:=h;rw[FL]at hA;exact hA [] H [] os #[A7.nil,rfl] hR hn (AY.refl _ _)
 | _,_,.cons (t:=t) (ts:=ts) h r=>Mq (AV h.v (JQ r) (Ac h.st _ _)) λY H Q z=>by
   rw[Je]at z;refine Bz z λc U1 v H1 o1 os1 r1 r2 r3 r4 kp ef=>?_
   unfold Ol at r4;split at r4
   .rename_i x;have r1:Ba W H1 (.p x) v o1:=r1;obtain⟨r5,rfl⟩:=r1;refine Bz (rep':=nC W) (G:=λxs U=>.ok (x::xs) U) (Q:=Q) #[U1,os1,r2,r3,r4] λxs U2 vs H2 o2 os2 s1 s2 s3 s4 kp2 _=>?_
    obtain⟨s5,rfl⟩:=s1;exact s4 (v::vs) H2 [] os2 #[A7.cons (r5.mono kp2) s5,rfl] s2 s3 (AY.refl _ _)
   .exact False.elim r4
theorem HX:∀{ts:List T} {U U':Env} {ps:List P},Cf cf mt ts U= .ok ps U'->ps.length=ts.length
 |[],U,U',ps,e=>by rw[FL]at e;cases e;rfl
 | t ::ts,U,U',ps,e=>by
   rw[Je]at e;dsimp only at e;cases e1:ev cf mt t U with
   |A2=>rw[e1]at e;cases e
   |err x p U2=>rw[e1]at e;cases e
   |ok c U2=>
     rw[e1,Res.A5]at e;unfold Ol at e;split at e
     .cases e2:Cf cf mt ts U2 with
      |A2=>rw[e2]at e;cases e
      |err x p U3=>rw[e2]at e;cases e
      |ok qs U3=>
        rw[e2]at e;cases e;rw[lC,lC,HX e2]
     .cases e
theorem SM(ts:List T):ev cf mt (.tup ts)=λU=>if ts.length<=1000 then(Cf cf mt ts U).bind λps U=>.ok (.p (.tup ps)) U else .A2:=funext λU=>by
 show(den cf mt (.tup ts)).v U=_;rfl
theorem Gf(ts:List T):ev cf mt (.lst ts)=λU=>if ts.length<=1000 then(Cf cf mt ts U).bind λps U=>.ok (.lst ps) U else .A2:=funext λU=>by
 show(den cf mt (.lst ts)).v U=_;rfl
theorem RJ{os:List Addr}{Y:L2.St}{Q:VK}(hR:A6 W H U Y os)(hn:os.Nodup)(h:Ck W (AI X W) (rV W Y) H os Y (.ok c U) Q):Fe W H c Q:=λv H' o s r ho hf=>h.made hR hn s r ho hf
theorem Hm{n:Nat}(h:n<=1000):n<=sizeLine:=Nat.le_trans h (by decide)
variable{ts:List T}
theorem UQ(hK:W.K=X.K)(hw:W.w=X.w){es:List Expr}{k:Nat}{pos:Pos}(h:BI X W cf mt es ts):Au X W cf mt (.Tuple es k pos) (.tup ts):=by
 refine Au.of hK hw (λ_ _=>rfl) (λU=>by show(den cf mt (.tup ts)).b U=(((den cf mt (.tup ts)).v U).bind _).bind _;rfl) rfl rfl ?_ (λ_=>rfl) rfl;rw[SM]
 by_cases hl:ts.length<=1000
 .refine Ah (Rm (JQ h)) λY H Q z=>?_
  simp only[iP hl]at z;refine Bz z λps U1 vs H1 o1 os1 r1 r2 r3 r4 kp ef=>?_
  obtain⟨r5,rfl⟩:=r1;obtain⟨U0,ef⟩:=ef;exact#[Hm (by rw[r5.length,HX ef];exact hl),(RJ r2 r3 r4).tup r5]
 .exact Dl λU=>iN hl
theorem UT(hK:W.K=X.K)(hw:W.w=X.w){es:List Expr}{pos:Pos}(h:BI X W cf mt es ts):Au X W cf mt (.List es pos) (.lst ts):=by
 refine Au.of hK hw (λ_ _=>rfl) (λU=>by show(den cf mt (.lst ts)).b U=(((den cf mt (.lst ts)).v U).bind _).bind _;rfl) rfl rfl ?_ (λ_=>rfl) rfl;rw[Gf]
 by_cases hl:ts.length<=1000
 .refine Ah (ZI (JQ h)) λY H Q z=>?_
  simp only[iP hl]at z;refine Bz z λps U1 vs H1 o1 os1 r1 r2 r3 r4 kp ef=>?_
  obtain⟨r5,rfl⟩:=r1;obtain⟨U0,ef⟩:=ef;exact#[Hm (by rw[r5.length,HX ef];exact hl),(RJ r2 r3 r4).list r5]
 .exact Dl λU=>iN hl
end
def QC(X:Cx)(W:Wd)(sp:Sp)(t:TA):TE:=λY H Q=>t Y H λvs H1=>sp vs H1 Q (EE W (AI X W) Y)
def QA(X:Cx)(W:Wd)(C:Addr)(m:Str)(sp:Sp)(ta:TE)(t:TA):TE:=λY H Q=>ta Y H λx H1=>∃a dx fs,x= .ref a/\H1 a=some (.ins C dx fs)/\fs.lookup m=none/\t Y H1 λvs H2=>sp (x::vs) H2 Q (EE W (AI X W) Y)
section
variable{k:Nat}{f C:Addr}{fd:FuncData}{ps:List Str}{sp:Sp}{x m:Str}{p pos apos:Pos}{e o:Expr}{es:List Expr}{ta:TE}{t:TA}
variable{A1:Oa}{H:Hp}{s:Shared}{us:List Value}{vs:List V}
theorem NA{Y:L2.St}{Q:VK}{E:XK}(F:Dd X.prog X.w X.K X.mg X.base (Xc.Eb X.prog X.w) k f fd ps sp)(hr:Bk k X.A)(hb:Binds X.K fd ps [])
 (I:Inv X A1 Y H s)(r:Vals vs us)(h:sp vs H Q E)(hx:∀e s',Xc.Eb X.prog X.w X.stack H s E e s'->X.xe e s'):(X|||(call (.ref f) us)) (EP X A1 Y Q) X.xe s:=by
 have hl:us.length=ps.length:=by rw[<-r.length];exact F.len _ _ _ _ h
 refine wpAny_call (codeAny_mono (F.run X.A X.stack s H #[us,[]] us vs Q E hr I.bj (by simpa using hb s us I.Cn (by simpa using hl)) r h) λr s' hq=>?_);cases r with
 |error e=>exact hx e s' hq
 |ok fl=>
   cases fl with
   |ret u=>exact I.after hq
   |next=>exact False.elim hq
   |brk=>exact False.elim hq
   |cont=>exact False.elim hq
theorem Fu{Y:L2.St}{Q:VK}(F:Dd X.prog X.w X.K X.mg X.base (Xc.Eb X.prog X.w) k f fd ps sp)(hr:Bk k X.A)(hb:Binds X.K fd ps [])
 (I:Inv X A1 Y H s)(r:Vals vs us)(h:sp vs H Q (EE W (AI X W) Y)):(X|||(call (.ref f) us)) (EP X A1 Y Q) X.xe s:=NA F hr hb I r h λe s' c=>Mp I c
theorem Rx(F:Dd X.prog X.w X.K X.mg X.base (Xc.Eb X.prog X.w) k f fd ps sp)(hr:Bk k X.A)(hg:Gl X x)(hm:X.mg x=some (.ref f))(hk:keepIn X.K (.ref f)=true)(hb:Binds X.K fd ps [])(ha:PA X (e::es) t)(hdb:ng x)
 (he:starEach (e::es) X.env=(false,eval e X.env)::starEach es X.env)(hpl:(backTo pos (starEach es X.env)).any (·.1)=false):PE X (.Call (.Name x p) (e::es) [] pos) (QC X W sp t):=by
 intro A1 s Y H Q I h;refine wpAny_Call_Name_kw (DC I hg hm ?_ hdb);refine callWith_K (h₀:=X.base) I.ok.mod.PB hk (B2 (ha pos A1 s Y H _ I h) λus s1 ⟨vs,H1,I1,r,q⟩=>#[I1.Cn,?_]) he hpl;exact Fu F hr hb I1 r q
theorem Pa(F:Dd X.prog X.w X.K X.mg X.base (Xc.Eb X.prog X.w) k f fd ps sp)(hr:Bk k X.A)(hg:Gl X x)(hm:X.mg x=some (.ref f))(hk:keepIn X.K (.ref f)=true)(hb:Binds X.K fd ps [])(hdb:ng x):PE X (.Call (.Name x p) [] [] pos) (QC X W sp DJ):=by
 intro A1 s Y H Q I h;refine wpAny_Call_Name_kw (DC I hg hm ?_ hdb);exact callWith_K0 I.Cn hk (Fu (us:=[]) F hr hb I .nil h)
theorem Rq{pl:Sem Bool}(he:PE X o ta)(c:Dv X.K C)(hm:Meth X.K C m f)(F:Dd X.prog X.w X.K X.mg X.base (Xc.Eb X.prog X.w) k f fd ps sp)(hr:Bk k X.A)(hb:Binds X.K fd ps [])(ha:PA X (e::es) t)
 (hst:starEach (e::es) X.env=(false,eval e X.env)::starEach es X.env)(hpl:(backTo pos (starEach es X.env)).any (·.1)=false)
 (ht:eval (.Call (.Attribute o m apos) (e::es) [] pos) X.env=(do
  let ov <-eval o X.env
  standAt apos.atName
  let(f,first) <-holding [ov] (getMethod ov m pl)
  callWith pos f first (backTo pos (starEach (e::es) X.env)) (backToKw pos (keywordEach [] X.env)))):
 PE X (.Call (.Attribute o m apos) (e::es) [] pos) (QA X W C m sp ta t):=by
 intro A1 s Y H Q I h;refine methodCall_KW (pl:=pl) (B2 (he A1 s Y H _ I h) λu s1 ⟨x,H1,I1,rx,a,dx,fs,ex,ea,l,q⟩=>?_) ht;subst ex;obtain rfl:u=Value.ref a:=rx;refine F4 I1 ea c hm l ?_;refine callWith_K (first:=[.ref a]) (h₀:=X.base) I.ok.mod.PB hm.kp (B2 (ha pos A1 s1 Y H1 _ I1 q) λus s2 ⟨vs,H2,I2,r,q2⟩=>#[I2.Cn,?_]) hst hpl;exact Fu (us:=.ref a::us) (vs:=.ref a::vs) F hr hb I2 (.cons rfl r) q2
theorem P9{pl:Sem Bool}(he:PE X o ta)(c:Dv X.K C)(hm:Meth X.K C m f)(F:Dd X.prog X.w X.K X.mg X.base (Xc.Eb X.prog X.w) k f fd ps sp)(hr:Bk k X.A)(hb:Binds X.K fd ps [])
 (ht:eval (.Call (.Attribute o m apos) [] [] pos) X.env=(do
  let ov <-eval o X.env
  standAt apos.atName
  let(f,first) <-holding [ov] (getMethod ov m pl)
  callWith pos f first (backTo pos (starEach [] X.env)) (backToKw pos (keywordEach [] X.env)))):
 PE X (.Call (.Attribute o m apos) [] [] pos) (QA X W C m sp ta DJ):=by
 intro A1 s Y H Q I h;refine methodCall_KW (pl:=pl) (B2 (he A1 s Y H _ I h) λu s1 ⟨x,H1,I1,rx,a,dx,fs,ex,ea,l,q⟩=>?_) ht;subst ex;obtain rfl:u=Value.ref a:=rx;refine F4 I1 ea c hm l ?_;exact callWith_K0 (first:=[.ref a]) I1.Cn hm.kp (Fu (us:=[.ref a]) (vs:=[.ref a]) F hr hb I1 (.cons rfl .nil) q)
end
section
variable{cf:CF}{mt:MT}
theorem Au.at(hK:W.K=X.K)(hw:W.w=X.w){e:Expr}{t:T}(hb:∀U,tv cf mt t U=(BP t (ev cf mt t) U).bind λh U=>Res.of ((h.cont U).bind Cz) U)(hi:B3 t=(.op,[t]))(v:PE X e (tG W (AI X W) (rV W) (ev cf mt t)))(h:PE X e (tG W (AI X W) (FW W) (BP t (ev cf mt t))))
 (x:t.calm=true->PE X e (tX W t))(he:∀whole,isTrue e X.env whole=(do let v <-whole;standAt e.pos;holding [v] (truthy v)))(st:Bd e=true)(nc:Bo e=false:=by rfl):Au X W cf mt e t:=by
 refine#[v,h,EV (Ra hK h he) λY H Q z=>Ma ?_,x,st,λ_ tg=>?_,λi y py spos hN hi' hx hf=>EW hN hi' hx v (Dh nc _ _ _) hf,λz=>(by rw[nc]at z;cases z)]
 .rw[show(λU=>(BP t (ev cf mt t) U).bind λh U=>Res.of ((h.cont U).bind Cz) U)=tv cf mt t from funext λU=>(hb U).symm];exact z
 .rw[hi];show PI X tg e (Q9 W (AI X W) .op (Ae cf mt [t]));rw[Er];exact NN hK hw h
theorem ba(i:Nat)(U:Env):ev cf mt (.A3 i) U=match A8 U i with
 |some c=>if c.cp then .ok c U else .ok c (U.set i none)
 |none=>.A2:=by
 show(den cf mt (.A3 i)).v U=_;rfl
theorem UP(hK:W.K=X.K)(hw:W.w=X.w){i:Nat}{x:Str}{pos:Pos}(hN:X.N[i]? =some x)(hv:dH X.env.scope x)(hd:ng x)(hcd:(x==("__classdict__":Str))=false):Au X W cf mt (.Name x pos) (.A3 i):=by
 have pe:=G4 (pos:=pos) hN hv hd hcd;refine Au.at hK hw (λU=>?_) rfl (Ah pe λY H Q z=>?_) (Ah pe λY H Q z=>?_) (λ_=>Ah pe λY H Q z=>z) (λ_=>rfl) rfl
 .show(den cf mt (.A3 i)).b U=_;rfl
 .obtain⟨U,os,hR,hn,hA⟩:=z;rw[ba]at hA;cases hg:A8 U i with
  |none=>rw[hg]at hA;exact False.elim hA
  |some c=>
    rw[hg]at hA;dsimp only at hA;split at hA
    .rename_i hc;obtain⟨v,o,q1,q2,_⟩:=hR.get hg;have:=q2.cp hc;subst this;exact#[v,q1,hA v H [] os q2 hR hn (AY.refl _ _)]
    .obtain⟨v,o,os',q1,q2,q3,q4⟩:=hR.take hg;exact#[v,q1,hA v H o os' q2 q3 (q4.nodup_iff.mpr hn) ((AY.refl _ _).sub λa ha=>q4.subset ha)]
 .obtain⟨U,os,hR,hn,hA⟩:=z;have hA:Ck W (AI X W) (FW W Y) H os Y (if(A8 U i).isSome then .ok (.A4 i) U else .A2) Q:=hA;cases hg:A8 U i with
  |none=>rw[hg]at hA;exact False.elim hA
  |some c=>
    rw[hg]at hA;obtain⟨v,o,q1,q2,_⟩:=hR.get hg;exact#[v,q1,hA v H [] os #[q1,rfl] hR hn (AY.refl _ _)]
theorem Tr{H H':Hp}(h:FU p=true)(h1:AH W H p v)(h2:AH W H' p w):v=w:=by
 cases p with
 |Az=>rw[BR.mp h1,BR.mp h2]
 |bl b=>rw[BB.mp h1,BB.mp h2]
 |int b=>rw[Ak.mp h1,Ak.mp h2]
 |str b=>rw[AE.mp h1,AE.mp h2]
 |tup _=>cases h
 |fn _=>cases h
 |box _ _=>cases h
theorem Ed(hK:W.K=X.K)(hw:W.w=X.w){e:Expr}(pe:PE X e (tC v))(hp:∀H,AH W H p v)(he:∀whole,isTrue e X.env whole=(do let v <-whole;standAt e.pos;holding [v] (truthy v)))(st:Bd e=true)(nc:Bo e=false:=by rfl):Au X W cf mt e (.An p):=by
 refine Au.at hK hw (λU=>?_) rfl (Ah pe λY H Q z=>?_) (Ah pe λY H Q z=>?_) (λhc=>Ah pe λY H Q z=>?_) he st nc
 .show(den cf mt (.An p)).b U=_;rfl
 .obtain⟨U,os,hR,hn,hA⟩:=z
  have hA:Ck W (AI X W) (rV W Y) H os Y (.ok (.p p) U) Q:=by
   rw[show ev cf mt (.An p) U= .ok (.p p) U from by show(den cf mt (.An p)).v U=_;rfl]at hA;exact hA
  exact hA v H [] os #[hp H,rfl] hR hn (AY.refl _ _)
 .obtain⟨U,os,hR,hn,hA⟩:=z
  have hA:Ck W (AI X W) (FW W Y) H os Y (.ok (.AN (.p p)) U) Q:=by
   rw[show BP (.An p) (ev cf mt (.An p)) U= .ok (.AN (.p p)) U from by unfold BP ev den;rfl]at hA;exact hA
  exact hA v H [] os #[hp H,rfl] hR hn (AY.refl _ _)
 .obtain⟨w,⟨h1,h2⟩,q⟩:=z;have:=Tr hc (hp H) h2;subst this;exact q
theorem UY(hK:W.K=X.K)(hw:W.w=X.w){i:Nat}{x:Str}{pos:Pos}(hN:X.N[i]? =some x)(hv:dH X.env.scope x)(hd:ng x)(hcd:(x==("__classdict__":Str))=false):Au X W cf mt (.Attribute (.Name x p) f pos) (.Aw i f):=by
 have pe:=Ru (f:=f) (pos:=pos) (G4 (pos:=p) hN hv hd hcd) rfl;refine Au.at hK hw (λU=>?_) rfl (Ah pe λY H Q z=>?_) (Ah pe λY H Q z=>?_) (λhc=>Ah pe λY H Q z=>?_) (λ_=>rfl) rfl
 .show(den cf mt (.Aw i f)).b U=_;rfl
 .obtain⟨U,os,hR,hn,hA⟩:=z;rw[show ev cf mt (.Aw i f) U=(match BD U i f with|some c=>if c.cp then .ok c U else .A2|none=>.A2)from by show(den cf mt (.Aw i f)).v U=_;rfl]at hA;cases hg:BD U i f with
  |none=>rw[hg]at hA;exact False.elim hA
  |some c=>
    rw[hg]at hA;dsimp only at hA;split at hA
    .rename_i hc;obtain⟨a,C,dx,fs,v,b,o',q1,q2,q3,q4,q5,rfl,q6⟩:=HV hR hg;have:o'=[]:=Ba.cp (c:=.b b) q6 hc;subst this;exact#[.ref a,q1,a,C,dx,fs,v,rfl,q2,hK▸q3,hK▸q4,q5,hA v H [] os q6 hR hn (AY.refl _ _)]
    .exact False.elim hA
 .obtain⟨U,os,hR,hn,hA⟩:=z;have hA:Ck W (AI X W) (FW W Y) H os Y (if(BD U i f).isSome then .ok (.Aw i f) U else .A2) Q:=hA;cases hg:BD U i f with
  |none=>rw[hg]at hA;exact False.elim hA
  |some c=>
    rw[hg]at hA;obtain⟨a,C,dx,fs,v,b,o',q1,q2,q3,q4,q5,_,q6⟩:=HV hR hg;exact#[.ref a,q1,a,C,dx,fs,v,rfl,q2,hK▸q3,hK▸q4,q5,hA v H [] os #[rfl,a,C,dx,fs,q1,q2,q5] hR hn (AY.refl _ _)]
 .obtain⟨v,⟨a,C,dx,fs,q1,q2,q3,q4,q5⟩,q⟩:=z;exact#[.ref a,q1,a,C,dx,fs,v,rfl,q2,hK▸q3,hK▸q4,q5,q]
structure dc(X:Cx)(W:Wd)(cf:CF)(k f:Nat):Prop where
 ex:∃fd ps,Dd X.prog X.w X.K X.mg X.base (Xc.Eb X.prog X.w) k (W.Cq f) fd ps (JC W (cf f))/\Binds X.K fd ps []
theorem Bv{es:List Expr}(h:∀e∈es,Bd e=true)(pos:Pos)(env:PySem.Env):(backTo pos (starEach es env)).any (·.1)=false:=by
 rw[Hl h];unfold backTo;rw[map_map,List.any_map];rw[List.any_eq_false];intro e _;simp
theorem Wy(f:Nat)(ts:List T):ev cf mt (.call f ts)=λU=>(Ae cf mt ts U).bind λhs U=>AK cf f hs U:=funext λU=>by
 show(den cf mt (.call f ts)).v U=_;rfl
theorem QR(hK:W.K=X.K)(hw:W.w=X.w){k f:Nat}{es:List Expr}{ts:List T}{pos:Pos}(F:dc X W cf k f)(hr:Bk k X.A)(hg:Gl X x)(hm:X.mg x=some (.ref (W.Cq f)))(hk:keepIn X.K (.ref (W.Cq f))=true)(hdb:ng x)
 (h:BI X W cf mt es ts):Au X W cf mt (.Call (.Name x p) es [] pos) (.call f ts):=by
 obtain⟨fd,ps,F1,F2⟩:=F.ex;refine Au.of hK hw (λ_ _=>rfl) (λU=>by show(den cf mt (.call f ts)).b U=(((den cf mt (.call f ts)).v U).bind _).bind _;rfl) rfl rfl ?_ (λ_=>rfl) rfl;rw[Wy];have pl:=h.plain;have pd:=DS h;cases es with
 |nil=>
   cases h;refine Ah (Pa (W:=W) F1 hr hg hm hk F2 hdb) λY H Q z=>?_
   obtain⟨U,os,hR,hn,hA⟩:=FP z;rw[CS]at hA;exact hA [] H [] os #[rfl,rfl] hR hn (AY.refl _ _)
 |cons e es=>
   exact Ah (Rx F1 hr hg hm hk F2 pd hdb (Ac (pl e mS) es _) (Bv (λe he=>pl e (mC he)) pos _)) λY H Q z=>FP z
end
section
variable{cf:CF}{mt:MT}
variable{H:Hp}
theorem Ek:∀{fs:List (Str×B)} {vs:List (Str×V)} {o:List Addr},Bj W H fs vs o->fs.lookup m=none->vs.lookup m=none
 |[],_,_,h,_=>by rw[h.1];rfl
 | (g,b)::fs,_,_,⟨v,r,o1,o2,e1,h1,h2,e⟩,el=>by
   subst e1;rw[lookup_cons]at el ⊢;cases hg:m==g with
   |true=>rw[hg]at el;cases el
   |false=>rw[hg]at el;exact Ek h2 el
variable{F:Env->Res (List Hd)}
theorem Sh{Y:L2.St}{i:Nat}{K:List V->Hp->Prop}(hs:Y[i]? =some (some v))(h:tG W (AI X W) (Bt W) (λU=>(F U).bind λhs U=>.ok (.A4 i::hs) U) Y H K):tG W (AI X W) (Bt W) F Y H λvs H1=>K (v::vs) H1:=
 Bz h λa U1 vs H1 o1 os1 r1 r2 r3 r4 kp ef=>r4 (v::vs) H1 o1 os1 #[v,vs,[],o1,rfl,#[hs,rfl],r1,rfl] r2 r3 (AY.refl _ _)
variable{apos:Pos}
theorem JX{pos:Pos}{es:List Expr}{env:PySem.Env}(pl:∀e∈es,Bd e=true)(hl:es.length<29)(hline:(apos.endLine==pos.line)=true):eval (.Call (.Attribute (.Name x p) m apos) es [] pos) env=(do
 let ov <-eval (.Name x p) env
 standAt apos.atName
 let(f,first) <-holding [ov] (getMethod ov m (do return (<-importBound (.Name x p) env).getD true))
 callWith pos f first (backTo pos (starEach es env)) (backToKw pos (keywordEach [] env))):=by
 have gR:methodCallForm (es.length+([]:List Keyword).length) (backTo pos (starEach es env)) (backToKw pos (keywordEach [] env))=true:=by
  unfold methodCallForm
  have h1:(backTo pos (starEach es env)).all (!·.1)=true:=by
   rw[Hl pl];unfold backTo;rw[map_map,List.all_map,all_eq_true];intro e _;simp
  have h2:(backToKw pos (keywordEach [] env))=[]:=rfl;rw[h1,h2];simp
  lia
 show(do
  let ov <-attributeBase (.Name x p) m env (eval (.Name x p) env)
  standAt apos.atName
  methodCall (.Name x p) m apos pos env ov (es.length+([]:List Keyword).length) (backTo pos (starEach es env)) (backToKw pos (keywordEach [] env)))=_
 have hb:attributeBase (.Name x p) m env (eval (.Name x p) env)=eval (.Name x p) env:=rfl;rw[hb];unfold methodCall calleeOf methodCallPos;rw[gR,hline];simp only[Bool.not_true,Bool.false_or,if_true,pure_bind]
theorem FK(m:Str)(i:Nat)(ts:List T)(U:Env):ev cf mt (.Al m (.A3 i) ts) U=match A8 U i with
 | some (.obj c fs)=>match fs.lookup m,mt.m c m with
   |none,some f=>(Ae cf mt ts U).bind λhs U=>AK cf f (.A4 i::hs) U
   |_,_=>.A2
 |_=>.A2:=by
 show(den cf mt (.Al m (.A3 i) ts)).v U=_;rfl
structure jZ(X:Cx)(W:Wd)(cf:CF)(mt:MT)(k:Nat):Prop where
 Mz:∀c m f,mt.m c m=some f->Dv X.K (W.Br c)/\(m≠Str.ofString "__init__"->Meth X.K (W.Br c) m (W.Cq f))/\dc X W cf k f
variable{ts:List T}
theorem QI(hK:W.K=X.K)(hw:W.w=X.w){k:Nat}(M:jZ X W cf mt k)(hr:Bk k X.A){i:Nat}{m:Str}{es:List Expr}{pos:Pos}(hx:PE X (.Name x p) (EO i))(hni:m≠Str.ofString "__init__")(hl:es.length<29)(hline:(apos.endLine==pos.line)=true)
 (h:BI X W cf mt es ts):Au X W cf mt (.Call (.Attribute (.Name x p) m apos) es [] pos) (.Al m (.A3 i) ts):=by
 refine Au.of hK hw (λ_ _=>rfl) (λU=>by show(den cf mt (.Al m (.A3 i) ts)).b U=(((den cf mt (.Al m (.A3 i) ts)).v U).bind _).bind _;rfl) rfl rfl ?_ (λ_=>rfl) rfl;have pl:=h.plain;have pd:=DS h;intro A1 s Y H Q I z;obtain⟨U,os,hR,hn,hA⟩:=z;rw[FK]at hA;cases hg:A8 U i with
 |none=>rw[hg]at hA;exact False.elim hA
 |some d=>
   rw[hg]at hA;cases d with
   |b x=>exact False.elim hA
   |obj c fs=>
     dsimp only at hA;cases hl1:fs.lookup m with
     |some y=>rw[hl1]at hA;exact False.elim hA
     |none=>
       cases hl2:mt.m c m with
       |none=>rw[hl1,hl2]at hA;exact False.elim hA
       |some f=>
         rw[hl1,hl2]at hA;dsimp only at hA;obtain⟨v,o,q1,q2,_⟩:=hR.get hg;obtain⟨a,dx,vs,osf,rfl,q3,q4,_,q5⟩:=q2;obtain⟨M1,M2,F⟩:=M.Mz c m f hl2;obtain⟨fd,ps,F1,F2⟩:=F.ex
         have key:tG W (AI X W) (Bt W) (Ae cf mt ts) Y H λvs H2=>JC W (cf f) (.ref a::vs) H2 Q (EE W (AI X W) Y):=by
          refine Sh (i:=i) q1 (FP #[U,os,hR,hn,?_]);show Ck W (AI X W) (rV W Y) H os Y (((Ae cf mt ts U).bind λhs U=>.ok (.A4 i::hs) U).bind λhs U=>AK cf f hs U) Q;cases e1:Ae cf mt ts U with
          |A2=>rw[e1]at hA;exact hA
          |err x p U'=>rw[e1]at hA;exact hA
          |ok hs U'=>rw[e1]at hA;exact hA
         cases es with
         |nil=>
           cases h;refine P9 (W:=W) hx M1 (M2 hni) F1 hr F2 (JX pl hl hline) A1 s Y H Q I #[.ref a,q1,a,dx,vs,rfl,q3,Ek q4 hl1,?_];obtain⟨U',os',hR',hn',hA'⟩:=key;rw[CS]at hA';exact hA' [] H [] os' #[rfl,rfl] hR' hn' (AY.refl _ _)
         |cons e es=>
           refine Rq (W:=W) hx M1 (M2 hni) F1 hr F2 pd (Ac (pl e mS) es _) (Bv (λe he=>pl e (mC he)) pos _) (JX pl hl hline) A1 s Y H Q I #[.ref a,q1,a,dx,vs,rfl,q3,Ek q4 hl1,key]
theorem VR{f c:Nat}{Y:L2.St}{Q:VK}{E:XK}(hC:Dv W.K (W.Br c))(h:tG W (AI X W) (rV W) (λU=>(F U).bind λhs U=>Gv cf f c hs U) Y H Q):
 tG W (AI X W) (Bt W) F Y H λvs H1=>∀x dx,H1 x=none->H1 dx=none->dx≠x->JC W (cf f) (.ref x::vs) (upd (upd H1 dx (.own x)) x (.ins (W.Br c) dx [])) (λv H2=>v= .Az/\Q (.ref x) H2) E:=by
 refine Bz h λhs U1 vs H1 o1 os1 h1 h2 h3 hA _ _=>?_
 intro x dx hx hdx hne;unfold Gv at hA;cases ec:Ag U1 hs with
 |none=>rw[ec]at hA;exact False.elim hA
 |some cs =>
   rw[ec]at hA;dsimp only at hA;split at hA
   case isFalse=>exact False.elim hA
   rename_i hgc;obtain⟨hg,hc1⟩:=hgc;cases ecf:cf f (.obj c []::cs)with
   |A2=>rw[ecf]at hA;exact False.elim hA
   |err x p=>rw[ecf]at hA;exact False.elim hA
   |ok rc outs0=>
     rw[ecf]at hA
     obtain ⟨s,outs,rfl,rfl,hB⟩:∃s outs,rc= .p .Az/\outs0=some s::outs/\Ck W (AI X W) (rV W Y) H1 (o1++os1) Y ((Res.of (back (lend U1 hs cs) hs cs outs) U1).bind λU' _=>.ok s U') Q:=by
      cases rc with
      |obj _ _=>exact False.elim hA
      |b y =>
        cases y with
        |p y =>
          cases y with
          |Az=>
            cases outs0 with
            |nil=>exact False.elim hA
            |cons a outs=>
              cases a with
              |none=>exact False.elim hA
              |some s=>exact#[s,outs,rfl,rfl,hA]
          |_=>exact False.elim hA
        |_=>exact False.elim hA
     cases eb:back (lend U1 hs cs) hs cs outs with
     |none=>rw[eb]at hB;exact False.elim hB
     |some U2=>
       rw[eb]at hB;have hA:∀v H' o os',Ba W H' s v o->A6 W H' U2 Y os'->(o++os').Nodup->AY H1 H' (o1++os1) (o++os')->Q v H':=hB;obtain⟨oa,or_,q1,q2,q3⟩:=Eo h2 h1 ec hg.2 hg.1 (λ_ _=>rfl) h2;have q2:A6 W H1 (lend U1 hs cs) Y or_:=q2;have na:=q3.nodup_iff.mpr h3;have na':=nA na;generalize hH2:upd (upd H1 dx (.own x)) x (.ins (W.Br c) dx [])=H2
       have sm:BV H1 H2:=λb o e=>by
        rw[<-hH2,Ab (AL e hx),Ab (AL e hdx)];exact e
       have hx2:H2 x=some (.ins (W.Br c) dx []):=by rw[<-hH2];exact Ar
       have xa:x∉oa:=λz=>by
        obtain⟨y,e,_⟩:=q1.own x z;rw[hx]at e;cases e
       have xr:x∉or_:=λz=>by
        obtain⟨y,e,_⟩:=q2.own x z;rw[hx]at e;cases e
       refine#[.obj c []::cs,x::oa,#[.ref x,vs.map some,[x],oa,rfl,#[x,dx,[],[],rfl,hx2,#[rfl,rfl],rfl,hC,(λq hq=>by cases hq),λz=>absurd hc1 (Nat.not_lt.mpr z)],q1.same sm,rfl],nodup_cons.mpr #[xa,na'.1],?_];rw[ecf];intro v H' o oos r1 r2 r3 r4;have r1:Ba W H' (.p .Az) v o:=r1;obtain⟨r5,rfl⟩:=r1;refine#[BR.mp r5,?_];obtain⟨v',r',os_,oos2,e1,s1,s2,rfl⟩:=r2;cases e1
       have own2:∀a∈x::oa,∃y,H2 a=some y/\Mu y:=λa ha=>by
        rcases mK ha with z|z
        .rw[z];exact#[_,hx2,λ_ z=>HO.noConfusion z,λ_ _ z=>HO.noConfusion z]
        .obtain⟨y,e,m⟩:=q1.own a z;exact#[y,sm _ _ e,m]
       have k1:AS H2 H':=r4.but.keep own2
       have dis:∀a∈or_,a∉x::oa:=λa ha z=>by
        rcases mK z with y|y
        .exact xr (y▸ha)
        .exact na'.2.2 a y a ha rfl
       have q2':A6 W H' (lend U1 hs cs) Y or_:=(q2.same sm).frame s2.tb k1 r4.but dis;have r3:(os_++oos2).Nodup:=r3;have r3':=nA r3;have r4:AY H2 H' (x::oa) (os_++oos2):=r4
       have ndo:∀a∈os_++oos2,a∉or_:=λa ha z=>by
        rcases r4.src a ha with y|y
        .exact dis a z y
        .obtain⟨b,eb,_⟩:=q2.own a z;rw[sm _ _ eb]at y;cases y
       obtain⟨os',t1,t2,t3⟩:=FT (U0:=U1) h1 eb s2 q2' (by
        rw[nodup_append]
        exact#[r3'.2.1,na'.2.1,λa ha b hb z=>ndo a (mR ha) (z▸hb)]) hg.1 λj hj=>⟨CQ hj,by
         show j<((BY hs cs).foldl _ U1).length;rw[Dc]
         exact JY ec hg.2 j hj⟩
       refine hA (.ref x) H' os_ os' s1 t1 ?_ ?_
       .rw[nodup_append];refine#[r3'.1,t2,λa ha b hb z=>?_];subst z;rcases mZ (t3 a hb)with y|y
        .exact r3'.2.2 a ha a y rfl
        .exact ndo a (mL ha) y
       .have f0:AY H1 H2 (o1++os1) (or_++(x::oa)):=AY.of sm λa ha=>by
         rcases mZ ha with z|z
         .exact .inl (q3.subset (mR z))
         .rcases mK z with y|y
          .rw[y];exact .inr hx
          .exact .inl (q3.subset (mL y))
        refine(f0.trans (r4.more or_)).sub λa ha=>?_
        rcases mZ ha with z|z
        .exact mR (mL z)
        .rcases mZ (t3 a z)with y|y
         .exact mR (mR y)
         .exact mL y
theorem Wx(c:Nat)(ts:List T)(U:Env):ev cf mt (.make c ts) U=match mt.m c (Str.ofString "__init__")with
 |some f=>(Ae cf mt ts U).bind λhs U=>Gv cf f c hs U
 |none=>.A2:=by
 show(den cf mt (.make c ts)).v U=_;rfl
theorem QJ(hK:W.K=X.K)(hw:W.w=X.w){k c:Nat}(M:jZ X W cf mt k)(hr:Bk (k+1) X.A){es:List Expr}{pos:Pos}(hg:Gl X x)(hm:X.mg x=some (.ref (W.Br c)))(hmk:∀f,mt.m c (Str.ofString "__init__")=some f->Mk X.K (W.Br c) (W.Cq f))(hdb:ng x)
 (h:BI X W cf mt es ts):Au X W cf mt (.Call (.Name x p) es [] pos) (.make c ts):=by
 refine Au.of hK hw (λ_ _=>rfl) (λU=>by show(den cf mt (.make c ts)).b U=(((den cf mt (.make c ts)).v U).bind _).bind _;rfl) rfl rfl ?_ (λ_=>rfl) rfl;have pl:=h.plain;have pd:=DS h;rw[show ev cf mt (.make c ts)=_ from funext λU=>Wx c ts U];cases hf:mt.m c (Str.ofString "__init__")with
 |none=>exact Dl λU=>rfl
 |some f=>
   obtain⟨M1,_,F⟩:=M.Mz c _ f hf;obtain⟨fd,ps,F1,F2⟩:=F.ex
   have conv1:∀Y H Q,tG W (AI X W) (rV W) (λU=>(Ae cf mt ts U).bind λhs U=>Gv cf f c hs U) Y H Q->KG (W.Br c) (JC W (cf f)) [] E0 (tG W (AI X W) (Bt W) (Ae cf mt ts)) Y H Q:=λY H Q z=>by
    have:=VR (E:=E0) (hK▸M1) z;unfold KG;simp only[append_nil];exact this
   cases es with
   |nil=>
     cases h;refine Ah (Rt (hmk f hf) F1 hr hg hm F2 .nil Xc.Y5 hdb) λY H Q z=>?_
     have z:=conv1 Y H Q z;unfold KG at z ⊢;obtain⟨U,os,hR,hn,hA⟩:=z;rw[CS]at hA;exact hA [] H [] os #[rfl,rfl] hR hn (AY.refl _ _)
   |cons e es=>
     exact Ah (VA (hmk f hf) F1 hr hg hm F2 .nil Xc.Y5 pd hdb (Ac (pl e mS) es _) (Bv (λe he=>pl e (mC he)) pos _)) conv1
end
section
variable{cf:CF}{mt:MT}
variable{H:Hp}
theorem NZ{m:MO}{r:V->List V->Hp->VK->Prop}(hM:LU W m r){Y:L2.St}{os o1:List Addr}{hs:List Hd}{vs:List V}{Q:VK}(hR:A6 W H U Y os)(hn:(o1++os).Nodup)(hh:FW W Y H U h (.ref a) [])(h1:Bt W Y H U hs vs o1)
 (hp:∀c,h≠.AN c)(hA:Ck W (AI X W) (rV W Y) H (o1++os) Y (JV m h hs U) Q):r (.ref a) vs H Q:=by
 unfold JV at hA;cases ec:h.cont U with
 |none=>rw[ec]at hA;exact False.elim hA
 |some d=>
   cases ed:Ag U hs with
   |none=>rw[ec,ed]at hA;cases d<;>exact False.elim hA
   |some cs =>
     rw[ec,ed]at hA;cases d with
     |obj _ _=>exact False.elim hA
     |b b =>
       dsimp only at hA;split at hA
       case isFalse=>exact False.elim hA
       cases es:Fp m b cs with
       |none=>rw[es]at hA;exact False.elim hA
       |some q=>
         obtain⟨c,b'⟩:=q;rw[es]at hA;dsimp only at hA;cases e2:setB U h b' with
         |none=>rw[e2]at hA;exact False.elim hA
         |some U'=>
           rw[e2]at hA;have hA:∀v H' o os',Ba W H' c v o->A6 W H' U' Y os'->(o++os').Nodup->AY H (H') (o1++os) (o++os')->Q v H':=hA
           have nb:C.cp (.b b)=false:=by
            cases b with
            |lst _=>rfl
            |p _=>exact absurd es (by unfold Fp;exact nofun)
            |ro _=>exact absurd es (by unfold Fp;exact nofun)
           have hb:BJ W H b (.ref a) [a]:=by
            cases h with
            |AN c=>exact absurd rfl (hp c)
            |A4 i=>
              obtain⟨v,o,q1,q2,_⟩:=hR.get (show A8 U i=some (.b b)from ec);rw[hh.1]at q1;cases q1;have:=BJ.addr q2 nb;subst this;exact q2
            |Aw i f=>
              obtain⟨a0,C,dx,fs,v,b0,o',q1,q2,_,_,q5,eb,q6⟩:=HV hR (show BD U i f=some (.b b)from ec);cases eb;obtain⟨_,a1,C1,dx1,fs1,g1,g2,g3⟩:=hh;rw[g1]at q1;cases q1;rw[g2]at q2;cases q2;rw[g3]at q5;cases q5;have:=BJ.addr q6 nb;subst this;exact q6
           refine hM H a b b' cs c vs Q hb nb (E6 hR h1 ed) es λv x' hb' k rc=>?_
           obtain⟨os',t1,t2,t3⟩:=OG hR (nA hn).2.1 ec hh nb hb' k e2;exact hA v _ [] os' rc t1 (t2.nodup_iff.mpr (nA hn).2.1) (t3.weak λa ha=>mR ha)
theorem bf(m:MO)(o:T)(ts:List T)(U:Env):ev cf mt (.Ey m o ts) U=match placeOf o with
 |some h=>if m.ok&&Yn (h.cont U)&&(!h.HP||ts.all T.calm)then(Ae cf mt ts U).bind λhs U=>JV m h hs U else .A2
 |none=>.A2:=by
 show(den cf mt (.Ey m o ts)).v U=_;rfl
inductive Qh(X:Cx)(W:Wd):Expr->T->TE->Prop where
 |nm {x:Str} {p:Pos} {i:Nat} (h:PE X (.Name x p) (EO i)):Qh X W (.Name x p) (.A3 i) (EO i)
 |fl {x f:Str} {p q:Pos} {i:Nat} (h:PE X (.Attribute (.Name x p) f q) (Z0 X.K (EO i) f)):Qh X W (.Attribute (.Name x p) f q) (.Aw i f) (Z0 X.K (EO i) f)
theorem Qh.pe{to:TE}(h:Qh X W e o to):PE X e to:=by cases h<;>assumption
theorem Qh.base{to:TE}(h:Qh X W e o to)(m:Str)(env:PySem.Env):attributeBase e m env (eval e env)=eval e env:=by cases h<;>rfl
theorem NY(hK:W.K=X.K){m:MO}{r:V->List V->Hp->VK->Prop}(hM:LU W m r){to:TE}(hr:Qh X W e o to){es:List Expr}{ts:List T}(h:BI X W cf mt es ts){Y:L2.St}{Q:VK}(z:tG W (AI X W) (rV W) (ev cf mt (.Ey m o ts)) Y H Q):
 to Y H λx H1=>jd X.K "list" x H1/\(if ts.all T.calm=true then UL W ts else tG W (AI X W) (Bt W) (Ae cf mt ts)) Y H1 λxs H2=>r x xs H2 Q:=by
 obtain⟨U,os,hR,hn,hA⟩:=z;rw[bf]at hA
 have fin:∀(h:Hd) (a:Addr),(∀c,h≠.AN c)->FW W Y H U h (.ref a) []->(h.HP=true->ts.all T.calm=true)->(∀H1 U1,h.HP=false->FW W Y H1 U1 h (.ref a) [])->Ck W (AI X W) (rV W Y) H os Y ((Ae cf mt ts U).bind λhs U=>JV m h hs U) Q->
  (if ts.all T.calm=true then UL W ts else tG W (AI X W) (Bt W) (Ae cf mt ts)) Y H λxs H2=>r (.ref a) xs H2 Q:=by
  intro h a hp hh hc hst hA;split
  .rename_i hcalm;rcases Es (cf:=cf) (mt:=mt) hcalm hR with⟨hs,e1,q⟩|e1
   .rw[e1,Res.A5]at hA;exact q _ λvs hv=>NZ (o1:=[]) hM hR hn hh hv hp hA
   .rw[e1]at hA;exact False.elim hA
  .rename_i hcalm
   have hnf:h.HP=false:=by
    cases e:h.HP with
    |false=>rfl
    |true=>exact absurd (hc e) hcalm
   exact Bz (rep':=rV W) (G:=λhs U=>JV m h hs U) (Q:=Q) #[U,os,hR,hn,hA] λhs U1 vs H1 o1 os1 r1 r2 r3 r4 _ _=>NZ hM r2 r3 (hst H1 U1 hnf) r1 hp r4
 cases hr with
 |@nm x p i hx=>
   have hA:Ck W (AI X W) (rV W Y) H os Y (if(m.ok&&Yn (A8 U i)&&(!false||ts.all T.calm))=true then(Ae cf mt ts U).bind λhs U=>JV m (.A4 i) hs U else .A2) Q:=hA;split at hA
   case isFalse=>exact False.elim hA
   rename_i hc;rw[bA,bA]at hc;cases hg:A8 U i with
   |none=>rw[hg]at hc;exact absurd hc.1.2 (by decide)
   |some d=>
     rw[hg]at hc;unfold Yn at hc;split at hc
     .rename_i ps hd;cases hd;obtain⟨v,o,q1,q2,_⟩:=hR.get hg;obtain⟨a,vs,rfl,q3,q4,rfl⟩:=q2;exact#[.ref a,q1,.inl #[rfl,vs,Fd.of q3],fin (.A4 i) a (λc z=>by cases z) #[q1,rfl] (λz=>by cases z) (λ_ _ _=>#[q1,rfl]) hA]
     .exact absurd hc.1.2 (by decide)
 |@fl x f p q i hx=>
   have hA:Ck W (AI X W) (rV W Y) H os Y (if(m.ok&&Yn (BD U i f)&&(!true||ts.all T.calm))=true then(Ae cf mt ts U).bind λhs U=>JV m (.Aw i f) hs U else .A2) Q:=hA;split at hA
   case isFalse=>exact False.elim hA
   rename_i hc;rw[bA,bA]at hc;cases hg:BD U i f with
   |none=>rw[hg]at hc;exact absurd hc.1.2 (by decide)
   |some d=>
     rw[hg]at hc;unfold Yn at hc;split at hc
     .rename_i ps hd;cases hd;obtain⟨a0,C,dx,fs,v,b0,o',q1,q2,c1,c2,q5,eb,q6⟩:=HV hR hg;cases eb;obtain⟨a,vs,rfl,q3,q4,rfl⟩:=q6;exact#[.ref a0,q1,a0,C,dx,fs,.ref a,rfl,q2,hK▸c1,hK▸c2,q5,.inl #[rfl,vs,Fd.of q3],fin (.Aw i f) a (λc z=>by cases z) #[rfl,a0,C,dx,fs,q1,q2,q5] (λ_=>by simpa using hc.2) (λ_ _ z=>by cases z) hA]
     .exact absurd hc.1.2 (by decide)
theorem RM(m:MO)(o:T)(ts:List T)(U:Env):tv cf mt (.Ey m o ts) U=((ev cf mt (.Ey m o ts) U).bind λc U=>.ok (Hd.AN c) U).bind λh U=>Res.of ((h.cont U).bind Cz) U:=by
 show(den cf mt (.Ey m o ts)).b U=(((den cf mt (.Ey m o ts)).v U).bind _).bind _;rfl
variable{id:String}{apos cpos:Pos}
theorem QH(hK:W.K=X.K)(hw:W.w=X.w){m:MO}{name:Str}{r:V->List V->Hp->VK->Prop}(hM:LU W m r)(A4:Slot "list" name id)(hty:typeOf (.builtin id)=pure (.type "method_descriptor"))(hm:dI X id r){to:TE}(hr:Qh X W e o to)(hline:(apos.endLine==cpos.line)=true):
 Au X W cf mt (.Call (.Attribute e name apos) [] [] cpos) (.Ey m o []):=by
 refine Au.of hK hw (λ_ _=>rfl) (RM m o []) rfl rfl (Ah (ZL PySem.F.plainAttrs_list A4 hty hm hr.pe (hr.base name _) hline) λY H Q z=>?_) (λ_=>rfl) rfl;exact NY hK hM hr .nil z
theorem KL(hK:W.K=X.K)(hw:W.w=X.w){m:MO}{name:Str}{r:V->List V->Hp->VK->Prop}(hM:LU W m r)(A4:Slot "list" name id)(hty:typeOf (.builtin id)=pure (.type "method_descriptor"))(hm:dI X id r){to:TE}(hr:Qh X W e o to)(hline:(apos.endLine==cpos.line)=true)
 (h:Au X W cf mt a x):Au X W cf mt (.Call (.Attribute e name apos) [a] [] cpos) (.Ey m o [x]):=by
 have hs:BI X W cf mt [a] [x]:=.cons h .nil;have st:starEach [a] X.env=[(false,eval a X.env)]:=Ac h.st [] X.env
 have gR:((backTo cpos (starEach [a] X.env)).all (λx=>!x.1)&&(backToKw cpos (keywordEach [] X.env)).all (λx=>x.1.isSome)
  && decide (([a]:List Expr).length+([]:List Keyword).length+(if([]:List Keyword).isEmpty then 0 else 1)<30))=true:=by rw[st];rfl
 have pa:PA X [a] (if[x].all T.calm=true then UL W [x]else tG W (AI X W) (Bt W) (Ae cf mt [x])):=by
  split
  .rename_i hc;obtain⟨tes,h1,h2⟩:=F8 hs hc;rw[h2];exact Hy h1
  .exact DS hs
 exact Au.of hK hw (λ_ _=>rfl) (RM m o [x]) rfl rfl (Ah (Ry PySem.F.plainAttrs_list A4 hty hm hr.pe pa (hr.base name _) gR hline st rfl) λY H Q z=>NY hK hM hr hs z) (λ_=>rfl) rfl
theorem Mw:LU W .extend NI:=JU λH a ps xs b' cs c vs Q h1 h2 hv e q=>by
 have e:FE ps cs=some (c,b'):=e;unfold FE at e;split at e
 .rename_i zs;split at e
  .rename_i hl;cases e;obtain⟨v,rfl,b,ws,rfl,s1,r1⟩:=CA hv;have k:=HL (x':=.lst (xs++ws)) h1;refine#[a,b,xs,ws,rfl,rfl,h1,s1,by rw[h2.length,r1.length];exact Nat.le_trans hl Cs,?_];exact q .Az (.lst (xs++ws)) #[a,xs++ws,rfl,Ar,A7.append (r1.mono k) (h2.mono k),rfl] k #[BR.mpr rfl,rfl]
  .cases e
 .cases e
end
theorem Ta:bootBuiltins "len"=some (.builtin "len"):=by decide +kernel
theorem bS:bootBuiltins "isinstance"=some (.builtin "isinstance"):=by decide +kernel
theorem bR:bootBuiltins "min"=some (.builtin "min"):=by decide +kernel
theorem bT:bootBuiltins "all"=some (.builtin "all"):=by decide +kernel
theorem WV:bootBuiltins "list"=some (.type "list"):=by decide +kernel
theorem LK:bootBuiltins "tuple"=some (.type "tuple"):=by decide +kernel
theorem Tb:bootBuiltins "int"=some (.type "int"):=by decide +kernel
theorem WW:bootBuiltins "bool"=some (.type "bool"):=by decide +kernel
theorem T9:bootBuiltins "str"=some (.type "str"):=by decide +kernel
section
variable{cf:CF}{mt:MT}
theorem I9:∀{ts:List T} {U U':Env} {hs:List Hd},Ae cf mt ts U= .ok hs U'->hs.length=ts.length
 |[],U,U',hs,e=>by rw[CS]at e;cases e;rfl
 | t ::ts,U,U',hs,e=>by
   rw[C4]at e;cases e1:BP t (ev cf mt t) U with
   |A2=>rw[e1]at e;cases e
   |err x p U2=>rw[e1]at e;cases e
   |ok h U2=>
     rw[e1,Res.A5]at e
     have fin:∀(h:Hd),((Ae cf mt ts U2).bind λhs U=>.ok (h::hs) U)= .ok hs U'->hs.length=(t::ts).length:=λh e=>by
      cases e2:Ae cf mt ts U2 with
      |A2=>rw[e2]at e;cases e
      |err x p U3=>rw[e2]at e;cases e
      |ok gs U3=>
        rw[e2]at e;cases e;rw[lC,lC,I9 e2]
     cases h with
     |AN c=>exact fin _ e
     |A4 i=>exact fin _ e
     |Aw i f=>
       dsimp only at e;split at e
       .exact fin _ e
       .cases e
variable{ts:List T}{H:Hp}
theorem L7{o:O}(Ao:o.ok=true){Y:L2.St}{Q:VK}(h:tG W (AI X W) (rV W) (ev cf mt (.A0 o ts)) Y H Q):tG W (AI X W) (Bt W) (Ae cf mt ts) Y H λvs H1=>vs.length=ts.length/\AU W (Ax o) vs H1 Q:=by
 refine K9 (λU hs U' e=>I9 e) (XX ?_)
 rw[show ev cf mt (.A0 o ts)=λU=>(Ae cf mt ts U).bind λhs U=>Res.of ((Ag U hs).bind (Ax o)) U from funext λU=>by
   show(den cf mt (.A0 o ts)).v U=_
   show(if o.ok=true then _ else _)=_
   rw[iP Ao]]at h
 exact h
theorem NC{g g':List C->Option C}{n:Nat}(hg:∀cs,cs.length=n->g cs=g' cs){vs:List V}{Q:VK}(h:vs.length=n/\AU W g vs H Q):AU W g' vs H Q:=by
 obtain⟨hl,cs,c,h1,h2,h3⟩:=h;exact#[cs,c,h1,by rw[<-hg cs (by rw[<-h1.length];exact hl)];exact h2,h3]
variable{id:String}
theorem Nw(hK:W.K=X.K)(hw:W.w=X.w){o:O}(Ao:o.ok=true){g:List C->Option C}(hc:Bc X (.builtin id) (AU W g)){e:Expr}{es:List Expr}{pos:Pos}(hg':∀cs,cs.length=ts.length->Ax o cs=g cs)(hv:bootBuiltins x=some (.builtin id))
 (hg:Gl X x)(hm:X.mg x=none)(hn:x≠"__name__")(hdb:ng x)(hi:B3 (.A0 o ts)=(.op,[.A0 o ts]))(h:BI X W cf mt (e::es) ts):Au X W cf mt (.Call (.Name x p) (e::es) [] pos) (.A0 o ts):=by
 have pl:=h.plain;exact Au.of hK hw AF B7 rfl hi (Ah (Dm (Bc.imp hc λxs H Q z=>NC hg' z) hg hm hv (DS h) hn hdb (Ac (pl e mS) es _) (Bv (λe he=>pl e (mC he)) pos _)) λY H Q z=>L7 Ao z) (λ_=>rfl) rfl
theorem Nv(hK:W.K=X.K)(hw:W.w=X.w){o:O}(Ao:o.ok=true){g:List C->Option C}(hc:Bc X (.type id) (AU W g)){e:Expr}{es:List Expr}{pos:Pos}(hg':∀cs,cs.length=ts.length->Ax o cs=g cs)(hv:bootBuiltins x=some (.type id))
 (hg:Gl X x)(hm:X.mg x=none)(hn:x≠"__name__")(hdb:ng x)(hi:B3 (.A0 o ts)=(.op,[.A0 o ts]))(h:BI X W cf mt (e::es) ts):Au X W cf mt (.Call (.Name x p) (e::es) [] pos) (.A0 o ts):=by
 have pl:=h.plain;exact Au.of hK hw AF B7 rfl hi (Ah (IT (Bc.imp hc λxs H Q z=>NC hg' z) hg hm hv (DS h) hn hdb (Ac (pl e mS) es _) (Bv (λe he=>pl e (mC he)) pos _)) λY H Q z=>L7 Ao z) (λ_=>rfl) rfl
theorem EZ{f:List C->Option C}{g:C->Option C}(h:∀c,f [c]=g c):∀cs:List C,cs.length=1->f cs=Pc g cs:=λcs hl=>by
 obtain⟨c,rfl⟩:=VV hl;exact h c
theorem ZU{f:List C->Option C}{g:C->C->Option C}(h:∀c d,f [c,d]=g c d):∀cs:List C,cs.length=2->f cs=jk g cs:=λcs hl=>by
 obtain⟨c,d,rfl⟩:=gw hl;exact h c d
theorem bH(hK:W.K=X.K)(hc:X.calm=true):Bc X (.type "list") (AU W (Pc λc=>(OU c).map .lst)):=by
 refine Bc.imp (T8 hK) λxs H Q z=>?_
 obtain⟨x,c,r,rfl,h1,h2,h3⟩:=CB z;obtain⟨ps,e1,rfl⟩:=oM h2;have go:∀{g:C->Option C},g c=some (.lst ps)->AU W (Pc g) [x] H Q:=λe=>#[[c],_,#[x,[],rfl,h1,rfl],e,h3]
 unfold OU at e1;split at e1
 .rename_i qs hn;cases e1;exact go (by show(DO c).map C.lst=_;unfold DO;rw[hn];rfl)
 .rename_i qs hn;cases e1;exact go (by show(DO c).map C.lst=_;unfold DO;rw[hn];rfl)
 .cases e1
theorem UU(hK:W.K=X.K)(hw:W.w=X.w){t:Ty}(ht:∀cs,t≠.cls cs)(hy:bootBuiltins y=some (.type (Nk t)))(hgy:Gl X y)(hmy:X.mg y=none)(hny:y≠"__name__")(hdy:ng y)
 (hg:Gl X "isinstance")(hm:X.mg "isinstance"=none){p pos:Pos}(h:Au X W cf mt a x):Au X W cf mt (.Call (.Name "isinstance" p) [a,.Name y q] [] pos) (.A0 (.F0 t) [x]):=by
 obtain⟨ta,q1,q2,m1⟩:=Hz h;have Ao:(O.F0 t).ok=true:=by cases t<;>first|rfl|exact absurd rfl (ht _)
 have pa:PA X [a,.Name y q] (Bl ta (Bl (tC (.ty (Nk t))) DJ)):=AV q1 (AV (NQ hgy hmy hy rfl hny hdy) Cp (Ac rfl [] _)) (Ac h.st _ _);refine Au.of hK hw AF B7 rfl rfl (Ah (Dm (ix hK hw t ht) hg hm bS pa (by decide) (by decide) (Ac h.st _ _) (Bv (λe he=>by rw[mE he];rfl) pos _)) λY H Q z=>?_) (λ_=>rfl) rfl;have z:=B8 Ao z;rw[q2]at z;refine m1 _ _ _ _ z λu H1 z=>?_
 obtain⟨c,r,g1,g2,g3⟩:=CL (g:=Ax (.F0 t)) (g1:=λc=>(DZ t c).map λb=>.p (.bl b)) (λ_=>rfl) z;obtain⟨b,e1,rfl⟩:=oM g2;exact#[u,c,b,rfl,g1,e1,g3.bl]
theorem J6:∀(ns:List Int),A7 W H (ns.map P.int) (ns.map V.int)
 |[]=>.nil
 |n::ns=>.cons (Ak.mpr rfl) (J6 ns)
end
section
variable{cf:CF}{mt:MT}
variable{ts:List T}
theorem Au.iter{k:IK}(st:Bd e=true)(nc:Bo e=false)(i:k.ok=true->∀tg,PI X tg e (Q9 W (AI X W) k (Ae cf mt ts))):Au X W cf mt e (.A0 (.iter k) ts):=by
 have hv:∀U,ev cf mt (.A0 (.iter k) ts) U= .A2:=λU=>Hx rfl U
 have v:PE X e (tG W (AI X W) (rV W) (ev cf mt (.A0 (.iter k) ts))):=Dl hv;refine#[v,Dl λU=>(by rw[AF,hv];rfl),L6 λU=>(by rw[B7,hv];rfl),λz=>(by cases z),st,i,λi y py spos hN hi' hx hf=>EW hN hi' hx v (Dh nc _ _ _) hf,λz=>(by rw[nc]at z;cases z)]
theorem IE{es:List Expr}{p pos:Pos}(hg:Gl X "range")(hm:X.mg "range"=none)(h:BI X W cf mt es ts)(hl:ts.length=1\/ts.length=3):Au X W cf mt (.Call (.Name "range" p) es [] pos) (.A0 (.iter .Co) ts):=by
 refine Au.iter rfl rfl (λ_ tg=>?_);have pd:=DS h;have hF:∀U hs U',Ae cf mt ts U= .ok hs U'->hs.length=ts.length:=λU hs U' e=>I9 e
 cases h with
 |nil=>rcases hl with z|z<;>cases z
 |cons h1 r1=>
   cases r1 with
   |nil=>exact Vy hg hm hF pd (Ac h1.st _ _)
   |cons h2 r2=>
     have s2:=Ac h2.st;cases r2 with
     |nil=>rcases hl with z|z<;>cases z
     |cons h3 r3=>
       have s3:=Ac h3.st;cases r3 with
       |nil=>exact Vx hg hm hF pd (by rw[Ac h1.st,s2,s3];rfl) (by rw[s2,s3];rfl)
       |cons _ _=>rcases hl with z|z<;>simp at z
theorem Ef(hK:W.K=X.K)(hw:W.w=X.w){o:O}(Ao:o.ok=false)(hi:B3 (.A0 o ts)=(.op,[.A0 o ts]))(st:Bd e=true)(nc:Bo e=false):Au X W cf mt e (.A0 o ts):=
 Au.not hK hw AF (λU=>Hx Ao U) (λU=>by rw[B7,Hx Ao];rfl) rfl hi st nc
theorem HY(U:Env):HZ cf mt [] U= .ok true U:=by unfold HZ;rfl
theorem SQ(t:T)(ts:List T):HZ cf mt (t::ts)=tv cf mt t:=funext λU=>by conv=>lhs;unfold HZ
theorem Kb(g:Tg)(k:IK)(its cond:List T)(elt:T)(fr:List (Option Nat)):ev cf mt (.comp g k its cond elt fr)=λU=>if k.ok then(Ae cf mt its U).bind (Jj k g fr (HZ cf mt cond) (ev cf mt elt))else .A2:=funext λU=>by
 show(den cf mt (.comp g k its cond elt fr)).v U=_;rfl
variable{ifs:List Expr}
theorem NM{t t':TT}(h:Xd X ifs t)(k:∀Y H Q,t' Y H Q->t Y H Q):Xd X ifs t':=λA1 s Y H Q I z=>h A1 s Y H Q I (k Y H Q z)
variable{cs:List T}
theorem ZG(h:BI X W cf mt ifs cs)(hl:cs.length<=1):Xd X ifs (tG W (AI X W) rB (HZ cf mt cs)):=by
 cases h with
 |nil=>
   refine NM Vw λY H Q z=>?_
   obtain⟨U,os,hR,hn,hA⟩:=z;rw[HY]at hA;exact hA true H [] os #[rfl,rfl] hR hn (AY.refl _ _)
 |cons h r=>
   cases r with
   |nil=>rw[SQ];exact Vv h.b
   |cons _ _=>simp at hl
theorem QQ(hK:W.K=X.K)(hw:W.w=X.w)(hc:X.calm=true){elt it tg:Expr}{sc:Scope}{pos:Pos}{N:List Str}{fr:List (Option Nat)}(ok:DF X.N X.env.scope N sc fr)(h1:Au X W cf mt it x)(hl:cs.length<=1)
 (hb:∀C s H fp,PG (B0 X N sc C s H fp) tg (gT W g)/\Au (B0 X N sc C s H fp) W cf mt elt e/\BI (B0 X N sc C s H fp) W cf mt ifs cs):
 Au X W cf mt (.ListComp elt [#[tg,it,ifs,0]] sc pos) (.comp g (B3 x).1 (B3 x).2 cs e fr):=by
 have hv:∀Y H Q,tG W (AI X W) (rV W) (ev cf mt (.comp g (B3 x).1 (B3 x).2 cs e fr)) Y H Q->(B3 x).1.ok=true/\JA (Q9 W (AI X W) (B3 x).1 (Ae cf mt (B3 x).2)) (gT W g) (tG W NX rB (HZ cf mt cs)) (tG W NX (rV W) (ev cf mt e)) fr Y H Q:=λY H Q z=>by
  rw[Kb]at z;cases hk:(B3 x).1.ok with
  |false=>rw[hk]at z;exact(Hh (λU=>rfl) z).elim
  |true=>rw[hk]at z;exact#[rfl,WI z]
 have hb':∀C s H fp,PG (B0 X N sc C s H fp) tg (gT W g)/\PE (B0 X N sc C s H fp) elt (tG W NX (rV W) (ev cf mt e))/\Xd (B0 X N sc C s H fp) ifs (tG W NX rB (HZ cf mt cs)):=λC s H fp=>#[(hb C s H fp).1,Ah (hb C s H fp).2.1.v λ_ _ _ z=>XM z,NM (ZG (hb C s H fp).2.2 hl) λ_ _ _ z=>XM z]
 have v:PE X (.ListComp elt [#[tg,it,ifs,0]] sc pos) (tG W (AI X W) (rV W) (ev cf mt (.comp g (B3 x).1 (B3 x).2 cs e fr))):=λA1 s Y H Q I z=>by
  obtain⟨hk,z⟩:=hv Y H Q z;exact Rv N fr hc ok (h1.i hk tg) hb' (Gd h1.st _) A1 s Y H Q I z
 have h:PE X (.ListComp elt [#[tg,it,ifs,0]] sc pos) (tG W (AI X W) (FW W) (BP (.comp g (B3 x).1 (B3 x).2 cs e fr) (ev cf mt (.comp g (B3 x).1 (B3 x).2 cs e fr)))):=Ah v λY H Q z=>MY z
 refine#[v,h,EV (Ra hK h λ_=>rfl) λY H Q z=>Ma ?_,λz=>(by cases z),rfl,λ_ tg'=>?_,λi y py spos hN hy hx hf=>?_,λ_=>#[_,_,_,_,rfl]]
 .rw[show(λU=>(BP (.comp g (B3 x).1 (B3 x).2 cs e fr) (ev cf mt (.comp g (B3 x).1 (B3 x).2 cs e fr)) U).bind λh U=>Res.of ((h.cont U).bind Cz) U)=tv cf mt (.comp g (B3 x).1 (B3 x).2 cs e fr)from funext λU=>by
    show(((den cf mt (.comp g (B3 x).1 (B3 x).2 cs e fr)).v U).bind _).bind _=(den cf mt (.comp g (B3 x).1 (B3 x).2 cs e fr)).b U
    rfl]
  exact z
 .show PI X tg' _ (Q9 W (AI X W) .op (Ae cf mt [.comp g (B3 x).1 (B3 x).2 cs e fr]));rw[Er];exact NN hK hw h
 .have hs:swapsWith (.ListComp elt [#[tg,it,ifs,0]] sc pos) (some (.Name y py)) spos.line X.env=pure (X.env.blockKind == .function&&X.env.kindOf y==some .local&&py.line==pos.line&&!(sc.names.any λ(n,k)=>n==y&&(k == .local||k == .cell))):=rfl;cases hbo:(X.env.blockKind == .function&&X.env.kindOf y==some .local&&py.line==pos.line&&!(sc.names.any λ(n,k)=>n==y&&(k == .local||k == .cell)))with
  |false=>
    rw[hbo]at hs;exact EW hN hy hx v hs hf
  |true=>
    rw[hbo]at hs
    have hl':X.env.scope.names.lookup y=some .local:=by
     simp only[bA]at hbo;exact beq_iff_eq.mp hbo.1.1.2
    intro A1 s Y H D I z;obtain⟨hk,z⟩:=hv Y H _ z;exact Rg N fr hN hy hl' hc ok (h1.i hk tg) hb' hs (Gd h1.st _) A1 s Y H D I z
end
section
variable{cf:CF}{mt:MT}
theorem Rf{st:Stmt}{as:List Nat}{F:Env->Res Fl}(hF:∀U,F U= .A2):PS X st (tS W (AI X W) as F):=λ_ _ _ _ _ _ h=>by
 obtain⟨U,os,hR,hn,hA⟩:=h;rw[hF]at hA;exact False.elim hA
end
section
variable{cf:CF}{mt:MT}
variable{H:Hp}
theorem Bj.put{ob:List Addr}(hb:BJ W H b y ob):∀{fs:List (Str×B)} {vs:List (Str×V)} {o:List Addr},Bj W H fs vs o->(o++ob).Nodup->∃o',Bj W H (Iv.Bq f b fs) (L2.Bq f y vs) o'/\o'.Nodup/\∀a∈o',a∈o++ob
 | [],_,_,⟨e1,e2⟩,hn=>by
   subst e1 e2;exact#[ob++[],#[y,[],ob,[],rfl,hb,#[rfl,rfl],rfl],by simpa using hn,λa ha=>by simpa using ha]
 | (g, c)::fs,_,_,⟨v,r,o1,o2,e1,h1,h2,e2⟩,hn=>by
   subst e1 e2;have hn':(o1++(o2++ob)).Nodup:=by rw[<-append_assoc];exact hn
   have n1:=nA hn';unfold Iv.Bq L2.Bq
   by_cases hg:g=f
   .rw[iP hg,iP hg];refine#[ob++o2,#[y,r,ob,o2,rfl,hb,h2,rfl],(perm_append_comm.nodup_iff).mp n1.2.1,λa ha=>?_];rcases mZ ha with z|z
    .exact mR z
    .exact mL (mR z)
   .rw [iN hg,iN hg];obtain⟨o',q1,q2,q3⟩:=Bj.put hb h2 n1.2.1;refine#[o1++o',#[v,_,o1,o',rfl,h1,q1,rfl],?_,λa ha=>?_]
    .rw[nodup_append];exact#[n1.1,q2,λa ha b hb z=>n1.2.2 a ha b (q3 b hb) z]
    .rcases mZ ha with z|z
     .exact mL (mL z)
     .rcases mZ (q3 a z)with y|y
      .exact mL (mR y)
      .exact mR y
theorem Bj.len:∀{fs:List (Str×B)} {vs:List (Str×V)} {o:List Addr},Bj W H fs vs o->vs.length=fs.length
 |[],_,_,h=>by rw[h.1];rfl
 |(g,c)::fs,_,_,⟨v,r,o1,o2,e1,h1,h2,e2⟩=>by rw[e1,lC,lC,Bj.len h2]
theorem S2{a C dx:Addr}{fs:List (Str×V)}{x':HO}(h:H a=some (.ins C dx fs)):AS H (upd H a x'):=λb=>by
 by_cases hb:b=a
 .subst hb;refine#[λxs z=>?_,λo u z=>?_]
  .rw[h]at z;cases z
  .rw[h]at z;cases z
 .rw[Ab hb];exact#[λ_ z=>z,λ_ _ z=>z]
theorem Wq(i:Nat)(f:Str)(v:T)(U:Env):exec cf mt Ai (.Hr i f v) U=(ev cf mt v U).bind λv U=>IH mt i f v U:=by
 rfl
variable{spos:Pos}{val:Expr}
theorem Vr(hK:W.K=X.K)(hF:∀c f,mt.f c f=true->BN X.K (W.Br c) f){f:Str}{apos:Pos}{i:Nat}(hx:PE X (.Name x p) (EO i))(hv:Au X W cf mt val v):
 PS X (.Assign [.Attribute (.Name x p) f apos] val spos) (tS W (AI X W) [] (exec cf mt Ai (.Hr i f v))):=by
 refine DR (ZD hx hv.v (by cases val<;>rfl)) λD Y H z=>?_
 obtain⟨U,os,hR,hn,hA⟩:=z;rw[Wq]at hA;refine#[U,os,hR,hn,after hR hA λc U1 y H1 o1 os1 r1 r2 r3 r4 r5=>?_];unfold IH at r5;cases hg:A8 U1 i with
 |none=>rw[hg]at r5;exact False.elim r5
 |some d=>
   rw[hg]at r5;cases d with
   |b _=>exact False.elim r5
   |obj kk fs=>
     cases c with
     |obj _ _=>exact False.elim r5
     |b b =>
       dsimp only at r5;split at r5
       case isFalse=>exact False.elim r5
       rename_i hc;rw[bA]at hc;have r5:∀Y' H' os',A6 W H' (U1.set i (some (.obj kk (Iv.Bq f b fs)))) Y' os'->os'.Nodup->AY H1 H' (o1++os1) os'->AR [] Y Y'->D.nx Y' H':=r5;obtain⟨vv,oi,osr,t1,t2,t3,t4⟩:=r2.take hg;obtain⟨a,dx,vs,osf,rfl,q1,q2,rfl,q4⟩:=t2;have n3:=nA r3;have nd:=nA (t4.nodup_iff.mpr n3.2.1);have nf:=nodup_cons.mp nd.1;have ha1:a∈os1:=t4.subset (mL mS);have no:BN X.K (W.Br kk) f:=hF kk f hc.1;refine#[.ref a,t1,a,W.Br kk,dx,vs,rfl,q1,hK▸q4.1,no,by rw[q2.len];have:=of_decide_eq_true hc.2;lia,?_];have kp:AS H1 (upd H1 a (.ins (W.Br kk) dx (L2.Bq f y vs))):=S2 q1;have bt:Js [a] H1 (upd H1 a (.ins (W.Br kk) dx (L2.Bq f y vs))):=D5 mS;have fr1:=q2.frame kp bt (λb hb z=>nf.1 (by rw[<-mE z];exact hb));have fb:BJ W (upd H1 a (.ins (W.Br kk) dx (L2.Bq f y vs))) b y o1:=BJ.frame r1 kp bt λb hb z=>n3.2.2 b hb a ha1 (mE z)
       have fr3:=t3.frame (t3.tb.upd kp q1 rfl) kp bt λb hb z=>nd.2.2 a mS b hb (mE z).symm
       have dis:∀b∈osf,b∈os1:=λb hb=>t4.subset (mL (mC hb))
       obtain⟨o',g1,g2,g3⟩:=Bj.put (f:=f) fb fr1 (by
        rw[nodup_append]
        exact#[nf.2,n3.1,λb hb d hd z=>n3.2.2 d hd b (dis b hb) z.symm])
       have ha':a∉o':=λz=>by
        rcases mZ (g3 a z)with y|y
        .exact nf.1 y
        .exact n3.2.2 a y a ha1 rfl
       obtain⟨os2,u1,u2⟩:=A6.fill (c:=.obj kk (Iv.Bq f b fs)) (v:=.ref a) (o:=a::o') #[a,dx,_,o',rfl,Ar,g1,rfl,q4.put (hK▸no)] fr3 (Bu (C9 hg)) (by rw[length_set];exact C9 hg);rw[set_set,set_same t1]at u1
       have nd2:((a::o')++osr).Nodup:=by
        rw[nodup_append];refine#[nodup_cons.mpr #[ha',g2],nd.2.1,λb hb d hd z=>?_];subst z;rcases mK hb with y|y
        .exact nd.2.2 a mS b hd y.symm
        .rcases mZ (g3 b y)with w|w
         .exact nd.2.2 b (mC w) b hd rfl
         .exact n3.2.2 b w b (t4.subset (mR hd)) rfl
       refine r5 Y _ os2 u1 (u2.nodup_iff.mpr nd2) #[D5 (mR ha1),λb hb=>.inl ?_,λb x e=>?_] (AR.refl _ _)
       .rcases mZ (u2.subset hb)with y|y
        .rcases mK y with w|w
         .rw[w];exact mR ha1
         .rcases mZ (g3 b w)with u|u
          .exact mR (dis b u)
          .exact mL u
        .exact mR (t4.subset (mR y))
       .by_cases hba:b=a
        .subst hba;exact#[_,Ar]
        .exact#[x,by rw[Ab hba];exact e]
theorem Wv(is:List Nat)(t:T)(U:Env):exec cf mt Ai (.asg (.tup is) t) U=(BP t (ev cf mt t) U).bind λh U=>Res.of ((h.cont U).bind λc=>IG (.tup is) c U) U |>.bind λU' _=>.ok .nx U':=by
 rfl
theorem Ww(i:Nat)(t:T)(U:Env):exec cf mt Ai (.asg (.nm i) t) U=(ev cf mt t U).bind λc U=>.ok .nx (U.set i (some c)):=by
 rfl
theorem QG{es:List Expr}{k:Nat}(h:MU e=false)(env:PySem.Env):swappedStores [.Tuple es k p] e env=pure none:=by
 cases e<;>first|rfl|cases h
theorem UO{es:List Expr}{k:Nat}{l:Nat}(env:PySem.Env):swapsWithSole [.Tuple es k p] e l env=pure false:=by
 show swapsWith e (some (.Tuple es k p)) l env=pure false;cases e<;>rfl
theorem P4{es:List Expr}{k:Nat}{is:List Nat}(hg:PG X (.Tuple es k p) (gT W (.tup is)))(hi:∀i∈is,i<X.N.length)(hv:Au X W cf mt val v)(hnt:MU val=false):
 PS X (.Assign [.Tuple es k p] val spos) (tS W (AI X W) is (exec cf mt Ai (.asg (.tup is) v))):=by
 intro A1 s Y H D I z;refine ZF hv.h hg (UO _) (QG hnt _) rfl A1 s Y H D I ?_;obtain⟨U,os,hR,hn,hA⟩:=z;rw[Wv]at hA;refine#[U,os,hR,hn,after hR hA λh U1 y H1 o1 os1 r1 r2 r3 r4 r5=>?_];cases ec:h.cont U1 with
 |none=>rw[ec]at r5;exact False.elim r5
 |some c=>
   rw[ec]at r5;have r6:De W (AI X W) is D Y H1 (o1++os1) ((Res.of (IG (.tup is) c U1) U1).bind λU' _=>.ok .nx U'):=r5;cases e2:IG (.tup is) c U1 with
   |none=>rw[e2]at r6;exact False.elim r6
   |some U'=>
     rw[e2]at r6;have r7:∀Y' H' os',A6 W H' U' Y' os'->os'.Nodup->AY H1 H' (o1++os1) os'->AR is Y Y'->D.nx Y' H':=r6;unfold IG at e2;split at e2
     .rename_i e0;cases e0
     .rename_i is' vs e0;cases e0;have rp:AH W H1 (.tup vs) y:=FN r2 r1 ec;exact Ss (g:=.tup is) e2 rp r2 (nA r3).2.1 (λi hi'=>by rw[I.len];exact hi i hi') λY' os' g1 g2 g3 g4=>r7 Y' H1 os' g1 g2 ((AY.refl _ _).sub λa ha=>mR (g3 a ha)) g4
     .cases e2
end
variable{A1:Oa}{s:Shared}
def Yx:HO:=.ext λ_=>True
def grown(H:Hp)(P c:Addr)(oc:Obj)(ps:Array Value):Hp:=upd (upd H c (.E4 oc Yx)) P (.Jy ps)
theorem So{P c:Addr}{oc:Obj}{ps more:Array Value}{h':Heap}{tk:Nat}(I:Inv X A1 Y H s)(hP:H P=some (.Jy ps))(hc:s.heap.objs.size<=c)
 (hx:∀b o,b≠P->s.heap.get? b=some o->h'.get? b=some o)(hoc:h'.get? c=some oc)(hPn:h'.get? P=some {cls:=.none,data:=.fields (ps++more)}):
 Inv X A1 Y (grown H P c oc (ps++more)) {s with heap:=h',toks:=tk}/\AS H (grown H P c oc (ps++more))/\∀os,AY H (grown H P c oc (ps++more)) os os:=by
 have hcn:H c=none:=I.Ao.fresh hc;have neP:∀b x,H b=some x->J5 x=false->b≠P:=λb x e n z=>by rw[z,hP]at e;cases e;cases n
 have nec:∀b x,H b=some x->b≠c:=λb x e z=>by rw[z,hcn]at e;cases e
 have hPc:P≠c:=nec P _ hP
 have same:∀b x,H b=some x->J5 x=false->grown H P c oc (ps++more) b=some x:=λb x e n=>by
  unfold grown;rw[Ab (neP b x e n),Ab (nec b x e)];exact e
 have lt:∀b o,s.heap.get? b=some o->b≠c:=λb o e z=>absurd (Nat.lt_of_lt_of_le (Heap.lt_size e) (z▸hc)) (Nat.lt_irrefl _)
 have neU:∀b,H b=none->b≠P:=λb n z=>by rw[z,hP]at n;cases n
 have there:∀b x,H b=some x->∃x',grown H P c oc (ps++more) b=some x':=λb x e=>by
  by_cases hb:b=P
  .exact#[_,by rw[hb];exact Ar]
  .exact#[x,by unfold grown;rw[Ab hb,Ab (nec b x e)];exact e]
 have kp:AS H (grown H P c oc (ps++more)):=λa=>#[λxs e=>same a _ e rfl,λo u e=>same a _ e rfl]
 refine#[I.un #[λb o e n hb _=>hx b o (neU b n) e,λb o e n hb _=>#[o.slots,hx b o (neU b n) e],λb o e n _=>?_,λb o e _=>?_,λb xs e=>same b _ e rfl,λb o u e=>same b _ e rfl,λb qs e=>?_] (λa o e=>?_),kp,λos=>#[λb x e _ n=>same b x e n,λa ha=>.inl ha,there]]
 .unfold grown;rw[Ab (neU b n),Ab (lt b o e)];exact n
 .by_cases hb:b=P
  .exact#[_,by rw[hb];exact hPn]
  .exact#[o,hx b o hb e]
 .by_cases hb:b=P
  .rw[hb,hP]at e;cases e;exact#[more,by rw[hb];exact Ar]
  .exact#[[].toArray,by unfold grown;rw[Ab hb,Ab (nec b _ e),e];simp]
 .by_cases ha:a=P
  .subst ha;have e:grown H a c oc (ps++more) a=some o:=e;unfold grown at e;rw[Ar]at e;cases e;exact hPn
  .by_cases ha2:a=c
   .subst ha2;unfold grown at e;rw[Ab ha,Ar]at e;cases e;exact#[hoc,trivial,#[_,hoc],λ_ _ _ _=>trivial]
   .have e0:H a=some o:=by
     unfold grown at e;rw[Ab ha,Ab ha2]at e;exact e
    refine(I.Ao a o e0).Di (λb u hb q=>hx b u ?_ q) (λb q=>same b _ q rfl) λb xs q=>same b _ q rfl
    rcases hb with rfl|hb
    .exact ha
    .exact neP b _ hb rfl
theorem IX:∀{l:List (α×β)} {p q:α×β},(l.map (·.1)).Nodup->p∈l->q∈l->p.1=q.1->p=q
 |[],_,_,_,h,_,_=>by cases h
 | x ::l,p,q,hn,hp,hq,e=>by
   rw[map_cons,nodup_cons]at hn;rcases mK hp with hp1|hp1
   .rcases mK hq with hq1|hq1
    .rw[hp1,hq1]
    .exact absurd (by rw[<-hp1,e];exact mem_map_of_mem hq1) hn.1
   .rcases mK hq with hq1|hq1
    .exact absurd (by rw[<-hq1,<-e];exact mem_map_of_mem hp1) hn.1
    .exact IX hn.2 hp1 hq1 e
variable{sc:Scope}
theorem RZ{as:Arguments}{lp:Pos}{P:Addr}{clos:List (Str×Addr)}{Q:Va}(I:Inv X A1 Y H s)(tb:Ds W H)(hnd:(W.tabs.map (·.1)).Nodup)(hq:(P,lp,X.env.qual++"<lambda>")∈W.tabs)
 (hdef:defaultsOf as X.env=([],[]))(hcl:closureFor sc X.env=pure clos)(hcode:X.env.code= .ref c)(C:CodeHd X.base c P)(hB:X.base.BuiltinsAt X.mg P)(hgP:mainGlobals≠P)
 (h:∀(c0 cc:Addr) (ctv:Value) (s':Shared) (H':Hp),Inv X A1 Y H' s'->AS H H'->(∀os,AY H H' os os)->Ds W H'->LY H' (cc,X.env.qual++"<lambda>")->
   s'.heap.get? c0=some {cls:=.type "function",data:=.func (kla_fn "<lambda>" (X.env.qual++"<lambda>") as b sc clos ((X.mg "__name__").getD .none) (.ref cc) ctv)}->s.heap.objs.size<=c0->H' c0=none->
   (∀a o,s.heap.get? a=some o->H a=none->s'.heap.get? a=some o)->Q (.ref c0) s'):(X|||(eval (.Lambda as b sc lp) X.env)) Q X.xe s:=by
 obtain⟨ps,hP,ht,hcodes⟩:=tb.1 _ hq;have hPs:s.heap.get? P=some (tabObj ps):=I.Ao P _ hP;have hg:s.heap.Ns mainGlobals X.mg:=I.mod.glob.keeps I.bk;have hb:s.heap.BuiltinsAt X.mg P:=let⟨bm,o,q1,q2,q3,q4,q5,q6⟩:=hB;#[bm,o,q1,q2,q3,q4,I.bk _ _ q5,q6];refine PySem.W.kla_eval hdef ?_;cases hf:codeAmong lp ps.toList with
 |some cv=>
   obtain⟨cc,rfl,hcc⟩:=hcodes cv hf;refine PySem.W.kla_makeFunctionHit hcl I.ok.glob hg hcode (C.keeps I.bk) hPs ht hf hb λctv h' tk hk hsz=>?_
   have hk2:∀a o,s.heap.get? a=some o->(h'.push {cls:=.type "function",data:=.func (kla_fn "<lambda>" (X.env.qual++"<lambda>") as b sc clos ((X.mg "__name__").getD .none) (.ref cc) ctv)}).get? a=some o:=λa o e=>gP (hk a o e)
   exact h _ cc ctv _ H (I.kept hk2) (λa=>#[λ_ e=>e,λ_ _ e=>e]) (λos=>AY.refl H os) tb hcc (Heap.get?_push_size _ rfl) hsz (I.Ao.fresh hsz) λa o e _=>hk2 a o e
 |none=>
   refine PySem.W.kla_makeFunction hcl I.ok.glob hg hcode (C.keeps I.bk) hPs ht hf hgP hb λc' ctv h' tk hx hge hlt hrec htb=>?_
   obtain⟨c2,oc,vs,t,e2,hoc,hd,hv⟩:=hrec;cases e2;have hk2:∀a o,a≠P->s.heap.get? a=some o->(h'.push (PySem.W.kla_obj "<lambda>" (X.env.qual++"<lambda>") as b sc clos ((X.mg "__name__").getD .none) c' ctv)).get? a=some o:=λa o n e=>gP (hx a o n e)
   obtain⟨g1,g2,g3⟩:=So (c:=c') (oc:=oc) (tk:=tk) I hP hge hk2 (gP hoc) (gP htb);have hPc:P≠c':=λz=>by rw[z,I.Ao.fresh hge]at hP;cases hP
   have hszc:s.heap.objs.size<=h'.objs.size:=Nat.le_trans hge (Nat.le_of_lt hlt);have hcdn:LY (grown H P c' oc (ps++ [rawInt lp.line,rawInt lp.col,Value.ref c'].toArray)) (c',X.env.qual++"<lambda>"):=#[oc,Yx,vs,t,by unfold grown;rw[Ab hPc.symm];exact Ar,hd,hv];refine h _ c' ctv _ _ g1 g2 g3 #[λq hq2=>?_,λq hq2=>(tb.2 q hq2).keep g2] hcdn (Heap.get?_push_size _ rfl) hszc ?_ λa o e n=>hk2 a o (λz=>by rw[z,hP]at n;cases n) e
   .by_cases hqP:q.1=P
    .have eq:q=(P,lp,X.env.qual++"<lambda>"):=IX hnd hq2 hq hqP;subst eq;have el:(ps++ [rawInt lp.line,rawInt lp.col,Value.ref c'].toArray).toList=ps.toList++[rawInt lp.line,rawInt lp.col,Value.ref c']:=by simp
     refine#[_,Ar,by rw[el];exact TriplesOk_snoc _ _ _ _ ht,λcv e=>?_];rw[el]at e;have e:codeAmong lp (ps.toList++[rawInt lp.line,rawInt lp.col,Value.ref c'])=some cv:=e;rw[codeAmong_snoc _ ht hf]at e;cases e;exact#[c',rfl,hcdn]
    .obtain⟨qs,k1,k2,k3⟩:=tb.1 q hq2;refine#[qs,?_,k2,λcv e=>?_]
     .unfold grown;rw[Ab hqP,Ab λz=>by rw[z,I.Ao.fresh hge]at k1;cases k1];exact k1
     .obtain⟨d,j1,j2⟩:=k3 cv e;exact#[d,j1,j2.keep g2]
   .unfold grown;rw[Ab λz=>?_,Ab (Nat.ne_of_gt hlt)]
    .exact I.Ao.fresh hszc
    .have:=I.Ao.lt hP;rw[<-z]at this;exact absurd (Nat.lt_of_lt_of_le this hszc) (Nat.lt_irrefl _)
def baseOf(B h:Heap)(L:List Addr):Heap:=hideAll h ((List.range h.objs.size).filter λb=>(B.get? b).isNone&&!L.contains b)
variable{h:Heap}
theorem Ie{B:Heap}(k:∀b o,B.get? b=some o->h.get? b=some o){b:Addr}{o:Obj}(e:B.get? b=some o):(baseOf B h L).get? b=some o:=
 hideAll_get _ (k b o e) λhm=>by
  have:=(mem_filter.mp hm).2;rw[e]at this;simp at this
theorem Jq{B:Heap}{L:List Addr}{b:Addr}{o:Obj}(hb:b∈L)(e:h.get? b=some o):(baseOf B h L).get? b=some o:=
 hideAll_get _ e λhm=>by
  have:=(mem_filter.mp hm).2;simp[hb]at this
theorem Jp{B:Heap}{o:Obj}(e:(baseOf B h L).get? b=some o):h.get? b=some o/\((∃o',B.get? b=some o')\/b∈L):=by
 have e':h.get? b=some o:=of_hideAll _ e;refine#[e',?_]
 by_cases hb:b∈L
 .exact .inr hb
 .cases q:B.get? b with
  |some o'=>exact .inl #[o',rfl]
  |none=>
    have hm:b∈(List.range h.objs.size).filter λb=>(B.get? b).isNone&&!L.contains b:=mem_filter.mpr #[mem_range.mpr (Heap.lt_size e'),by simp[q,hb]]
    have z:(baseOf B h L).get? b=none:=hideAll_none _ hm;rw[z]at e;cases e
theorem GB{B B':Heap}:∀{l:List PySem.Env},h.FunFrames B l->(∀b∈Cv l,B.get? b=none->B'.get? b=none)->h.FunFrames B' l
 |[],_,_=>trivial
 |env::l,⟨hk,⟨L,o,hf,hn,ho,hd⟩,hr⟩,k=>⟨hk,#[L,o,hf,k L (by unfold Cv;rw[filterMap_cons,hf];exact mS) hn,ho,hd],GB hr λb hb=>k b (by
     unfold Cv at hb ⊢;rw[filterMap_cons,hf]
     exact mC hb)⟩
theorem PU{L:List Addr}(I:Inv X A1 Y H s)(hL:∀b∈L,∃o,s.heap.get? b=some o/\H b=none)(hF:∀b∈L,b∉Cv X.stack):Gp X.prog X.w X.K X.mg (baseOf X.base s.heap L) X.A X.stack s H:=by
 have k:∀b o,X.base.get? b=some o->(baseOf X.base s.heap L).get? b=some o:=λb o e=>Ie I.bk e
 have m:=I.mod;refine#[I.ok.frames,#[m.PB.keeps k,m.glob.keeps k,let⟨mb,h1,h2⟩:=m.blt;#[mb,h1.keeps k,h2],m.nolimit.keeps k],λb o e=>?_,Nat.le_of_eq (hideAll_size _ _),GB I.stack λb hb n=>?_,I.Ec,I.Ao,I.bare]
 .obtain⟨e1,e2⟩:=Jp e;rcases e2 with⟨o',e2⟩|e2
  .exact#[e1,(I.bs b o' e2).2]
  .obtain⟨o',q1,q2⟩:=hL b e2;exact#[e1,q2]
 .cases q:(baseOf X.base s.heap L).get? b with
  |none=>rfl
  |some o=>
    rcases(Jp q).2 with⟨o',e2⟩|e2
    .rw[n]at e2;cases e2
    .exact absurd hb (hF b e2)
structure TL(W W':Wd):Prop where
 K:W.K=W'.K
 w:W.w=W'.w
 Br:W.Br=W'.Br
 tabs:W.tabs=W'.tabs
variable{W':Wd}
theorem TL.symm(h:TL W W'):TL W' W:=#[h.K.symm,h.w.symm,h.Br.symm,h.tabs.symm]
variable{W':Wd}
mutual
theorem Eg (q:TL W W'):∀{p:P} {v:V},BX p=true->AH W H p v->AH W' H p v
 |.Az,_,_,h=>h
 |.bl _,_,_,h=>h
 |.int _,_,_,h=>h
 |.str _,_,_,h=>h
 |.fn _,_,n,_=>by cases (n:false=true)
 |.box _ _,_,n,_=>by cases (n:false=true)
 | .tup ps,v,n,h=>by
   obtain⟨a,vs,e,h1,h2⟩:=Dj.mp h;exact Dj.mpr #[a,vs,e,q.K▸h1,Hs q n h2]
theorem Hs (q:TL W W'):∀{ps:List P} {vs:List V},Gu ps=true->A7 W H ps vs->A7 W' H ps vs
 |[],_,_,h=>h
 | p::ps,vs,n,h=>by
   have n:(BX p&&Gu ps)=true:=n;rw[bA]at n;unfold A7 at h ⊢;obtain⟨v,r,e,h1,h2⟩:=h;exact#[v,r,e,Eg q n.1 h1,Hs q n.2 h2]
end
theorem ET(q:TL W W'):∀{fs:List (Str×B)} {vs:List (Str×V)} {o:List Addr},C8 fs=true->Bj W H fs vs o->Bj W' H fs vs o/\o=[]
 |[],vs,o,_,h=>#[h,h.2]
 | (f,b)::fs,vs,o,n,⟨v,r,o1,o2,e1,h1,h2,e⟩=>by
   cases b with
   |p x=>
     have n:(BX x&&C8 fs)=true:=n;rw[bA]at n;obtain⟨g1,g2⟩:=ET q n.2 h2;have h1:AH W H x v/\o1=[]:=h1;refine#[#[v,r,o1,o2,e1,#[Eg q n.1 h1.1,h1.2],g1,e],?_];rw[e,h1.2,g2];rfl
   |_=>cases (n:false=true)
theorem R0(q:TL W W')(hc:∀c,W'.Br (tag c)=W.Br c){c:Nat}{fs:List (Str×B)}{a:Addr}(n:C8 fs=true)(hs:W'.OT=a)(h:Ba W H (.obj c fs) (.ref a) o):Ba W' H (.obj (tag c) fs) (.ref a) o/\o=[a]:=by
 obtain⟨a',dx,vs,os,e,h1,h2,h3,h4,h5,h6⟩:=h;cases e;obtain⟨g1,g2⟩:=ET q n h2;refine#[#[a,dx,vs,os,rfl,by rw[hc];exact h1,g1,h3,?_,?_,λ_=>hs.symm],by rw[h3,g2]]
 .rw[hc,<-q.K];exact h4
 .rw[hc,<-q.K];exact h5
theorem Mj(q:TL W W')(hc:∀c,W'.Br (tag c)=W.Br c){c:Nat}{fs:List (Str×B)}(n:C8 fs=true)(hs:1000<=c->W'.OT=W.OT)(h:Ba W' H (.obj (tag c) fs) v o):Ba W H (.obj c fs) v o/\v= .ref W'.OT/\o=[W'.OT]:=by
 obtain⟨a,dx,vs,os,rfl,h1,h2,h3,h4,h5,h6⟩:=h;obtain⟨g1,g2⟩:=ET q.symm n h2;have ha:a=W'.OT:=h6 (by unfold tag;split<;>lia);subst ha;refine#[#[W'.OT,dx,vs,os,rfl,by rw[<-hc];exact h1,g1,h3,?_,?_,λz=>hs z],rfl,by rw[h3,g2]]
 .rw[<-hc,q.K];exact h4
 .rw[<-hc,q.K];exact h5
theorem ON(q:TL W W')(hc:∀r∈W'.dC,LY H r)(h:Ds W H):Ds W' H:=#[λr hr=>h.1 r (q.tabs▸hr),hc]
noncomputable def Jf(P:Program)(w:World)(K:PySem.W.Frag)(mg:Str->Option Value)(base:Heap)(N:List Str)(qual:Str)(scope:Scope)(f:Addr)(cd:Value)(cl:List (Str×Addr))(A:Around)(outer:List PySem.Env)(s:Shared)(H:Hp)(E:XK):Cx where
 prog:=P
 w:=w
 K:=K
 mg:=mg
 base:=base
 A:=A.deeper (envX qual scope s.heap.objs.size f cd cl)
 N:=N
 s₀:=s
 H₀:=H
 env:=envX qual scope s.heap.objs.size f cd cl
 outer:=outer
 stack:=envX qual scope s.heap.objs.size f cd cl::outer
 ex:=[]
 calm:=true
 fn:=λ_=>false
 pn:=[]
 xe:=λe s'=>wpAny (model P w) (A.deeper (envX qual scope s.heap.objs.size f cd cl)) (leaving (envX qual scope s.heap.objs.size f cd cl) e) (λ_ s''=>Xc.Eb P w outer H s E e s'') (λe' s''=>Xc.Eb P w outer H s E e' s'') s'
structure TQ(N:List Str)(sc:Scope)(cl:List (Str×Addr)):Prop where
 kind:sc.kind= .function
 co:sc.isCoroutine=false
 gen:sc.isGenerator=false
 DT:∀x∈sc.names,x.2≠.cell
 free:∀x,sc.names.lookup x≠some .local
 inj:∀x y c,cl.lookup x=some c->cl.lookup y=some c->x=y
 has:∀x,sc.names.lookup x=some .free->∃c,cl.lookup x=some c
section
variable{P:Program}{w:World}{K:PySem.W.Frag}{mg:Str->Option Value}{base:Heap}
theorem DV{k:NameKind}:∀{l:List (Str×NameKind)},l.lookup x=some k->∃y∈l,y.2=k
 |[],h=>by simp at h
 | (y,j)::l,h=>by
   rw[lookup_cons]at h;cases hb:x==y with
   |true=>rw[hb]at h;cases h;exact#[_,mS,rfl]
   |false=>rw[hb]at h;obtain⟨z,h1,h2⟩:=DV h;exact#[z,mC h1,h2]
variable{qual:Str}{sc:Scope}{A:Around}{s:Shared}{H:Hp}{vs:List V}
theorem Wa{N:List Str}{cd:Value}{cl:List (Str×Addr)}{outer:List PySem.Env}{E:XK}{h':Heap}{tk:Nat}(S:TQ N sc cl)(hd:A.handled=none)(e0:Gp P w K mg base A outer s H)
 (hcell:∀x c,cl.lookup x=some c->∃u,base.IsCell c (some u))(hvs:vs.length=N.length)(hv:∀(i:Nat) (x:Str) (v:V),N[i]? =some x->vs[i]? =some v->∃c u,cl.lookup x=some c/\base.IsCell c (some u)/\RelV v u)
 (hns:h'.Ns s.heap.objs.size λ_=>none)(hsb:∀b o,s.heap.get? b=some o->h'.get? b=some o):
 Inv (Jf P w K mg base N qual sc f cd cl A outer s H E) [] (vs.map some) H {s with heap:=h',toks:=tk}:=by
 have bk:∀b o,base.get? b=some o->h'.get? b=some o:=λb o e=>hsb b o (e0.bs b o e).1
 have cellk:∀{c:Addr} {u:Value},base.IsCell c (some u)->h'.IsCell c (some u):=λ{c u} ⟨o,ho,hd⟩=>#[o,bk _ _ ho,hd]
 have cellf:∀{c:Addr} {u:Value},base.IsCell c (some u)->H c=none:=λ{c u} ⟨o,ho,_⟩=>(e0.bs _ _ ho).2
 have frsz:∀b∈Cv outer,b≠s.heap.objs.size:=λb hb z=>by
  obtain⟨_,o,ho,_⟩:=e0.EA.mem hb;rw[z]at ho;exact absurd (Heap.lt_size ho) (Nat.lt_irrefl _)
 refine#[#[e0.mod,S.kind,rfl,rfl,lR,S.inj,λx hx=>?_,λx c hx=>(by cases hx),λ_=>hd,?_,.inr #[rfl,rfl],λb hb=>(by cases hb),e0.bs,e0.Tc,λb o e hb=>(by cases hb),λb hb=>(by cases hb),e0.EA,e0.Wk],rfl,e0.bare,Un.kept hsb,#[_,hns,λi x v e1 e2 e3=>?_],λx c e=>?_,e0.Ao.fresh (lR),λx c e=>?_,λp hp=>(by cases hp),e0.Ao.kept hsb,by rw[lM];exact hvs]
 .rcases hx with hx|hx
  .obtain⟨y,h1,h2⟩:=DV (show sc.names.lookup x=some .cell from hx);exact absurd h2 (S.DT y h1)
  .exact S.has x hx
 .have:=e0.frames
  first|exact congrArg _ (by rfl)|(simp[Jf,Around.deeper,this])
 .rw[List.getElem?_map]at e2;obtain⟨v',h1,h2⟩:=oM e2;cases h2;obtain⟨c,u,q1,q2,q3⟩:=hv i x v e1 h1;refine#[u,q3,.inr #[?_,c,q1,cellk q2]];rcases e3 with z|z|z
  .exact absurd z (S.free x)
  .obtain⟨y,h1,h2⟩:=DV z;exact absurd h2 (S.DT y h1)
  .exact .inr z
 .obtain⟨u,q⟩:=hcell x c e;exact#[some u,cellk q]
 .obtain⟨u,q⟩:=hcell x c e;exact cellf q
theorem VZ{k:Nat}{as:Arguments}{clos:List (Str×Addr)}{pm cv ctv:Value}{N:List Str}{outer:List PySem.Env}{Q:VK}{E:XK}{t:TE}
 (e0:Gp P w K mg base A outer s H)(hr:Bk (k+1) A)(S:TQ N sc clos)(ho:base.get? c0=some {cls:=.type "function",data:=.func (kla_fn "<lambda>" qual as b sc clos pm cv ctv)})(hcd':s.heap.CodeRec cv qual)
 (hbind:bindArgs (kla_fn "<lambda>" qual as b sc clos pm cv ctv) #[[],[]]=pure [])(hcell:∀x c,clos.lookup x=some c->∃u,base.IsCell c (some u))(hvs:vs.length=N.length)(hv:∀(i:Nat) (x:Str) (v:V),N[i]? =some x->vs[i]? =some v->∃c u,clos.lookup x=some c/\base.IsCell c (some u)/\RelV v u)
 (hpe:PE (Jf P w K mg base N qual sc c0 cv clos A outer s H E) b t)(hq:t (vs.map some) H Q):codeAny (model P w) A (.call (.ref c0) #[[],[]]) (L2.CR (Xc.Eb P w) outer P w H s Q E) s:=by
 have lim:s.heap.NoLimit:=e0.mod.nolimit.keeps λb o e=>(e0.bs b o e).1
 refine PySem.W.kla_callFunE hr.depth (e0.bs _ _ ho).1 rfl S.co S.gen rfl hcd' ?_;rw[hbind];refine wP (wpAny_newFunctionEnv S.DT (λx hx=>by cases hx) (λh₁ hns hsb=>?_) S.kind);have hk:∀b o,s.heap.get? b=some o->h₁.get? b=some o:=λb o e=>hsb.extBut b o (Nat.ne_of_lt (Heap.lt_size e)) (gP e)
 refine#[lim.keeps hk,?_];show codeAny _ _ (.expr b (envX qual sc s.heap.objs.size c0 cv clos)) _ _;have I:=Wa (E:=E) (qual:=qual) (f:=c0) (cd:=cv) (tk:=s.toks+0) S hr.hd e0 hcell hvs hv (by simpa using hns) hk;refine PySem.W.kla_codeExpr (wpAny_mono (hpe [] _ _ H Q I hq) (λv s' ⟨y,H',J,r,q⟩=>?_) λe s' z=>z);exact#[y,H',J.os,J.bare,J.base,J.Ao,r,q]
end
def E8(n:Nat):List V:=match n/1048576 with
 |0=>[]
 |v+1=>[.int v]
def YK(P:Program)(w:World)(K:PySem.W.Frag)(mg:Str->Option Value)(base:Heap)(W:Wd)(cf:CF)(k n:Nat):Prop:=(∃o fd,base.get? (W.Cq n)=some o/\o.data= .func fd)/\∀(A:Around) (outer:List PySem.Env) (s:Shared) (H:Hp) (Q:VK) (E:XK),Bk k A->Gp P w K mg base A outer s H->
 JC W (cf (Gh n)) (.ref W.OT::E8 n) H Q E->codeAny (model P w) A (.call (.ref (W.Cq n)) #[[],[]]) (L2.CR (Xc.Eb P w) outer P w H s Q E) s
abbrev dh(X:Cx)(W:Wd)(cf:CF)(k n:Nat):Prop:=YK X.prog X.w X.K X.mg X.base W cf k n
section
variable{cf:CF}{mt:MT}
theorem Rz{i k:Nat}{pos:Pos}(hv:PE X (.Name x p) (EO i))(hr:Bk k X.A):
 PE X (.Call (.Name x p) [] [] pos) (λY H Q=>∃n,Y[i]? =some (some (.ref (W.Cq n)))/\dh X W cf k n/\JC W (cf (Gh n)) (.ref W.OT::E8 n) H Q (EE W (AI X W) Y)):=by
 rintro A1 s Y H Q I ⟨n,hs,⟨⟨o,fd,q1,q2⟩,hc⟩,h⟩
 refine wpAny_Call_Name_kw (B2 (hv A1 s Y H (λv H1=>v= .ref (W.Cq n)/\H1=H) I #[_,hs,rfl,rfl]) λv s1 ⟨y,H1,I1,r1,e1,e2⟩=>?_);subst e1;subst e2;cases r1;refine Calls.callWith_function (o:=o) (fd:=fd) (PySem.evalArgs_none #[#[I1.bk _ _ q1,q2],?_]);refine wpAny_call (codeAny_mono (hc X.A X.stack s1 H1 Q _ hr I1.bj h) λr s' hq=>?_);cases r with
 |error e=>exact Mp I1 hq
 |ok fl=>
   cases fl with
   |ret u=>exact I1.after hq
   |next=>exact False.elim hq
   |brk=>exact False.elim hq
   |cont=>exact False.elim hq
theorem LA(i:Nat)(U:Env):ev cf mt (.Cy i) U=match A8 U i,A8 U 0 with
 |some (.b (.p (.fn n))),some (.obj c _)=>if n<CW\/c<1000 then .A2 else AK cf (Gh n) (.A4 0::Kj n) U
 |_,_=>.A2:=by
 show(den cf mt (.Cy i)).v U=_;rfl
theorem Wg{Y:L2.St}{H:Hp}{n:Nat}(h0:Y[0]? =some (some v)):Bt W Y H U (.A4 0::Kj n) (v::E8 n) []:=by
 refine#[v,E8 n,[],[],rfl,#[h0,rfl],?_,rfl];unfold Kj E8;generalize n/1048576=m;cases m with
 |zero=>exact#[rfl,rfl]
 |succ m=>exact#[.int m,[],[],[],rfl,#[Ak.mpr rfl,rfl],#[rfl,rfl],rfl]
theorem OS(hK:W.K=X.K)(hw:W.w=X.w){i k:Nat}{pos:Pos}(hv:PE X (.Name x p) (EO i))(hr:Bk k X.A)(hc:∀n,CW<=n->W.ok n=true->dh X W cf k n):
 Au X W cf mt (.Call (.Name x p) [] [] pos) (.Cy i):=by
 refine Au.of hK hw (λ_ _=>rfl) (λU=>by show(den cf mt (.Cy i)).b U=(((den cf mt (.Cy i)).v U).bind _).bind _;rfl) rfl rfl (Ah (Rz (W:=W) (cf:=cf) hv hr) λY H Q z=>?_) (λ_=>rfl) rfl;obtain⟨U,os,hR,hn,hA⟩:=z;rw[LA]at hA;split at hA
 .rename_i n c fs hg h0;split at hA
  .exact hA.elim
  .rename_i hcond;have hb:CW<=n:=Nat.le_of_not_lt λz=>hcond (.inl z)
   have hc1:1000<=c:=Nat.le_of_not_lt λz=>hcond (.inr z)
   obtain⟨v,o,q1,q2,_⟩:=hR.get hg;obtain⟨e1,e2⟩:=Fv.mp q2.1;subst e1;have Ao:W.ok n=true:=e2.resolve_left (Nat.not_lt.mpr hb);obtain⟨v0,o0,r1,r2,_⟩:=hR.get h0;obtain⟨a,dx,vs,os',e3,_,_,_,_,_,e4⟩:=r2;have e5:=e4 hc1;subst e5;subst e3;refine#[n,q1,hc n hb Ao,?_];have:=FP (cf:=cf) (f:=Gh n) (F:=λU=>.ok (.A4 0::Kj n) U) #[U,os,hR,hn,hA];obtain⟨U',os2,hR2,hn2,hA2⟩:=this;exact hA2 _ H [] os2 (Wg r1) hR2 hn2 (AY.refl _ _)
 .exact hA.elim
end
theorem O.Ft(h:O.same o p=true):o=p:=by
 unfold O.same at h;split at h
 .rfl
 .cases h
mutual
theorem T.Ft:∀{t u:T},T.same t u=true->t=u
 | .An p,u,h=>by
   cases u with
   |An q=>
     have h:P.same p q=true:=h;unfold P.same at h;split at h
     .rw[of_decide_eq_true h]
     .cases h
   |_=>simp[T.same]at h
 | .A3 i,u,h=>by
   cases u with
   |A3 j=>exact congrArg T.A3 (by simpa[T.same]using h)
   |_=>simp[T.same]at h
 | .A0 o ts,u,h=>by
   cases u with
   |A0 p us=>
     simp only[T.same,bA]at h;rw[O.Ft h.1,T.Fs h.2]
   |_=>simp[T.same]at h
 | .call f ts,u,h=>by
   cases u with
   |call g us=>
     simp only[T.same,bA]at h;rw[of_decide_eq_true h.1,T.Fs h.2]
   |_=>simp[T.same]at h
 | .Al m o ts,u,h=>by
   cases u with
   |Al n p us=>
     simp only[T.same,bA]at h;rw[of_decide_eq_true h.1.1,T.Ft h.1.2,T.Fs h.2]
   |_=>simp[T.same]at h
 |.Aw _ _,u,h| .tup _,u,h| .lst _,u,h| .Ey _ _ _,u,h| .and _ _,u,h| .or _ _,u,h| .not _,u,h| .make _ _,u,h| .Fc _ _,u,h| .Cy _,u,h| .Dp _ _ _ _,u,h| .comp _ _ _ _ _ _,u,h=>by simp[T.same]at h
theorem T.Fs:∀{ts us:List T},T.Gr ts us=true->ts=us
 | [],us,h=>by
   have h:us.isEmpty=true:=by simpa[T.Gr]using h
   exact(List.isEmpty_iff.mp h).symm
 | t ::ts,us,h=>by
   cases us with
   |nil=>simp[T.Gr]at h
   |cons u us=>
     simp only[T.Gr,bA]at h;rw[T.Ft h.1,T.Fs h.2]
end
variable{n:Nat}
theorem MI{fi:Fg}(h:GY n t fi=true):fi=#[n,n,[.ret (some t)]]:=by
 obtain⟨np,nl,body⟩:=fi;unfold GY at h;dsimp only at h;split at h
 .rename_i u;simp only[bA,decide_eq_true_eq]at h;obtain⟨⟨h1,h2⟩,h3⟩:=h;rw[T.Ft h1,h2,h3]
 .cases h
structure cC(W W':Wd):Prop where
 K:W.K=W'.K
 w:W.w=W'.w
 Br:W.Br=W'.Br
 tabs:W.tabs=W'.tabs
 Cq:∀n,n<CW->W'.Cq n=W.Cq n
theorem cC.eq(h:cC W W'):TL W W':=#[h.K,h.w,h.Br,h.tabs]
def Uv(tf tc:List (Str×Nat))(tg:List (Str×P))(LT:Nat->Fg->Prop)(W:Wd)(base:Heap)(n:Nat):Prop:=
 ∃ (qual:Str) (as:Arguments) (b:Expr) (sc:Scope) (clos:List (Str×Addr)) (pm ctv:Value) (cc:Addr) (t:T),
   base.get? (W.Cq n)=some {cls:=.type "function",data:=.func (kla_fn "<lambda>" qual as b sc clos pm (.ref cc) ctv)}/\(cc,qual)∈W.dC/\TQ (Bf sc) sc clos/\noArgs as=true/\
   (∀x c,clos.lookup x=some c->∃u,base.IsCell c (some u))/\(V.ref W.OT::E8 n).length=(Bf sc).length/\
   (∀(i:Nat) (x:Str) (v:V),(Bf sc)[i]? =some x->(V.ref W.OT::E8 n)[i]? =some v->∃c u,clos.lookup x=some c/\base.IsCell c (some u)/\RelV v u)/\
   (Bf sc).Nodup/\(∀x∈Bf sc,sc.names.lookup x=some .free)/\kE (Jg sc tf tc tg) b=some t/\LT (Gh n) #[(Bf sc).length,(Bf sc).length,[.ret (some t)]]
structure j4(X:Cx)(W:Wd)(cf:CF)(mt:MT)(k:Nat)(tf tc:List (Str×Nat))(tg:List (Str×P))(lp:Pos)(l:Nat)(fi:Fg):Prop where
 code:∃c P,X.env.code= .ref c/\codeHdIn X.K c P=true/\X.base.BuiltinsAt X.mg P/\mainGlobals≠P/\(P,lp,X.env.qual++"<lambda>")∈W.tabs
 nd:(W.tabs.map (·.1)).Nodup
 tag:∀c,W.Br (tag c)=W.Br c
 lt:∀c m f,mt.m c m=some f->f<CW
 run:∃LT:Nat->Fg->Prop,LT l fi/\∀(W':Wd) (base':Heap),cC W W'->(∀b o,X.base.get? b=some o->base'.get? b=some o)->(∀n,CW<=n->W'.ok n=true->Uv tf tc tg LT W' base' n)->
  ∀c m f,mt.m c m=some f->∃fd ps,Dd X.prog X.w X.K X.mg base' (Xc.Eb X.prog X.w) k (W'.Cq f) fd ps (JC W' (cf f))/\Binds X.K fd ps []
theorem Ki(l:Nat):F7 l none=1024*(l+1):=rfl
theorem Kh(l v:Nat):F7 l (some v)=1024*(l+1)+1048576*(v+1):=rfl
theorem WJ(n:Nat):Gh n=n/1024%1024-1:=rfl
theorem SV{l:Nat}(h:l<1000)(cv:Option Nat):Gh (F7 l cv)=l:=by
 rw[WJ];cases cv with
 |none=>rw[Ki];omega
 |some v=>rw[Kh];omega
theorem SW{l:Nat}(cv:Option Nat):CW<=F7 l cv:=by
 have e:CW=1024:=rfl;rw[e];cases cv with
 |none=>rw[Ki];omega
 |some v=>rw[Kh];omega
theorem bC(h:n/1048576=0):E8 n=[]:=by unfold E8;rw[h]
theorem bB{v:Nat}(h:n/1048576=v+1):E8 n=[.int v]:=by unfold E8;rw[h]
theorem bx{l:Nat}(h:l<1000):E8 (F7 l none)=[]:=bC (by rw[Ki];omega)
theorem bw{l v:Nat}(h:l<1000):E8 (F7 l (some v))=[.int v]:=bB (by rw[Kh];omega)
abbrev Fq:Str:=Str.ofString "self"
theorem Gg{cells:List (Str×Addr)}{c:Addr}:∀(l:List (Str×NameKind)) (cs:List (Str×Addr)),(GD cells l cs).lookup x=some c->(∃y∈l,y.1=x/\y.2= .free)\/cs.lookup x=some c
 |[],cs,e=>.inr e
 | (n, k)::r,cs,e=>by
   unfold GD at e
   by_cases hk:(k==NameKind.free)=true
   .rw[iP hk]at e;rcases Gg r _ e with⟨y,h1,h2⟩|h
    .exact .inl #[y,mC h1,h2]
    .rw[lookup_cons]at h;cases hx:x==n with
     |true=>exact .inl #[(n,k),mS,(eq_of_beq hx).symm,eq_of_beq hk]
     |false=>rw[hx]at h;exact .inr h
   .rw[iN hk]at e;rcases Gg r _ e with⟨y,h1,h2⟩|h
    .exact .inl #[y,mC h1,h2]
    .exact .inr h
theorem RP{y:Str×NameKind}(h:y∈sc.names)(hf:y.2= .free):y.1∈Bf sc:=by
 unfold Bf
 by_cases hs:y.1=Str.ofString "self"
 .rw[hs];exact mS
 .refine mC (mem_filter.mpr #[mem_map.mpr #[y,mem_filter.mpr #[h,by rw[hf];rfl],rfl],dZ hs])
variable{cf:CF}
theorem Lz{mt:MT}(m:Str)(i l:Nat)(Cr:Option Nat)(U:Env):ev cf mt (.Dp m i l Cr) U=HF cf mt m i l Cr U:=by
 show(den cf mt (.Dp m i l Cr)).v U=_;rfl
theorem Pr{mt:MT}{i l:Nat}{Cr:Option Nat}{U:Env}{P:Res C->Prop}(h:P (HF cf mt m i l Cr U))(hP:¬P .A2):∃c fs cv f,A8 U i=some (.obj c fs)/\Ou U Cr=some cv/\fs.lookup m=none/\mt.m c m=some f/\C8 fs=true/\
 ((∃x fs' rest,cf f [.obj (tag c) fs,.p (.fn (F7 l cv))]= .ok (.p x) (some (.obj (tag c) fs')::rest)/\BX x=true/\C8 fs'=true/\P (.ok (.p x) (U.set i (some (.obj c fs')))))\/∃y p,cf f [.obj (tag c) fs,.p (.fn (F7 l cv))]= .err y p/\P (.err y p (U.set i none))):=by
 unfold HF at h;split at h
 .rename_i c fs cv hg hc;split at h
  .rename_i f h1 h2;split at h
   .rename_i hp;split at h
    .rename_i x c' fs' rest hcf;split at h
     .rename_i hh;obtain⟨rfl,h3,h4⟩:=hh;exact#[c,fs,cv,f,hg,hc,h1,h2,hp,.inl #[x,fs',rest,hcf,h3,h4,h]]
     .exact absurd h hP
    .rename_i y p hcf;exact#[c,fs,cv,f,hg,hc,h1,h2,hp,.inr #[y,p,hcf,h]]
    .exact absurd h hP
   .exact absurd h hP
  .exact absurd h hP
 .exact absurd h hP
theorem Vd{X:Cx}{k:Nat}{fd:FuncData}{ps:List Str}{sp:Sp}{base':Heap}{Y:L2.St}{Q:VK}{E:XK}{us:List Value}{vs:List V}(F:Dd X.prog X.w X.K X.mg base' (Xc.Eb X.prog X.w) k f fd ps sp)(hr:Bk k X.A)(hb:Binds X.K fd ps [])
 (I:Inv X A1 Y H s)(e0:Gp X.prog X.w X.K X.mg base' X.A X.stack s H)(r:Vals vs us)(h:sp vs H Q E)(hx:∀e s',Xc.Eb X.prog X.w X.stack H s E e s'->X.xe e s'):(X|||(call (.ref f) us)) (EP X A1 Y Q) X.xe s:=by
 have hl:(us++[]).length=ps.length:=by rw[append_nil,<-r.length];exact F.len _ _ _ _ h
 have hb':=hb s us I.Cn hl;rw[append_nil]at hb';refine wpAny_call (codeAny_mono (F.run X.A X.stack s H #[us,[]] us vs Q E hr e0 hb' r h) λr s' hq=>?_);cases r with
 |error e=>exact hx e s' hq
 |ok fl=>
   cases fl with
   |ret u=>exact I.after hq
   |next=>exact False.elim hq
   |brk=>exact False.elim hq
   |cont=>exact False.elim hq
section
variable{cf:CF}{mt:MT}
theorem Ot{A1:Oa}{Y:L2.St}{H:Hp}{s:Shared}{i:Nat}{x:Str}(I:Inv X A1 Y H s)(hN:X.N[i]? =some x)(hs:Y[i]? =some (some v))(hk:X.env.scope.names.lookup x=some .cell\/X.env.scope.names.lookup x=some .free):
 ∃c u,X.env.cells.lookup x=some c/\s.heap.IsCell c (some u)/\RelV v u:=by
 obtain⟨mm,_,hl⟩:=I.loc;obtain⟨u,r,lk⟩:=hl i x v hN hs (hk.elim (λz=>.inr (.inl z)) λz=>.inr (.inr z));rcases lk with⟨z,_⟩|⟨_,c,h1,h2⟩
 .have z:X.env.scope.names.lookup x=some .local:=z;rcases hk with y|y
  .rw[z]at y;cases y
  .rw[z]at y;cases y
 .exact#[c,u,h1,h2,r]
theorem IY{a:Arguments}(h:noArgs a=true):a={posonlyargs:=[],args:=[],vararg:=none,kwonlyargs:=[],kw_defaults:=[],kwarg:=none,defaults:=[]}:=by
 obtain⟨a1,a2,a3,a4,a5,a6,a7⟩:=a;unfold noArgs at h;simp only[bA,List.isEmpty_iff,Option.isNone_iff_eq_none]at h;obtain⟨⟨⟨⟨⟨⟨h1,h2⟩,h3⟩,h4⟩,h5⟩,h6⟩,h7⟩:=h
 subst_vars
 rfl
structure FV(X:Cx)(sc:Scope)(Cr:Option Nat):Prop where
 kind:sc.kind= .function
 co:sc.isCoroutine=false
 gen:sc.isGenerator=false
 own:∀y∈sc.names,y.2≠.cell/\y.2≠.local
 dA:∀y∈sc.names,y.2= .free->X.env.scope.names.lookup y.1=some .cell\/X.env.scope.names.lookup y.1=some .free
 nd:(Bf sc).Nodup
 all:∀x∈Bf sc,sc.names.lookup x=some .free
 Cr:(Cr=none/\Bf sc=[Fq])\/∃j y,Cr=some j/\Bf sc=[Fq,y]/\X.N[j]? =some y
variable{sc:Scope}
theorem FV.mem{Cr:Option Nat}(L:FV X sc Cr){x:Str}(h:x∈Bf sc):X.env.scope.names.lookup x=some .cell\/X.env.scope.names.lookup x=some .free:=
 L.dA (x,.free) (PySem.mem_of_lookup (L.all x h)) rfl
theorem OQ(hK:W.K=X.K)(hw:W.w=X.w){k:Nat}(M:jZ X W cf mt k)(hr:Bk k X.A){tf tc:List (Str×Nat)}{tg:List (Str×P)}{i l:Nat}{Cr:Option Nat}{m:Str}{as:Arguments}{lp apos pos:Pos}{fi:Fg}{t:T}
 (hx:PE X (.Name Fq p) (EO i))(hi:X.N[i]? =some Fq)(hfn:∀x,X.fn x=true)(S:FV X sc Cr)(has:noArgs as=true)(ht:kE (Jg sc tf tc tg) b=some t)(hfi:fi=#[(Bf sc).length,(Bf sc).length,[.ret (some t)]])(hl:l<1000)
 (F:j4 X W cf mt k tf tc tg lp l fi)(hni:m≠Str.ofString "__init__")(hline:(apos.endLine==pos.line)=true):
 Au X W cf mt (.Call (.Attribute (.Name Fq p) m apos) [.Lambda as b sc lp] [] pos) (.Dp m i l Cr):=by
 refine Au.of hK hw (λ_ _=>rfl) (λU=>by show(den cf mt (.Dp m i l Cr)).b U=(((den cf mt (.Dp m i l Cr)).v U).bind _).bind _;rfl) rfl rfl ?_ (λ_=>rfl) rfl;intro A1 s Y H Q I z;obtain⟨U,os,hR,hn,hA⟩:=z;rw[Lz]at hA;obtain⟨c,fs,cv,f,hg,hcv,hl1,hl2,hpf,hcf⟩:=Pr (P:=λr=>Ck W (AI X W) (rV W Y) H os Y r Q) hA λz=>z
 obtain⟨v,o,osr,t1,t2,t3,t4⟩:=hR.take hg;have t2':=t2;obtain⟨a,dx,vs,osf,rfl,q3,q4,q5,q6⟩:=t2';obtain⟨M1,M2,FS⟩:=M.Mz c m f hl2;have hm:=M2 hni;obtain⟨cc0,Pt,hcode,hhd,hblt,hgP,hq⟩:=F.code;obtain⟨LT,hLT,hrun⟩:=F.run;have hnd:=nA (t4.nodup_iff.mpr hn);have hpl:∀e∈[Expr.Lambda as b sc lp],Bd e=true:=λe he=>by rw[mE he];rfl
 refine methodCall_KW (pl:=(do return (<-importBound (.Name Fq p) X.env).getD true)) (B2 (hx A1 s Y H (λv H1=>v= .ref a/\H1=H) I #[_,t1,rfl,rfl]) λu s1 ⟨y,H1,I1,rx,ex,eH⟩=>?_) (JX hpl (by simp) hline);subst ex;subst eH;obtain rfl:u=Value.ref a:=rx;refine F4 I1 q3 M1 hm (Ek q4 hl1) ?_;refine callWith_K (first:=[.ref a]) (h₀:=X.base) I1.ok.mod.PB hm.kp ?_ (Ac rfl [] _) rfl;rw[Ac rfl [] X.env];show wpAny _ _ (spliced ((false,eval (.Lambda as b sc lp) X.env)::backTo pos (starEach [] X.env))) _ _ s1;have hfree:∀y∈sc.names,y.2= .free->∃c,X.env.cells.lookup y.1=some c:=λy hy e=>I1.ok.has y.1 (S.dA y hy e)
 have has':=IY has;refine Calls.spliced_cons (RZ (clos:=GD X.env.cells sc.names []) I1 hR.tb F.nd hq (by rw[has'];rfl) (CT hfree) hcode (codeHd_of_K I1.ok.mod.PB hhd) hblt hgP λc0 cc ctv s2 H2 I2 kp fr tb2 cd ho hc0 hc0n hold=>Calls.spliced_nil #[I2.Cn,?_]);generalize hn0:F7 l cv=n0 at hcf;have hb0:CW<=n0:=by rw[<-hn0];exact SW cv
 let W':Wd:={W with Cq:=λn=>if n=n0 then c0 else W.Cq n,ok:=λn=>decide (n=n0),OT:=a,dC:=(cc,X.env.qual++"<lambda>")::W.dC}
 have hst:cC W W':=#[rfl,rfl,rfl,rfl,λn hn=>iN λz=>absurd (z▸hn) (Nat.not_lt.mpr hb0)];have hwe:TL W W':=hst.eq
 let L:List Addr:=c0::(Bf sc).filterMap λx=>X.env.cells.lookup x
 have hLm:∀x c,x∈Bf sc->X.env.cells.lookup x=some c->c∈L:=λx c h1 h2=>mC (mem_filterMap.mpr #[x,h1,h2])
 have e0 :Gp X.prog X.w X.K X.mg (baseOf X.base s2.heap L) X.A X.stack s2 H2:=by
  refine PU I2 (λb hb=>?_) λb hb hbf=>?_
  .rcases mK hb with z|z
   .rw[z];exact#[_,ho,hc0n]
   .obtain⟨x,h1,h2⟩:=mem_filterMap.mp z;obtain⟨v,o,h3,_⟩:=I2.cell x b h2;exact#[o,h3,I2.D4 x b h2]
  .rcases mK (I2.Hj b hbf)with y|y
   .rcases mK hb with z|z
    .have:=I1.lt;rw[<-y,z]at this;exact absurd this (Nat.not_lt.mpr hc0)
    .obtain⟨x,h1,h2⟩:=mem_filterMap.mp z;exact I2.Uz x b h2 y
   .rcases mK hb with z|z
    .exact I1.aa hc0 (z▸y)
    .obtain⟨x,h1,h2⟩:=mem_filterMap.mp z;obtain⟨_,o,ho,_⟩:=I2.ok.EA.mem y;exact absurd (Heap.lt_size ho) (Nat.not_lt.mpr (I2.ok.bD x b (hfn x) h2))
 have hvals:(V.ref a::E8 n0).length=(Bf sc).length/\∀(j:Nat) (y:Str) (w:V),(Bf sc)[j]? =some y->(V.ref a::E8 n0)[j]? =some w->∃c u,X.env.cells.lookup y=some c/\s2.heap.IsCell c (some u)/\RelV w u:=by
  have hself:∀y,y=Fq->∃c u,X.env.cells.lookup y=some c/\s2.heap.IsCell c (some u)/\RelV (V.ref a) u:=λy e=>by
   rw[e];exact Ot I2 hi t1 (S.mem (by unfold Bf;exact mS))
  rcases S.Cr with⟨e1,e2⟩|⟨j,y,e1,e2,e3⟩
  .subst e1;have hcv:some none=some cv:=hcv;cases hcv;have e4:E8 n0=[]:=by rw[<-hn0];exact bx hl
   rw[e2,e4];refine#[rfl,λj y w h1 h2=>?_]
   match j,h1,h2 with
   |0,h1,h2=>cases h1;cases h2;exact hself _ rfl
   |j+1,h1,h2=>cases h1
  .subst e1;unfold Ou at hcv;dsimp only at hcv;split at hcv
   .rename_i vi hgj;split at hcv
    .rename_i hvi;cases hcv
     have e4:E8 n0=[.int vi]:=by
      rw[<-hn0,bw hl];simp only[List.cons.injEq,V.int.injEq,and_true]
      lia
     rw[e2,e4];refine#[rfl,λj' y' w h1 h2=>?_]
     match j',h1,h2 with
     |0,h1,h2=>cases h1;cases h2;exact hself _ rfl
     |1,h1,h2=>
       cases h1;cases h2;obtain⟨vv,oo,g1,g2,_⟩:=hR.get hgj;have g3:vv= .int vi:=Ak.mp g2.1;subst g3;exact Ot I2 e3 g1 (S.mem (by rw[e2];simp))
     |j'+2,h1,h2=>cases h1
    .cases hcv
   .cases hcv
 have clo_in:∀y c,(GD X.env.cells sc.names []).lookup y=some c->X.env.cells.lookup y=some c/\y∈Bf sc:=λy c e=>by
  refine#[FO sc.names [] hfree (λ_ _ z=>by cases z) e,?_];rcases Gg sc.names [] e with⟨z,h1,h2,h3⟩|h
  .rw[<-h2];exact RP h1 h3
  .cases h
 have clo_at:∀y c,y∈Bf sc->X.env.cells.lookup y=some c->(GD X.env.cells sc.names []).lookup y=some c:=λy c h e=>by
  obtain⟨d,hd⟩:=Et (cells:=X.env.cells) (x:=y) sc.names [] (.inl #[(y,.free),PySem.mem_of_lookup (S.all y h),rfl,rfl]);rw[(clo_in y d hd).1]at e;cases e;exact hd
 have cellB:∀{y:Str} {c:Addr} {u:Value},y∈Bf sc->X.env.cells.lookup y=some c->s2.heap.IsCell c (some u)->(baseOf X.base s2.heap L).IsCell c (some u):=λ{y c u} h1 h2 ⟨o,h3,h4⟩=>#[o,Jq (hLm y c h1 h2) h3,h4]
 obtain⟨hv1,hv2⟩:=hvals
 have hclo:Uv tf tc tg LT W' (baseOf X.base s2.heap L) n0:=by
  refine#[X.env.qual++"<lambda>",as,b,sc,GD X.env.cells sc.names [],(X.mg "__name__").getD .none,ctv,cc,t,?_,mS,#[S.kind,S.co,S.gen,λy hy=>(S.own y hy).1,λy e=>?_,λy z c h1 h2=>?_,λy e=>?_],has,λy c e=>?_,hv1,λj y w h1 h2=>?_,S.nd,S.all,ht,?_]
  .show(baseOf X.base s2.heap L).get? (if n0=n0 then c0 else W.Cq n0)=_;rw[iP rfl];exact Jq mS ho
  .exact(S.own _ (PySem.mem_of_lookup e)).2 rfl
  .exact I2.ok.inj y z c (clo_in y c h1).1 (clo_in z c h2).1
  .exact Et sc.names [] (.inl #[(y,.free),PySem.mem_of_lookup e,rfl,rfl])
  .obtain⟨h1,h2⟩:=clo_in y c e;obtain⟨j,hj⟩:=List.mem_iff_getElem?.mp h2;have hjl:j<(Bf sc).length:=(List.getElem?_eq_some_iff.mp hj).1;obtain⟨c',u,g1,g2,_⟩:=hv2 j y _ hj (List.getElem?_eq_getElem (by rw[hv1];exact hjl));rw[h1]at g1;cases g1;exact#[u,cellB h2 h1 g2]
  .obtain⟨c',u,g1,g2,g3⟩:=hv2 j y w h1 h2;have hy:=List.mem_of_getElem? h1;exact#[c',u,clo_at y c' hy g1,cellB hy g1 g2,g3]
  .rw[<-hn0,SV hl,<-hfi];exact hLT
 obtain⟨fd,ps,F1,F2⟩:=hrun W' (baseOf X.base s2.heap L) hst (λb o e=>Ie I2.bk e) (λn h1 h2=>by
  have:n=n0:=of_decide_eq_true h2
  rw[this];exact hclo) c m f hl2
 have hfad:W'.Cq f=W.Cq f:=hst.Cq f (F.lt c m f hl2);rw[hfad]at F1;have tag':∀c,W'.Br (tag c)=W.Br c:=F.tag;have r2:Ba W H2 (.obj c fs) (.ref a) o:=t2.frame kp ((fr []).but) λ_ _ z=>by cases z
 obtain⟨r3,ro⟩:=R0 hwe tag' hpf rfl r2;subst ro
 have tbW:Ds W' H2:=ON hwe (λr hr=>by
  rcases mK hr with z|z
  .rw[z];exact cd
  .exact tb2.2 r z) tb2
 have t5:A6 W H2 (U.set i none) Y osr:=t3.frame tb2 kp ((fr []).but) λ_ _ z=>by cases z
 refine Vd (E:=EE W (AI X W) Y) (us:=[.ref a,.ref c0]) (vs:=[.ref a,.ref c0]) F1 hr F2 I2 e0 (.cons rfl (.cons rfl .nil)) #[[.obj (tag c) fs,.p (.fn n0)],[a],?_,by simp,?_] λe s' cx=>Mp I2 cx
 .refine#[.ref a,_,[a],[],rfl,r3,#[.ref c0,[],[],[],rfl,#[Fv.mpr #[?_,.inr (dZ rfl)],rfl],#[rfl,rfl,tbW],rfl],rfl];show V.ref c0= .ref (if n0=n0 then c0 else W.Cq n0);rw[iP rfl]
 rcases hcf with⟨x,fs',rest,hcf,hnx,hpf',hA⟩|⟨y,p,hcf,hA⟩
 rotate_left
 .rw[hcf];intro H' g2 g4;have tbB:Ds W H':=#[λq hq=>g2.tb.1 q hq,λq hq=>g2.tb.2 q (mC hq)];have t6:A6 W H' (U.set i none) Y osr:=t5.frame tbB (g4.but.keep r2.own) g4.but λd hd z=>hnd.2.2 a mS d hd (mE z).symm
  exact#[y,p,rfl,hA H' osr t6 hnd.2.1 ((fr os).trans (((g4.more osr).perm (perm_append_comm.trans t4) (.refl _)).sub λd hd=>mL hd))]
 .rw[hcf];intro u H' o' oos g1 g2 g3 g4;obtain⟨g5,rfl⟩:=(show AH W' H' x u/\o'=[]from g1);obtain⟨w,r,o1,o2,ew,k1,k2,rfl⟩:=g2;cases ew;obtain⟨k3,_,rfl⟩:=Mj hwe tag' hpf' (λz=>(q6.2.2 z)) k1;have tbB:Ds W H':=#[λq hq=>k2.tb.1 q hq,λq hq=>k2.tb.2 q (mC hq)];have k4:Js [a] H2 H':=g4.but;have kp2:AS H2 H':=k4.keep r2.own;have t6:A6 W H' (U.set i none) Y osr:=t5.frame tbB kp2 k4 λd hd z=>hnd.2.2 a mS d hd (mE z).symm
  obtain⟨os2,u1,u2⟩:=A6.fill (c:=.obj c fs') (v:=.ref a) (o:=[a]) k3 t6 (Bu (C9 hg)) (by rw[length_set];exact C9 hg);rw[set_set,set_same t1]at u1
  have fr2:AY H2 H' ([a]++osr) ([a]++osr):=by
   have:=(g4.sub (os2:=[a]) λd hd=>by rw[mE hd];exact mS).more osr;exact this.perm perm_append_comm perm_append_comm
  refine hA u H' [] os2 #[Eg hwe.symm hnx g5,rfl] u1 (u2.nodup_iff.mpr (t4.nodup_iff.mpr hn)) ?_;exact(fr os).trans (fr2.perm t4 u2.symm)
end
structure iV(a b:Scope):Prop where
 loc:∀x,a.names.lookup x=some .local->b.names.lookup x=some .local
 jN:∀x,a.names.lookup x=some .cell->b.names.lookup x=some .cell
 dA:∀x,a.names.lookup x=some .free->b.names.lookup x=some .free\/b.names.lookup x=some .cell
 oh:∀x,a.names.lookup x=some .globalImplicit->b.names.lookup x=some .globalImplicit
theorem iV.refl(a:Scope):iV a a:=#[λ_ h=>h,λ_ h=>h,λ_ h=>.inl h,λ_ h=>h]
theorem Cu{env:PySem.Env}:∀{names:List (Str×NameKind)} {x:Str},names.lookup x=some .globalImplicit->
 (names.map λ(n,k)=>if(k^^^n&&&env)then(n,NameKind.cell)else(n,k)).lookup x=some .globalImplicit
 |[],_,h=>by simp at h
 | (n,k)::r,x,h=>by
   have ih:=@Cu env r x;rw[map_cons];cases hx:x==n with
   |true=>
     simp only[lookup_cons,hx]at h;cases h;simp[lookup_cons,hx]
   |false=>
     simp only[lookup_cons,hx]at h;dsimp only;split
     .simp only[lookup_cons,hx];exact ih h
     .simp only[lookup_cons,hx];exact ih h
structure Df(ct:Ct)(X:Cx)(W:Wd)(cf:CF)(mt:MT)(k:Nat):Prop where
 K:W.K=X.K
 w:W.w=X.w
 N:X.N=ct.N
 nd:X.N.Nodup
 sc:iV ct.sc X.env.scope
 fn:ct.df=true->∀x,X.fn x=true
 calm:X.calm=true
 room:Bk (k+1) X.A
 po:PassesOwn (model X.prog X.w) X.A X.env X.xe
 gl:∀x p,ct.gl.lookup x=some p->∃u v,X.mg x=some u/\RelV v u/\∀H,AH W H p v
 own:∀x∈Kn,ct.gl.lookup x=none->ct.As.lookup x=none->ct.cls.lookup x=none->X.mg x=none
 As:∀x f,ct.As.lookup x=some f->X.mg x=some (.ref (W.Cq f))/\keepIn X.K (.ref (W.Cq f))=true/\dc X W cf k f
 cls:∀x c,ct.cls.lookup x=some c->X.mg x=some (.ref (W.Br c))/\∀f,mt.m c (Str.ofString "__init__")=some f->Mk X.K (W.Br c) (W.Cq f)
 aj:jZ X W cf mt k
 Aw:∀c f,mt.f c f=true->BN X.K (W.Br c) f
 tf:∀n,mt.tf n=true->∃x,ct.As.lookup x=some n
 lam:∀lp q,ct.RY.lookup lp=some q->j4 X W cf mt k ct.As ct.cls ct.gl lp q.1 q.2
 cl:ct.cv=true->∀n,CW<=n->W.ok n=true->dh X W cf k n
section
variable{ct:Ct}{cf:CF}{mt:MT}{k:Nat}
theorem HU{l:List Str}{i:Nat}(h:l.idxOf? x=some i):l[i]? =some x:=by
 unfold List.idxOf? at h;obtain⟨h1,h2,_⟩:=List.findIdx?_eq_some_iff_getElem.mp h;rw[List.getElem?_eq_getElem h1];exact congrArg some (beq_iff_eq.mp h2)
theorem CC(h:HA x=true):ng x/\(x==("__classdict__":Str))=false/\x≠"__name__":=by
 unfold HA at h;rw[bA,bA]at h;exact#[by simpa using h.1.1,by simpa using h.1.2,of_decide_eq_true h.2]
theorem Df.A4(L:Df ct X W cf mt k){i:Nat}(h:ct.A4 x=some i):X.N[i]? =some x/\dH X.env.scope x/\ng x/\(x==("__classdict__":Str))=false:=by
 unfold Ct.A4 at h;split at h
 .rename_i hc;rw[bA]at hc;obtain⟨n1,n2,_⟩:=CC hc.1;refine#[by rw[L.N];exact HU h,?_,n1,n2];have hs:=hc.2;unfold seen at hs;split at hs
  .rename_i e;exact .inl (L.sc.loc x e)
  .rename_i e;exact .inr (.inl (L.sc.jN x e))
  .rename_i e;rcases L.sc.dA x e with z|z
   .exact .inr (.inr z)
   .exact .inr (.inl z)
  .cases hs
 .cases h
theorem Df.BE(L:Df ct X W cf mt k){i:Nat}(h:ct.BE x=some i):X.N[i]? =some x/\Loc X.env.scope x/\(X.fn x=true\/X.env.scope.names.lookup x=some .local):=by
 unfold Ct.BE at h;split at h
 .rename_i hc;rw[bA]at hc;refine#[by rw[L.N];exact HU h,?_];have hs:=hc.2;unfold bound at hs;split at hs
  .rename_i e;exact#[.inl (L.sc.loc x e),.inr (L.sc.loc x e)]
  .rename_i e;exact#[.inr (L.sc.jN x e),.inl (L.fn hs x)]
  .cases hs
 .cases h
theorem Df.glob(L:Df ct X W cf mt k)(h:ct.glob x=true):Gl X x/\ng x/\x≠"__name__":=by
 unfold Ct.glob at h;rw[bA]at h;obtain⟨n1,_,n3⟩:=CC h.1;exact#[L.sc.oh x (of_decide_eq_true h.2),n1,n3]
theorem Df.Mr(L:Df ct X W cf mt k)(h:ct.own x=true):Gl X x/\X.mg x=none/\ng x/\x≠"__name__":=by
 unfold Ct.own at h;simp only[bA]at h;obtain⟨⟨⟨⟨h1,h2⟩,h3⟩,h4⟩,h5⟩:=h;obtain⟨g1,g2,g3⟩:=L.glob h1;exact#[g1,L.own x (by simpa using h2) (by simpa using h3) (by simpa using h4) (by simpa using h5),g2,g3]
theorem Df.un(L:Df ct X W cf mt k):X.A.units+200<cLine:=by have:=L.room.un;lia
theorem Df.pv(L:Df ct X W cf mt k){i:Nat}(h:ct.A4 x=some i):PE X (.Name x p) (EO i):=by
 obtain⟨h1,h2,h3,h4⟩:=L.A4 h;exact G4 h1 h2 h3 h4
variable{sc:Scope}
theorem Df.nP(L:Df ct X W cf mt k){N:List Str}{fr:List (Option Nat)}(h:Th ct.N ct.sc N sc fr=true):DF X.N X.env.scope N sc fr:=by
 have h0:N9 ct.N ct.sc N sc fr=true:=h;have ok:=DF.of h0;refine#[ok.kind,ok.DT,ok.own,λy hy e=>?_,ok.len,by rw[L.N];exact ok.Wj];rcases ok.free y hy e with z|z
 .exact .inl (L.sc.jN _ z)
 .rcases L.sc.dA _ z with q|q
  .exact .inr q
  .exact .inl q
theorem lookup_mem{α:Type}{l:List (Str×α)}{a:α}(h:l.lookup x=some a):(x,a)∈l:=PySem.mem_of_lookup h
theorem Df.block(L:Df ct X W cf mt k)(h:Th ct.N ct.sc (ct.block sc).1.N sc (ct.block sc).2=true)(hn:(ct.block sc).1.N.Nodup)(C:Addr)(s:Shared)(H:Hp)(fp:List Addr):Df (ct.block sc).1 (B0 X (ct.block sc).1.N sc C s H fp) W cf mt k:=by
 have ok:=L.nP h;refine#[L.K,L.w,rfl,hn,#[λx e=>?_,λx e=>?_,λx e=>?_,λx e=>?_],λz=>(by cases z),L.calm,L.room,PassesOwn.never,L.gl,L.own,λx f e=>?_,L.cls,#[λc m f e=>?_],L.Aw,L.tf,λlp q e=>(by cases e),L.cl]
 .exact lookup_relabel_local e
 .exact absurd rfl (ok.DT _ (lookup_mem e))
 .exact BM e
 .exact Cu e
 .obtain⟨h1,h2,h3⟩:=L.As x f e;exact#[h1,h2,#[h3.ex]]
 .obtain⟨h1,h2,h3⟩:=L.aj.Mz c m f e;exact#[h1,h2,#[h3.ex]]
theorem LN{es:List Expr}{env:PySem.Env}:assignEach (.Name x p::es) env=(false,assign (.Name x p) env)::assignEach es env:=rfl
theorem Rj(L:Df ct X W cf mt k):∀{es:List Expr} {is:List Nat},PC ct es=some is->iW X es (gK is)/\(assignEach es X.env).length=is.length/\(assignEach es X.env).findIdx? (·.1)=none/\∀i∈is,i<X.N.length
 | [],is,h=>by
   unfold PC at h;cases h;exact#[Vz,rfl,rfl,λi hi=>by cases hi]
 | e ::es,is,h=>by
   cases e with
   |Name x p=>
     unfold PC at h;obtain⟨i,h1,h2⟩:=oB h;obtain⟨js,h3,rfl⟩:=oM h2;obtain⟨q1,q2,q3,q4⟩:=Rj L h3;obtain⟨t1,t2,t3⟩:=L.BE h1;refine#[Rk (NO L.nd t1 t2 t3) q1 rfl,by rw[LN,lC,lC,q2],?_,λj hj=>?_]
     .rw[LN,List.findIdx?_cons,q3];rfl
     .rcases mK hj with z|z
      .rw[z];exact(List.getElem?_eq_some_iff.mp t1).1
      .exact q4 j z
   |_=>unfold PC at h;cases h
theorem Rl(L:Df ct X W cf mt k){tg:Expr}{g:Tg}(h:Yh ct tg=some g):PG X tg (gT W g)/\∀i∈g.slots,i<X.N.length:=by
 cases tg with
 |Name x p=>
   unfold Yh at h;obtain⟨i,h1,rfl⟩:=oM h;obtain⟨t1,t2,t3⟩:=L.BE h1;refine#[NO L.nd t1 t2 t3,λj hj=>?_];rw[mE hj];exact(List.getElem?_eq_some_iff.mp t1).1
 |Tuple es n p=>
   unfold Yh at h;obtain⟨is,h1,rfl⟩:=oM h;obtain⟨q1,q2,q3,q4⟩:=Rj L h1;refine#[?_,q4];show PG X (.Tuple es n p) (aR W.K is.length (gK is));rw[L.K];exact ZH L.calm q1 q2 q3
 |_=>unfold Yh at h;cases h
end
section
variable{cf:CF}{mt:MT}
theorem Yo(i:Nat)(f:Str)(U:Env):(∃x,BD U i f=some (.b (.p x))/\ev cf mt (.A0 .id [.Aw i f]) U= .ok (.p x) U)\/ev cf mt (.A0 .id [.Aw i f]) U= .A2:=by
 have e:ev cf mt (.A0 .id [.Aw i f]) U=(Ae cf mt [.Aw i f] U).bind λhs U=>Res.of ((Ag U hs).bind (Ax .id)) U:=by
  show(den cf mt (.A0 .id [.Aw i f])).v U=_;rfl
 rw[e,LC];have e2:BP (.Aw i f) (ev cf mt (.Aw i f)) U=if(BD U i f).isSome then .ok (.Aw i f) U else .A2:=rfl
 rw[e2];cases hg:BD U i f with
 |none=>exact .inr rfl
 |some c=>
   have e3:Ag U [.Aw i f]=some [c]:=by
    show((BD U i f).bind λc=>(some []).map (c::·))=_;rw[hg];rfl
   show(∃x,some c=some (.b (.p x))/\Res.of ((Ag U [.Aw i f]).bind (Ax .id)) U= .ok (.p x) U)\/Res.of ((Ag U [.Aw i f]).bind (Ax .id)) U= .A2;rw[e3];cases c with
   |obj c fs=>exact .inr rfl
   |b b=>
     cases b with
     |p x=>exact .inl #[x,rfl,rfl]
     |_=>exact .inr rfl
theorem Z6(hK:W.K=X.K)(hw:W.w=X.w){i:Nat}(nc:Bo e=false)(h:Au X W cf mt e (.Aw i f)):Au X W cf mt e (.A0 .id [.Aw i f]):=by
 refine Au.ZV hK hw AF rfl rfl (Ah h.v λY H Q z=>?_) (EV h.b λY H Q z=>?_) h.st nc
 .obtain⟨U,os,hR,hn,hA⟩:=z;refine#[U,os,hR,hn,?_];rcases Yo (cf:=cf) (mt:=mt) i f U with⟨x,hg,e⟩|e
  .rw[e]at hA;rw[show ev cf mt (.Aw i f) U=(match BD U i f with|some c=>if c.cp then .ok c U else .A2|none=>.A2)from by show(den cf mt (.Aw i f)).v U=_;rfl,hg];exact hA
  .rw[e]at hA;exact hA.elim
 .obtain⟨U,os,hR,hn,hA⟩:=z;refine#[U,os,hR,hn,?_];rw[B7]at hA;rcases Yo (cf:=cf) (mt:=mt) i f U with⟨x,hg,e⟩|e
  .rw[e]at hA
   have e3:tv cf mt (.Aw i f) U=((if(BD U i f).isSome then Res.ok (Hd.Aw i f) U else .A2)).bind λh U=>Res.of ((h.cont U).bind Cz) U:=by
    show(den cf mt (.Aw i f)).b U=_;rfl
   rw[e3,hg];have e4:((Hd.Aw i f).cont U)=some (.b (.p x)):=hg;show Ck W (AI X W) (rB Y) H os Y (Res.of (((Hd.Aw i f).cont U).bind Cz) U) Q;rw[e4];exact hA
  .rw[e]at hA;exact hA.elim
theorem KN(hK:W.K=X.K)(hw:W.w=X.w){x:T}(nc:∀i f,x= .Aw i f->Bo e=false)(h:Au X W cf mt e x):Au X W cf mt e (O9 x y):=by
 unfold O9;split
 .rename_i i f;split
  .exact h
  .exact Z6 hK hw (nc i f rfl) h
 .exact h
end
section
variable{cf:CF}{mt:MT}
theorem ZK{t:TE}(h:PE X e t):PE X e (λY H Q=>t Y H λv H1=>∃a u,v= .ref a/\H1 a=some u/\((∃xs,u= .lst xs)\/∃kvs,u= .dK kvs)/\∀o,Q v (upd H1 a (.E4 o u))):=by
 intro A1 s Y H Q I z;refine B2 (h A1 s Y H _ I z) λw s1 ⟨v,H1,I1,r,a,u,e1,e2,e3,q⟩=>?_
 have Ao:=I1.Ao a u e2;obtain⟨o,ho⟩:=Xc.Ej Ao;refine#[v,upd H1 a (.E4 o u),I1.write (x:=a) (e:=a) (t':=s1.toks) (by rw[e2];rcases e3 with⟨_,rfl⟩|⟨_,rfl⟩<;>trivial) (.inl rfl) (λb u hb q=>q) #[o,ho] #[ho,?_],r,q o];rcases e3 with⟨_,rfl⟩|⟨_,rfl⟩<;>exact Ao
theorem bg(ts:List T):ev cf mt (.E4 ts)=λU=>if ts.length<=1000 then(Cf cf mt ts U).bind λps U=>.ok (.p (.box 0 ps)) U else .A2:=funext λU=>by
 show(den cf mt (.E4 ts)).v U=_;rfl
theorem UX(hK:W.K=X.K)(hw:W.w=X.w){es:List Expr}{ts:List T}{pos:Pos}(h:Au X W cf mt (.List es pos) (.lst ts)):Au X W cf mt (.List es pos) (.E4 ts):=by
 refine Au.of hK hw (λ_ _=>rfl) (λU=>by show(den cf mt (.E4 ts)).b U=(((den cf mt (.E4 ts)).v U).bind _).bind _;rfl) rfl rfl (Ah (ZK h.v) λY H Q z=>?_) (λ_=>rfl) rfl;obtain⟨U,os,hR,hn,hA⟩:=z;refine#[U,os,hR,hn,?_];rw[bg]at hA;rw[Gf]
 by_cases hl:ts.length<=1000
 .simp only[iP hl]at hA ⊢;cases e1:Cf cf mt ts U with
  |A2=>rw[e1]at hA;exact hA
  |err x p U'=>rw[e1]at hA;exact hA
  |ok ps U1=>
    rw[e1,Res.A5]at hA;intro v H1 o os1 r1 r2 r3 r4;obtain⟨a,vs,rfl,ha,rp,rfl⟩:=(show Ba W H1 (.lst ps) v o from r1);refine#[a,_,rfl,ha,.inl #[_,rfl],λob=>?_]
    have hk:AS H1 (upd H1 a (.E4 ob (.lst vs))):=λc=>by
     by_cases hc:c=a
     .subst hc;exact#[λxs q=>(by rw[ha]at q;cases q),λo u q=>(by rw[ha]at q;cases q)]
     .rw[Ab hc];exact#[λ_ q=>q,λ_ _ q=>q]
    have hb:Js [a] H1 (upd H1 a (.E4 ob (.lst vs))):=D5 mS;have n3:=nA r3;refine hA (.ref a) _ [] os1 #[Ht.mpr #[a,ob,vs,rfl,rp.mono hk,.inl #[rfl,Ar]],rfl] (r2.frame (r2.tb.upd hk ha rfl) hk hb λc hc z=>n3.2.2 a mS c hc (mE z).symm) n3.2.1 #[λc x e n nt=>?_,λc hc=>r4.src c (mR hc),λc x e=>?_]
    .refine hb c x (r4.but c x e n nt) (λz=>?_) nt;rcases r4.src a mS with y|y
     .exact n (mE z▸y)
     .rw[mE z,y]at e;cases e
    .obtain⟨x',e'⟩:=r4.there c x e
     by_cases hc:c=a
     .subst hc;exact#[_,Ar]
     .exact#[x',by rw[Ab hc];exact e']
 .simp only[iN hl]at hA;exact hA.elim
theorem QL(hK:W.K=X.K)(hw:W.w=X.w)(h:Au X W cf mt e t):Au X W cf mt e (aS e t):=by
 unfold aS;split
 .exact UX hK hw h
 .exact h
theorem KJ(hK:W.K=X.K)(hw:W.w=X.w):∀{es:List Expr} {ts:List T},BI X W cf mt es ts->BI X W cf mt es (DK es ts)
 |_,_,.nil=>.nil
 |_,_,.cons h r=>.cons (QL hK hw h) (KJ hK hw r)
end
def Pk(W:Wd)(cf:CF)(mt:MT)(k:Nat)(e:Expr):Prop:=∀{ct:Ct} {X:Cx} {t:T},Df ct X W cf mt k->kE ct e=some t->Au X W cf mt e t
section
variable{cf:CF}{mt:MT}{k:Nat}
theorem Ad{α:Type}{a:α}{p:Prop}(h:(none:Option α)=some a):p:=by cases h
variable{n:Nat}
theorem WT{c:Const}{pos:Pos}:Pk W cf mt k (.Constant c n pos):=by
 intro ct X t L h;cases c with
 |none=>cases h;exact Ed L.K L.w Mo (λH=>BR.mpr rfl) (λ_=>rfl) rfl
 |bool b=>cases h;exact Ed L.K L.w fL (λH=>BB.mpr rfl) (λ_=>rfl) rfl
 |int i=>cases h;exact Ed L.K L.w ZJ (λH=>Ak.mpr rfl) (λ_=>rfl) rfl
 |str x=>cases h;exact Ed L.K L.w Rn (λH=>AE.mpr rfl) (λ_=>rfl) rfl
 |_=>exact Ad h
theorem bG{pos:Pos}:Pk W cf mt k (.Name x pos):=by
 intro ct X t L h;change ct.name x=_ at h;unfold Ct.name at h;cases hs:ct.A4 x with
 |some i=>
   rw[hs]at h;cases h;obtain⟨h1,h2,h3,h4⟩:=L.A4 hs;exact UP L.K L.w h1 h2 h3 h4
 |none=>
   rw[hs]at h;dsimp only at h;split at h
   .rename_i hg;cases hl:ct.gl.lookup x with
    |none=>
      rw[hl]at h;obtain⟨n,hf,h⟩:=oB h;split at h
      case isFalse=>cases h
      rename_i hn;cases h;obtain⟨g1,g2,g3⟩:=L.glob hg;obtain⟨q1,q2,_⟩:=L.As x n hf;exact Ed L.K L.w (Ei (v:=.ref (W.Cq n)) g1 q1 rfl g2) (λH=>Fv.mpr #[rfl,.inl hn]) (λ_=>rfl) rfl
    |some p=>
      rw[hl]at h;cases h;obtain⟨g1,g2,g3⟩:=L.glob hg;obtain⟨u,v,q1,q2,q3⟩:=L.gl x p hl;exact Ed L.K L.w (Ei g1 q1 q2 g2) q3 (λ_=>rfl) rfl
   .cases h
theorem bP{pos:Pos}:Pk W cf mt k (.Attribute o f pos):=by
 intro ct X t L h;cases o with
 |Name x p=>
   obtain⟨i,hs,rfl⟩:=oM h;obtain⟨h1,h2,h3,h4⟩:=L.A4 hs;exact UY L.K L.w h1 h2 h3 h4
 |_=>exact Ad h
variable{ct:Ct}
theorem DY{es:List Expr}(ih:∀e∈es,Pk W cf mt k e){X:Cx}(L:Df ct X W cf mt k):∀{ts:List T},Io ct es=some ts->BI X W cf mt es ts:=by
 induction es with
 |nil=>intro ts h;unfold Io at h;cases h;exact .nil
 |cons e es ihl=>
   intro ts h;unfold Io at h;obtain⟨t,h1,h2⟩:=oB h;obtain⟨us,h3,rfl⟩:=oM h2;exact .cons (ih e mS L h1) (ihl (λe he=>ih e (mC he)) h3)
theorem ic{es:List Expr}{pos:Pos}(ih:∀e∈es,Pk W cf mt k e):Pk W cf mt k (.Tuple es n pos):=by
 intro ct X t L h;obtain⟨ts,h1,rfl⟩:=oM h;exact UQ L.K L.w (DY ih L h1)
theorem iu{es:List Expr}{pos:Pos}(ih:∀e∈es,Pk W cf mt k e):Pk W cf mt k (.List es pos):=by
 intro ct X t L h;obtain⟨ts,h1,rfl⟩:=oM h;exact UT L.K L.w (KJ L.K L.w (DY ih L h1))
theorem Yj{i:Nat}(h:kE ct e=some (.Aw i f)):Bo e=false:=by
 cases e with
 |ListComp elt gs sc pos=>
   rcases gs with _|⟨⟨tg,it,ifs,n⟩,_|⟨g2,gs⟩⟩
   .exact Ad h
   .obtain⟨_,_,h⟩:=oB h;obtain⟨_,_,h⟩:=oB h;obtain⟨_,_,h⟩:=oB h;obtain⟨_,_,h⟩:=oB h;split at h
    .cases h
    .cases h
   .exact Ad h
 |SetComp _ _ _ _=>exact Ad h
 |DictComp _ _ _ _ _=>exact Ad h
 |_=>rfl
theorem iA{op:Operator}{pos:Pos}(ha:Pk W cf mt k a)(hb:Pk W cf mt k b):Pk W cf mt k (.BinOp a op b pos):=by
 intro ct X t L h;obtain⟨o,h1,h2⟩:=oB h;obtain⟨x,h3,h4⟩:=oB h2;obtain⟨y,h5,rfl⟩:=oM h4;have sx:=KN (y:=y) L.K L.w (λi f e=>Yj (e▸h3)) (ha L h3);have sy:=hb L h5;cases op with
 |Add=>cases h1;exact Ee L.K L.w rfl (fZ L.K) (λ_ _=>rfl) rfl sx sy
 |Sub=>cases h1;exact Ee L.K L.w rfl (fT (W:=W)) (λ_ _=>rfl) rfl sx sy
 |Mult=>cases h1;exact Ee L.K L.w rfl (fW (W:=W)) (λ_ _=>rfl) rfl sx sy
 |Mod=>cases h1;exact Ee L.K L.w rfl (fX (W:=W)) (λ_ _=>rfl) rfl sx sy
 |FloorDiv=>cases h1;exact Ee L.K L.w rfl (ZY (W:=W)) (λ_ _=>rfl) rfl sx sy
 |Pow=>cases h1;exact Ee L.K L.w rfl (fU (W:=W)) (λ_ _=>rfl) rfl sx sy
 |BitAnd=>cases h1;exact Ef L.K L.w rfl rfl rfl rfl
 |RShift=>cases h1;exact Ef L.K L.w rfl rfl rfl rfl
 |_=>exact Ad h1
theorem mz{op:UnaryOp}{pos:Pos}(ha:Pk W cf mt k a):Pk W cf mt k (.UnaryOp op a pos):=by
 intro ct X t L h;cases op with
 |Not=>
   obtain⟨x,h1,rfl⟩:=oM h;exact UR L.K L.w (ha L h1)
 |USub=>
   obtain⟨x,h1,rfl⟩:=oM h;exact US L.K L.w (ha L h1)
 |_=>exact Ad h
variable{op:PySem.BoolOp}
theorem Yl{X:Cx}(L:Df ct X W cf mt k):∀{es:List Expr} {t:T},(∀e∈es,Pk W cf mt k e)->kB ct op es=some t->Kr X W cf mt op es t/\(2<=es.length->∃x y,t= .and x y\/t= .or x y)
 |[],t,_,h=>by unfold kB at h;cases h
 | [e],t,ih,h=>by
   unfold kB at h;exact#[.one (ih e mS L h),λz=>by simp at z]
 | e::e'::es,t,ih,h=>by
   unfold kB at h;obtain⟨x,h1,h2⟩:=oB h;obtain⟨y,h3,rfl⟩:=oM h2;have sx:=ih e mS L h1;have sy:=(Yl L (λe he=>ih e (mC he)) h3).1;cases op with
   |And=>exact#[.and sx sy,λ_=>#[x,y,.inl rfl]]
   |Or=>exact#[.or sx sy,λ_=>#[x,y,.inr rfl]]
theorem bO{es:List Expr}{pos:Pos}(ih:∀e∈es,Pk W cf mt k e):Pk W cf mt k (.BoolOp op es pos):=by
 intro ct X t L h;change (if 2<=es.length then kB ct op es else none)=_ at h;split at h
 .rename_i hl;obtain⟨h1,h2⟩:=Yl L ih h;obtain⟨x,y,e⟩:=h2 hl;rcases e with rfl|rfl
  .exact Au.ZV L.K L.w (λ_ _=>rfl) rfl rfl (h1.v pos) (PW.pt (h1.w pos)) rfl
  .exact Au.ZV L.K L.w (λ_ _=>rfl) rfl rfl (h1.v pos) (PW.pt (h1.w pos)) rfl
 .cases h
theorem bu(h1:∀a b,Ax o [a,b]=CV o a b)(h2:Ax o []=none)(h3:∀a,Ax o [a]=none)(h4:∀a b c r,Ax o (a::b::c::r)=none):∀cs c,Ax o cs=some c->∃b,c= .p (.bl b):=by
 intro cs c e;rcases cs with _|⟨a,_|⟨b,_|⟨d,r⟩⟩⟩
 .rw[h2]at e;cases e
 .rw[h3]at e;cases e
 .rw[h1]at e;obtain⟨x,_,rfl⟩:=Bi e;exact#[x,rfl]
 .rw[h4]at e;cases e
theorem Kg(op:CmpOp){X:Cx}(L:Df ct X W cf mt k):Cb X (compareOp op) (Cc W (CV (W3 op))):=by
 cases op with
 |Eq=>exact(RF L.K L.w L.un).1
 |NotEq=>exact(RF L.K L.w L.un).2
 |Lt=>exact l6
 |LtE=>exact l9
 |Gt=>exact lg
 |GtE=>exact lh
 |Is=>exact la
 |IsNot=>exact fY
 |In=>exact lb
 |NotIn=>exact fV L.K
theorem bM{op:CmpOp}{pos:Pos}(ha:Pk W cf mt k a)(hb:Pk W cf mt k b):Pk W cf mt k (.Compare a [op] [b] pos):=by
 intro ct X t L h;obtain⟨x,h3,h4⟩:=oB h;obtain⟨y,h5,rfl⟩:=oM h4;have sx:=KN (y:=y) L.K L.w (λi f e=>Yj (e▸h3)) (ha L h3);have sy:=hb L h5;have ho:=Kg op L;cases op<;>exact UZ L.K L.w rfl ho (λ_ _=>rfl) (bu (λ_ _=>rfl) rfl (λ_=>rfl) (λ_ _ _ _=>rfl)) rfl sx sy
theorem bL{o1 o2:CmpOp}{pos:Pos}(ha:Pk W cf mt k a)(hb:Pk W cf mt k b)(hc:Pk W cf mt k c):Pk W cf mt k (.Compare a [o1,o2] [b,c] pos):=by
 intro ct X t L h;obtain⟨x,h3,h4⟩:=oB h;obtain⟨y,h5,h6⟩:=oB h4;obtain⟨z,h7,h8⟩:=oB h6;split at h8
 .rename_i p;split at h8
  .rename_i hp;cases h8;exact OR L.K L.w rfl (Kg o1 L) (Kg o2 L) hp (ha L h3) (hb L h5) (hc L h7)
  .cases h8
 .cases h8
theorem iz{ops:List CmpOp}{cs:List Expr}{pos:Pos}(ha:Pk W cf mt k a)(ih:∀e∈cs,Pk W cf mt k e):Pk W cf mt k (.Compare a ops cs pos):=by
 rcases ops with _|⟨o1,_|⟨o2,_|⟨o3,os⟩⟩⟩
 .intro ct X t L h;rcases cs with _|⟨b,_|⟨c,_|⟨d,cs⟩⟩⟩<;>(exact Ad h)
 .rcases cs with _|⟨b,_|⟨c,cs⟩⟩
  .intro ct X t L h;exact Ad h
  .exact bM ha (ih b mS)
  .intro ct X t L h;exact Ad h
 .rcases cs with _|⟨b,_|⟨c,_|⟨d,cs⟩⟩⟩
  .intro ct X t L h;exact Ad h
  .intro ct X t L h;exact Ad h
  .exact bL ha (ih b mS) (ih c (mC mS))
  .intro ct X t L h;exact Ad h
 .intro ct X t L h;rcases cs with _|⟨b,_|⟨c,_|⟨d,cs⟩⟩⟩<;>(exact Ad h)
def Ps(W:Wd)(cf:CF)(mt:MT)(k:Nat)(e:Expr):Prop:=∀lo hi st p,e= .Slice lo hi st p->(∀x,lo=some x->Pk W cf mt k x)/\∀x,hi=some x->Pk W cf mt k x
theorem Ri(h:Bd b=true):Ks b:=by
 intro o i;cases b<;>first|rfl|cases h
theorem ij{pos:Pos}(hv:Pk W cf mt k v)(hi:Pk W cf mt k i)(hs:Ps W cf mt k i):Pk W cf mt k (.Subscript v i pos):=by
 intro ct X t L h
 have plain:((kE ct v).bind λx=>(kE ct i).map λy=>T.A0 .idx [x,y])=some t->Au X W cf mt (.Subscript v i pos) t:=λh=>by
  obtain⟨x,h3,h4⟩:=oB h;obtain⟨y,h5,rfl⟩:=oM h4;have sy:=hi L h5;exact UW L.K L.w L.un (Ri sy.st) (hv L h3) sy
 cases i with
 |Slice lo hi' st p=>
   cases st with
   |none=>
     obtain⟨x,h3,h4⟩:=oB h;obtain⟨l,h5,h6⟩:=oB h4;obtain⟨u,h7,rfl⟩:=oM h6;obtain⟨s1,s2⟩:=hs lo hi' none p rfl;have sx:=hv L h3;cases lo with
     |none=>
       unfold kO at h5;cases h5;cases hi' with
       |none=>unfold kO at h7;cases h7;exact QP L.K L.w sx
       |some b=>
         unfold kO at h7;obtain⟨y,h8,rfl⟩:=oM h7;exact QN L.K L.w sx (s2 b rfl L h8)
     |some a=>
       unfold kO at h5;obtain⟨y,h8,rfl⟩:=oM h5;cases hi' with
       |none=>unfold kO at h7;cases h7;exact QO L.K L.w sx (s1 a rfl L h8)
       |some b=>
         unfold kO at h7;obtain⟨z,h9,rfl⟩:=oM h7;exact QM L.K L.w sx (s1 a rfl L h8) (s2 b rfl L h9)
   |some st=>exact plain h
 |_=>exact plain h
end
section
variable{cf:CF}{mt:MT}
theorem iC:Bc X (.builtin "abs") (AU W (Pc (F3 TK))):=by
 intro A1 s Y H xs us Q I r h;obtain⟨x,c,r',rfl,h1,e,q⟩:=CB h;obtain⟨u,rfl,ru⟩:=vals1 r;unfold F3 at e;split at e
 .rename_i i;cases e;cases Ay h1;obtain⟨t,rfl⟩:=ru;exact call_abs_int λu tk=>#[.int (if i<0 then -i else i),H,I.tok tk,#[_,rfl],q.plain (Ak.mpr rfl)]
 .cases e
theorem ik:Bc X (.type "str") (AU W (Pc (F3 QF))):=by
 intro A1 s Y H xs us Q I r h;obtain⟨x,c,r',rfl,h1,e,q⟩:=CB h;obtain⟨u,rfl,ru⟩:=vals1 r;unfold F3 at e;split at e
 .rename_i i;obtain⟨k,ek,rfl⟩:=oM e;unfold QF at ek;split at ek
  case isFalse=>cases ek
  rename_i hl;cases ek;cases Ay h1;obtain⟨t,rfl⟩:=ru;exact PySem.P.str_of_int hl #[.str (toString i),H,I.tok _,#[_,rfl],q.plain (AE.mpr rfl)]
 .cases e
theorem iy:Bc X (.type "int") (AU W (Pc Se)):=by
 intro A1 s Y H xs us Q I r h;obtain⟨x,c,r',rfl,h1,e,q⟩:=CB h;unfold Se at e;split at e
 .rename_i i;cases e;cases Ay h1;exact Jk A1 s Y H _ us Q I r (.inl #[i,rfl,q.plain (Ak.mpr rfl)])
 .rename_i y;split at e
  case isFalse=>cases e
  rename_i hd;cases e;rw[bA]at hd;have h2:=of_decide_eq_true hd.2;have hall:PySem.NumText.AllDigits y.cps.toList:=λc hc=>of_decide_eq_true (all_eq_true.mp hd.1 c hc)
  cases Bx h1;obtain⟨u,rfl,t,rfl⟩:=vals1 r
  have hne:y.cps.toList≠[]:=λz=>by
   have:y.cps.toList.length=y.length:=by show y.cps.toList.length=y.cps.size;simp
   rw[z]at this;have:=h2.1;simp at *
   lia
  exact PySem.W.KIN.call_text (PySem.intText_digits hall hne (by lia)) h2.2 #[.int (BO y.cps.toList:Nat),H,I.tok _,#[_,rfl],q.plain (Ak.mpr rfl)]
 .rename_i b;cases e;cases ND h1;exact Jk A1 s Y H _ us Q I r (.inr #[b,rfl,q.plain (Ak.mpr rfl)])
 .cases e
end
section
variable{cf:CF}{mt:MT}
theorem Hi{H:Hp}:∀{ps:List P} {vs:List V} {ns:List Str},A7 W H ps vs->Bw ps=some ns->vs=ns.map V.str
 |[],vs,ns,h,e=>by unfold A7 at h;cases e;exact h
 | .str i::ps,vs,ns,h,e=>by
   unfold Bw at e;obtain⟨ms,em,rfl⟩:=oM e;unfold A7 at h;obtain⟨v,r,rfl,h1,h2⟩:=h;cases AE.mp h1;rw[Hi h2 em];rfl
 |.Az::_,_,_,_,e=>by cases e
 |.int _::_,_,_,_,e=>by cases e
 |.bl _::_,_,_,_,e=>by cases e
 |.tup _::_,_,_,_,e=>by cases e
 |.fn _::_,_,_,_,e=>by cases e
 |.box _ _::_,_,_,_,e=>by cases e
theorem ER:∀{ys:List Str} {us:List Value},Vals (ys.map V.str) us->StrsAre us ys
 |[],us,h=>by cases h;exact .nil
 | y::ys,us,h=>by
   cases h with
   |cons r t=>obtain⟨tk,rfl⟩:=r;exact .cons y tk (ER t)
theorem VQ(hK:W.K=X.K)(hw:W.w=X.w)(z:Str):dI X "str.join" (λx xs H Q=>x= .str z/\AU W (Pc (HM z)) xs H Q):=by
 intro A1 s Y H x xs v us Q I rx r h;obtain⟨rfl,h⟩:=h;obtain⟨tz,rfl⟩:=rx;obtain⟨x,c,r',rfl,h1,e,q⟩:=CB h;obtain⟨u,rfl,ru⟩:=vals1 r;unfold HM at e;obtain⟨ys,e1,e2⟩:=oB e;obtain⟨ps,e3,e4⟩:=oB e1;split at e2
 case isFalse=>cases e2
 rename_i hb;cases e2;have hb2:(ys.map (·.length)).sum+ys.length*z.length<=16777216:=Nat.le_trans hb (by decide);unfold DO at e3;split at e3
 .rename_i qs hn;cases e3;obtain⟨a,vs,rfl,k1,k2⟩:=D2 h1 hn;cases ru;obtain⟨its,rv,p,hz⟩:=I.list (hK▸k1);rw[Hi k2 e4]at rv;exact join_list p.isList (ER rv) hb2 λt' k=>#[.str (Lm z ys),H,I.tok k,#[t',rfl],q.plain (AE.mpr rfl)]
 .rename_i qs hn;cases e3;rw[GJ hn]at h1;obtain⟨a,vs,rfl,k1,k2⟩:=CJ h1;cases ru;obtain⟨its,rv,p⟩:=OO (hw▸I.Ao) (hK▸I.Cn) k1;rw[Hi k2 e4]at rv;exact join_tuple p (ER rv) hb2 λt' k=>#[.str (Lm z ys),H,I.tok k,#[t',rfl],q.plain (AE.mpr rfl)]
 .cases e3
theorem QK(hK:W.K=X.K)(hw:W.w=X.w){k:Nat}{apos pos:Pos}(hline:(apos.endLine==pos.line)=true)(h:Au X W cf mt a t):Au X W cf mt (.Call (.Attribute (.Constant (.str z) k p) "join" apos) [a] [] pos) (.A0 (.join z) [t]):=by
 obtain⟨ta,q1,q3,m1⟩:=Hz h;have hs:starEach [a] X.env=[(false,eval a X.env)]:=Ac h.st [] X.env;refine Au.of hK hw AF B7 rfl rfl (Ah (Ry PySem.F.plainAttrs_str PySem.F.slot_str_join PySem.F.type_str_join (VQ hK hw z) Rn (AV q1 Cp hs) rfl (by rw[hs];rfl) hline hs rfl) λY H Q z'=>?_) (λ_=>rfl) rfl;have z':=B8 (o:=.join z) rfl z';rw[q3]at z';refine#[rfl,?_];refine m1 _ _ _ _ z' λv H1 y=>#[rfl,?_]
 obtain⟨c,r,g1,g2,g3⟩:=CL (g:=Ax (.join z)) (g1:=HM z) (λ_=>rfl) y;exact#[[c],r,#[v,[],rfl,g1,rfl],g2,g3]
end
section
variable{cf:CF}{mt:MT}
theorem sw_eq{x y:Str}{i:Int}(h0:0<=i)(h1:i<=x.length):(decide (fromIndex x.length i+y.length<=x.length)&&Builtin.Str.subAt x y (fromIndex x.length i))=decide ((x.cps.toList.drop i.toNat).take y.length=y.cps.toList):=by
 have e:fromIndex x.length i=i.toNat:=by
  unfold fromIndex;rw[iN (by lia),Int.max_eq_right h0]
 have hx:x.cps.toList.length=x.length:=by show x.cps.toList.length=x.cps.size;simp
 have hy:y.cps.toList.length=y.length:=by show y.cps.toList.length=y.cps.size;simp
 rw[e];unfold Builtin.Str.subAt
 by_cases h:(x.cps.toList.drop i.toNat).take y.length=y.cps.toList
 .rw[dZ h];have hl:=congrArg List.length h;rw[length_take,length_drop,hx,hy]at hl
  have e2:x.cps.extract i.toNat (i.toNat+y.length)=y.cps:=by
   rw[<-Array.toList_inj,Array.toList_extract,<-h];simp[List.extract]
  rw[e2,dZ (by lia)];simp
 .rw[dF h]
  have:(x.cps.extract i.toNat (i.toNat+y.length)==y.cps)=false:=by
   rw[beq_eq_false_iff_ne];intro z;refine h ?_;rw[<-z,Array.toList_extract];simp[List.extract]
  rw[this,Bool.and_false]
theorem gh:dI X "str.startswith" (λx xs H Q=>∃(a y:Str) (i:Int),x= .str a/\xs=[.str y,.int i]/\0<=i/\i<=a.length/\Q (.bl (decide ((a.cps.toList.drop i.toNat).take y.length=y.cps.toList))) H):=by
 intro A1 s Y H x xs v us Q I rx r h;obtain⟨a,y,i,rfl,rfl,h0,h1,q⟩:=h;obtain⟨t,rfl⟩:=rx;obtain⟨u,w,rfl,⟨t2,rfl⟩,⟨t3,rfl⟩⟩:=vals2 r;refine call_gives PySem.F.slot_str_startswith (typeIs_str _ _ _) PySem.F.entry_str_startswith (PySem.F.args_str_startswith_3 _ _ _) (gives_str_startswith_from a y i t t2 t3) ?_;exact#[.bl _,H,I,rfl,by rw[<-sw_eq h0 h1]at q;exact q]
theorem fq{H:Hp}{cs:List C}{a b c:V}(h:CY W H cs [a,b,c]):∃x y z,cs=[x,y,z]/\DI W H x a/\DI W H y b/\DI W H z c:=by
 rcases cs with _|⟨x,_|⟨y,_|⟨z,_|⟨w,r⟩⟩⟩⟩
 .unfold CY at h;cases h
 .obtain⟨_,_,e,_,h⟩:=h;cases e;unfold CY at h;cases h
 .obtain⟨_,_,e,_,h⟩:=h;cases e;obtain⟨_,_,e,_,h⟩:=h;cases e;unfold CY at h;cases h
 .obtain⟨_,_,e,h1,h⟩:=h;cases e;obtain⟨_,_,e,h2,h⟩:=h;cases e;obtain⟨_,_,e,h3,h⟩:=h;cases e;exact#[x,y,z,rfl,h1,h2,h3]
 .obtain⟨_,_,e,_,h⟩:=h;cases e;obtain⟨_,_,e,_,h⟩:=h;cases e;obtain⟨_,_,e,_,h⟩:=h;cases e;obtain⟨_,_,e,_,h⟩:=h;cases e
theorem Qh.x(hK:W.K=X.K){to:TE}(h:Qh X W e o to):PE X e (tX W o):=by
 cases h with
 |nm h=>exact Ah h λY H Q ⟨v,h1,h2⟩=>#[v,h1,h2]
 |fl h=>exact Ah h λY H Q ⟨v,⟨a,C,dx,fs,q1,q2,q3,q4,q5⟩,q⟩=>#[.ref a,q1,a,C,dx,fs,v,rfl,q2,hK▸q3,hK▸q4,q5,q]
theorem Z5(hK:W.K=X.K)(hw:W.w=X.w){x0 x y:T}{apos pos:Pos}(hbase:attributeBase o (Str.ofString "startswith") X.env (eval o X.env)=eval o X.env)(hline:(apos.endLine==pos.line)=true)(h0:PE X o (tX W x0))(h1:Au X W cf mt a x)(h2:Au X W cf mt b y)(hc:(x0.calm&&x.calm&&y.calm)=true):
 Au X W cf mt (.Call (.Attribute o (Str.ofString "startswith") apos) [a,b] [] pos) (.A0 .sw [x0,x,y]):=by
 rw[bA,bA]at hc;obtain⟨⟨c0,c1⟩,c2⟩:=hc;have hs:starEach [a,b] X.env=[(false,eval a X.env),(false,eval b X.env)]:=by rw[Ac h1.st,Ac h2.st];rfl
 refine Au.of hK hw AF B7 rfl rfl (Ah (Ry PySem.F.plainAttrs_str PySem.F.slot_str_startswith PySem.F.type_str_startswith gh h0 (AV (h1.x c1) (AV (h2.x c2) Cp (Ac h2.st [] _)) (Ac h1.st _ _)) hbase (by rw[hs];rfl) hline (Ac h1.st _ _) (Bv (λe he=>by rw[mE he];exact h2.st) pos _)) λY H Q z=>?_) (λ_=>rfl) rfl;have z:=B8 (o:=.sw) rfl z;unfold GG at z;rw[iP (by simp[c0,c1,c2])]at z;obtain⟨v0,r0,v1,r1,v2,r2,cs,c,g1,g2,g3⟩:=z;obtain⟨k0,k1,k2,rfl,d0,d1,d2⟩:=fq g1;change du _ _ _=some c at g2;unfold du at g2;split at g2
 .rename_i xx yy ii;split at g2
  .rename_i hi;cases g2;cases Bx d0;cases Bx d1;cases Ay d2;exact#[_,r0,rfl,_,r1,_,r2,xx,yy,ii,rfl,rfl,hi.1,hi.2,g3.bl]
  .cases g2
 .cases g2
end
section
variable{cf:CF}{mt:MT}
theorem VB{i k:Nat}{e:Expr}{es:List Expr}{t:TA}{pos:Pos}(hv:PE X (.Name x p) (EO i))(hr:Bk k X.A)(ha:PA X (e::es) t)(hpl:∀a∈e::es,Bd a=true):
 PE X (.Call (.Name x p) (e::es) [] pos) (λY H Q=>∃n,Y[i]? =some (some (.ref (W.Cq n)))/\keepIn X.K (.ref (W.Cq n))=true/\dc X W cf k n/\t Y H λvs H1=>JC W (cf n) vs H1 Q (EE W (AI X W) Y)):=by
 rintro A1 s Y H Q I ⟨n,hs,hk,F,h⟩
 obtain⟨fd,ps,F1,F2⟩:=F.ex;refine wpAny_Call_Name_kw (B2 (hv A1 s Y H (λv H1=>v= .ref (W.Cq n)/\H1=H) I #[_,hs,rfl,rfl]) λv s1 ⟨y,H1,I1,r1,e1,e2⟩=>?_);subst e1;subst e2;cases r1;refine callWith_K (h₀:=X.base) I1.ok.mod.PB hk (B2 (ha pos A1 s1 Y H1 _ I1 h) λus s2 ⟨vs,H2,I2,r,q⟩=>#[I2.Cn,?_]) (Ac (hpl e mS) es _) (Bv (λe he=>hpl e (mC he)) pos _);exact Fu F1 hr F2 I2 r q
theorem Wz(i:Nat)(ts:List T)(U:Env):ev cf mt (.Fc i ts) U=match A8 U i with
 |some (.b (.p (.fn n)))=>if mt.tf n then(Ae cf mt ts U).bind λhs U=>AK cf n hs U else .A2
 |_=>.A2:=by
 show(den cf mt (.Fc i ts)).v U=_;rfl
theorem QS(hK:W.K=X.K)(hw:W.w=X.w){i k:Nat}{e:Expr}{es:List Expr}{ts:List T}{pos:Pos}(hv:PE X (.Name x p) (EO i))(hr:Bk k X.A)(hf:∀n,mt.tf n=true->keepIn X.K (.ref (W.Cq n))=true/\dc X W cf k n)(h:BI X W cf mt (e::es) ts):
 Au X W cf mt (.Call (.Name x p) (e::es) [] pos) (.Fc i ts):=by
 refine Au.of hK hw (λ_ _=>rfl) (λU=>by show(den cf mt (.Fc i ts)).b U=(((den cf mt (.Fc i ts)).v U).bind _).bind _;rfl) rfl rfl (Ah (VB (W:=W) (cf:=cf) hv hr (DS h) h.plain) λY H Q z=>?_) (λ_=>rfl) rfl;obtain⟨U,os,hR,hn,hA⟩:=z;rw[Wz]at hA;split at hA
 .rename_i n hg;split at hA
  .rename_i ht;obtain⟨g1,g2⟩:=hf n ht;obtain⟨v,o,q1,q2,_⟩:=hR.get hg;have e1:v= .ref (W.Cq n):=(Fv.mp q2.1).1;subst e1;exact#[n,q1,g1,g2,FP #[U,os,hR,hn,hA]]
  .exact hA.elim
 .exact hA.elim
end
theorem Gs(x:Str):∀l:List Str,AB (l++[x])=if l.contains x then AB l else AB l+1
 |[]=>rfl
 | a ::l=>by
   have ih:=Gs x l;rw[cons_append];have e1:AB (a::(l++[x]))=if(l++[x]).contains a then AB (l++[x])else AB (l++[x])+1:=rfl
   have e2:AB (a::l)=if l.contains a then AB l else AB l+1:=rfl
   rw[e1,e2,ih]
   by_cases hax:x=a
   .subst hax;simp
   .have hxa:¬a=x:=λz=>hax z.symm
    by_cases h1:a∈l<;>by_cases h2:x∈l<;>simp[h1,h2,hax,hxa]
variable{prog:Program}{w:World}{A:Around}{R:Result->Shared->Prop}{E:Va}
abbrev EK(prog:Program)(w:World)(h:Heap)(S:Addr)(l:List Str):Prop:=h.SetOf (PySem.strKind prog w) S (λk=>l.contains k) (AB l)
theorem IW:∀l:List Str,AB l<=l.length
 |[]=>lR
 | a::l=>by
   have:=IW l;show(if l.contains a then AB l else AB l+1)<=l.length+1;split<;>lia
theorem take_snoc{l:List Str}{i:Nat}{x:Str}(h:l[i]? =some x):l.take (i+1)=l.take i++[x]:=by
 rw[List.take_add_one,h];rfl
theorem GP{I S ax:Addr}{items:Array Value}{ks:List Str}(hSI:S≠I)(hSa:S≠ax)(haI:ax≠I)(hh:A.in1.handled=none)(hk:∀(i:Nat) (v:Value),items[i]? =some v->∃x t,ks[i]? =some x/\v= .str x t)(hl:ks.length=items.size)(hb:items.size+1<scanBound):
 ∀ (m i:Nat) (s:Shared),items.size-i=m->i<=items.size->s.heap.IsTupleIter I ax i->s.heap.IsTuple ax items->EK prog w s.heap S (ks.take i)->
   (∀h' tk,(∀b o,b≠S->b≠I->s.heap.get? b=some o->h'.get? b=some o)->EK prog w h' S ks->R (.ok (.ret .none)) {s with heap:=h',toks:=tk})->
   codeAny (model prog w) A (.builtin "set.update.loop" #[[.ref S,.ref I],[]]) R s:=by
 have W:=Walks.tuple (prog:=prog) (w:=w) hh I ax haI items;have mv:∀{h h':Heap} {l:List Str},(∀o,h.get? S=some o->h'.get? S=some o)->EK prog w h S l->EK prog w h' S l:=λ{h h' l} k ⟨o,es,ep,t,ho,r⟩=>#[o,es,ep,t,k o ho,r]
 intro m
 induction m with
 |zero=>
   intro i s hm hi hit htu hS hR;have hin:i=items.size:=by lia
   subst hin;refine codeAny_builtin F.entry_set_update_loop ?_;rw[Around.under_plainId F.plain_set_update_loop _];show wpAny _ A.in1 (pyNext (.ref I) >>= _) _ _ s;refine wB (W.done s _ _ #[hit,htu] λh' tk k=>?_);show wpAny _ A.in1 (ret Value.none) _ _ _;refine wP (hR h' tk (λb o h1 h2 e=>k b o (by simpa using h2) e) ?_);rw[<-hl,List.take_length]at hS;exact mv (λo e=>k S o (by simpa using hSI) e) hS
 |succ m ih=>
   intro i s hm hi hit htu hS hR;have hlt:i<items.size:=by lia
   refine codeAny_builtin F.entry_set_update_loop ?_;rw[Around.under_plainId F.plain_set_update_loop _];show wpAny _ A.in1 (pyNext (.ref I) >>= _) _ _ s;refine wB (W.item i s _ _ hlt #[hit,htu] λv h1 tk hv st k=>?_);obtain⟨x,t,hx,rfl⟩:=hk i v hv;have hS1:=mv (λo e=>k S o (by simpa using hSI) e) hS;show wpAny _ A.in1 (holding [Value.str x t] (setAdd S (.str x t)) >>= _) _ _ _;refine wB (wpAny_holding ?_);unfold setAdd;refine wpAny_holding ?_
   have hkey:(PySem.strKind prog w).is x (.str x t)=true:=by
    show Value.isStrOf x (.str x t)=true;simp[Value.isStrOf]
   refine wB ((PySem.strKind prog w).pyHash (k:=x) hkey ?_)
   have hroom:AB (ks.take i)+1<scanBound:=by
    have:=IW (ks.take i);rw[length_take]at this
    lia
   refine wpAny_setAddHashed_of (knd:=PySem.strKind prog w) (s:={s with heap:=h1,toks:=tk+1}) hkey rfl hS1 hroom λh2 hsb hS2=>?_
   have hS3:EK prog w h2 S (ks.take (i+1)):=by
    rw[take_snoc hx];refine SetOf_congr hS2 (λk'=>?_) ?_
    .simp[List.contains_eq_mem,Bool.or_comm,eq_comm]
    .rw[Gs]
   have kp:∀b o,b≠S->b≠I->s.heap.get? b=some o->h2.get? b=some o:=λb o n1 n2 e=>by rw[hsb.2 b n1];exact k b o (by simpa using n2) e
   refine wP #[plainId_quiet F.plain_set_update_loop _,ih (i+1) _ (by lia) hlt (st.1.at λo e=>by rw[hsb.2 I hSI.symm];exact e) (st.2.at λo e=>by rw[hsb.2 ax hSa.symm];exact e) hS3 λh' tk' k' hS4=>?_];exact hR h' tk' (λb o n1 n2 e=>k' b o n1 n2 (kp b o n1 n2 e)) hS4
end Iv
namespace PySem.F
theorem KH:isSubtype (.type "tuple") (.type "set")=pure false:=by rw[isSubtype_type];kernel_rfl
theorem JB:isSubtype (.type "tuple") (.type "frozenset")=pure false:=by rw[isSubtype_type];kernel_rfl
end PySem.F
namespace Iv
open PySem L2 PyProof.Rows
abbrev QV(led:Bool):Obj:={cls:=.type "set",dict:=none,data:=.set [].toArray 0 (.fresh 0 0 led)}
variable{prog:Program}{w:World}{A:Around}{E:Va}{s:Shared}
variable{ax:Addr}{ks:List Str}
theorem UI{S:Addr}{led:Bool}{items:Array Value}{Q:Va}(hh:A.handled=none)(hS:s.heap.get? S=some (QV led))(hSl:S≠ax)(ht:s.heap.IsTuple ax items)
 (hk:∀(i:Nat) (v:Value),items[i]? =some v->∃x t,ks[i]? =some x/\v= .str x t)(hl:ks.length=items.size)(hb:items.size+1<scanBound)
 (h:∀h' tk,(∀b o,b≠S->b<s.heap.objs.size->s.heap.get? b=some o->h'.get? b=some o)->EK prog w h' S ks->Q .none {s with heap:=h',toks:=tk}):
 wpAny (model prog w) A (Builtin.«set.__init__» #[[.ref S,.ref ax],[]]) (λfin s'=>∃r,fin= .done (.ret r)/\Q r s') E s:=by
 have hT:s.TypeIs (.ref S) "set":=#[_,hS,rfl];have hTt:s.TypeIs (.ref ax) "tuple":=ht.typeIs;have hls:=F.KH;have hlf:=F.JB;unfold Builtin.«set.__init__» noKeywords Builtin.Frozenset.updateFrom;generalize hPI:pyIter=PI
 wp_walk
 subst hPI;refine wpAny_pyIter_tuple ht ?_;refine wB (wpAny_runValue ?_);have hlt:S<s.heap.objs.size:=Heap.lt_size hS;obtain⟨ot,hot,r⟩:=ht;have hax:ax<s.heap.objs.size:=Heap.lt_size hot;refine GP (A:=A) (ks:=ks) (items:=items) (ax:=ax) (Nat.ne_of_lt hlt) hSl (Nat.ne_of_lt hax) (by simp[hh]) hk hl hb items.size 0 _ (by lia) (Nat.zero_le _) ?_ ?_ ?_ λh' tk k hS'=>?_
 .exact#[_,Heap.get?_push_size _ rfl,rfl,rfl]
 .exact#[ot,gP hot,r]
 .exact SetOf_congr ((setObjOf_fresh (knd:=PySem.strKind prog w) led).setOf (gP hS) (by unfold scanBound;lia)) (λ_=>rfl) rfl
 .show wpAny _ _ _ _ _ _;refine wP ?_;show wpAny _ _ (ret Value.none) _ _ _;exact wP #[_,rfl,h h' tk (λb o n1 n2 e=>k b o n1 (Nat.ne_of_lt n2) (gP e)) hS']
theorem UJ{items:Array Value}{Q:Va}(hh:A.handled=none)(ht:s.heap.IsTuple ax items)
 (hk:∀(i:Nat) (v:Value),items[i]? =some v->∃x t,ks[i]? =some x/\v= .str x t)(hl:ks.length=items.size)(hb:items.size+1<scanBound)
 (h:∀h' tk,(∀b o,s.heap.get? b=some o->h'.get? b=some o)->EK prog w h' s.heap.objs.size ks->Q (.ref s.heap.objs.size) {s with heap:=h',toks:=tk}):
 wpAny (model prog w) A (call (.type "set") [.ref ax]) Q E s:=by
 obtain⟨c,tl,hmro⟩:=F.called_set.mro;have hmade:=F.called_set.made;have hsub:=F.called_set.sub;have h1:=F.called_set.notType;have h2:=F.called_set.canCreate;have hct:=F.typeCall_set_1 (.ref ax);refine wpAny_call (codeAny_of_tree ?_);show wpAny _ _ (callAny (.type "set") _) _ _ _;refine wP #[Code.quiet_builtin _ (by decide +kernel),codeAny_builtin F.entry_type_call ?_];rw[Around.under_plain (weight_type_call_type "set" [.ref ax] []) rfl]
 repeat (any_goals (first|assumption|wp_step))
 refine codeAny_mono (code_set_new_1 (.ref ax) (E:=E) (Q₁:=λobj s₁=>∃led:Bool,obj= .ref s.heap.objs.size/\s₁={s with heap:=s.heap.push (QV led)}) λled=>#[led,rfl,rfl]) λr s₁ hr=>?_
 cases r with
 |error e=>exact hr
 |ok fl =>
   cases fl with
   |next=>exact hr.elim
   |brk=>exact hr.elim
   |cont=>exact hr.elim
   |ret obj=>
     obtain⟨led,rfl,rfl⟩:=hr;have hS:(s.heap.push (QV led)).get? s.heap.objs.size=some (QV led):=Heap.get?_push_size _ rfl;have hT:Shared.TypeIs {s with heap:=s.heap.push (QV led)} (.ref s.heap.objs.size) "set":=#[_,hS,rfl];have hli:=F.called_set.init.lookup;have hbi:=F.called_set.init.bind (.ref s.heap.objs.size);obtain⟨ot,hot,rt⟩:=ht;have hax:ax<s.heap.objs.size:=Heap.lt_size hot
     repeat (any_goals (first|assumption|wp_step))
     refine codeAny_mono (codeAny_call_builtin (R:=wants (λr s₂=>r= .none/\∃h' tk,s₂={s with heap:=h',toks:=tk}/\EK prog w h' s.heap.objs.size ks/\∀b o,s.heap.get? b=some o->h'.get? b=some o) E) F.called_set.init.plain F.entry_set_init (check_set_init_1 hT ?_)) λr₂ s₂ hr₂=>?_
     .refine wpAny_mono (UI (E:=E) (A:=A.in1.in1) (led:=led) (Q:=λr s₂=>r= .none/\∃h' tk,s₂={s with heap:=h',toks:=tk}/\EK prog w h' s.heap.objs.size ks/\∀b o,s.heap.get? b=some o->h'.get? b=some o) (by simp[hh]) hS (Nat.ne_of_gt hax) #[ot,gP hot,rt] hk hl hb λh' tk k hS'=>?_) (λfin s' ⟨r,e,q⟩=>?_) λe s' z=>z
      .refine#[rfl,h',tk,rfl,hS',λb o e=>?_];have hbl:=Heap.lt_size e;exact k b o (Nat.ne_of_lt hbl) (by rw[Heap.size_push];exact Nat.lt_succ_of_lt hbl) (gP e)
      .subst e;exact q
     .cases r₂ with
      |error e=>exact hr₂
      |ok fl₂=>
        cases fl₂ with
        |ret r=>
          obtain⟨rfl,h',tk,rfl,hS',hk'⟩:=hr₂
          repeat (any_goals (first|assumption|wp_step))
          exact h _ _ hk' hS'
        |_=>exact hr₂.elim
def SX(P:Program)(w:World)(a:Addr)(l:List Str):HO:=.ext λh=>EK P w h a l
section
variable{X:Cx}{W:Wd}{cf:CF}{mt:MT}
theorem Nr{H:Hp}:∀{ps:List P} {xs:List Str} {vs:List V} {us:List Value},Bw ps=some xs->A7 W H ps vs->Vals vs us->xs.length=us.length/\∀(i:Nat) (u:Value),us[i]? =some u->∃x t,xs[i]? =some x/\u= .str x t
 | [],xs,vs,us,e,h,r=>by
   cases e;have h:vs=[]:=h;subst h;cases r;exact#[rfl,λi u z=>by simp at z]
 | .str x::ps,xs,vs,us,e,h,r=>by
   obtain⟨ys,e1,rfl⟩:=oM (show(Bw ps).map (x::·)=some xs from e);obtain⟨v,vs',rfl,h1,h2⟩:=h;have h1:=AE.mp h1;subst h1;cases r with
   |@cons _ u _ us' r1 r2=>
     obtain⟨t,rfl⟩:=r1;obtain⟨g1,g2⟩:=Nr e1 h2 r2;refine#[by simp[g1],λi u z=>?_]
     match i,z with
     |0,z=>cases z;exact#[x,t,rfl,rfl]
     |i+1,z=>exact g2 i u z
 |.Az::_,_,_,_,e,_,_=>by cases e
 |.bl _::_,_,_,_,e,_,_=>by cases e
 |.int _::_,_,_,_,e,_,_=>by cases e
 |.tup _::_,_,_,_,e,_,_=>by cases e
 |.fn _::_,_,_,_,e,_,_=>by cases e
 |.box _ _::_,_,_,_,e,_,_=>by cases e
def Zs(W:Wd)(X:Cx):List V->Hp->VK->Prop:=λxs H Q=>∃x ps l,xs=[x]/\AH W H (.tup ps) x/\Bw ps=some l/\l.length<4000/\∀p,H p=none->Q (.ref p) (upd H p (SX X.prog X.w p l))
theorem il(hK:W.K=X.K)(hc:X.calm=true):Bc X (.type "set") (Zs W X):=by
 intro A1 s Y H xs us Q I r h;obtain⟨x,ps,l,rfl,h1,h2,h3,q⟩:=h;obtain⟨a,vs,rfl,h4,h5⟩:=Dj.mp h1;obtain⟨u,rfl,ru⟩:=vals1 r;cases ru;obtain⟨its,r2,pl,_⟩:=I.tuple (hK▸h4);obtain⟨g1,g2⟩:=Nr h2 h5 r2;refine UJ (ks:=l) (items:=its.toArray) (I.ok.hd hc) pl (λi v e=>g2 i v (by simpa using e)) (by simpa using g1) (by unfold scanBound;simp only[size_toArray];lia) λh' tk k hS=>?_
 refine#[.ref s.heap.objs.size,upd H s.heap.objs.size (SX X.prog X.w s.heap.objs.size l),I.laid k (lR) #[hS,?_,λh1 h2 ⟨o,es,ep,t,ho,r⟩ k=>#[o,es,ep,t,k o ho,r]],rfl,q _ (I.Ao.fresh (lR))];obtain⟨o,es,ep,t,ho,_⟩:=hS;exact#[o,ho]
def fv(X:Cx):List V->Hp->VK->Prop:=λxs H Q=>∃p l,xs=[.ref p]/\H p=some (SX X.prog X.w p l)/\Q (.int (AB l)) H
theorem bI:Bc X (.builtin "len") (fv X):=by
 intro A1 s Y H xs us Q I r h;obtain⟨p,l,rfl,h1,q⟩:=h;obtain⟨u,rfl,ru⟩:=vals1 r;cases ru;obtain⟨⟨o,es,ep,t,ho,hex,hd,_,_,hb,hf,hn⟩,_⟩:=(show BW X.prog X.w H s.heap p (SX X.prog X.w p l)from I.Ao p _ h1);refine call_len_set ho hex hd hf (by unfold scanBound at hb;lia) #[.int (AB l),H,I.tok _,#[s.toks+1,by rw[hn]],q]
theorem bQ:bootBuiltins "set"=some (.type "set"):=rfl
theorem Md(hK:W.K=X.K)(hw:W.w=X.w)(hc:X.calm=true)(hg:Gl X "len")(hm:X.mg "len"=none)(hg2:Gl X "set")(hm2:X.mg "set"=none){p q pos:Pos}(h:Au X W cf mt l t):
 Au X W cf mt (.Call (.Name "len" p) [.Call (.Name "set" q) [l] [] p2] [] pos) (.A0 .DB [t]):=by
 obtain⟨ta,q1,q2,m1⟩:=Hz h;have pe1:PE X (.Call (.Name "set" q) [l] [] p2) (jh (Zs W X) (Bl ta DJ)):=IT (il hK hc) hg2 hm2 bQ (AV q1 Cp (Ac h.st [] _)) (by decide) (by decide) (Ac h.st [] _) (Bv (λe he=>by cases he) p2 _);have pa:PA X [.Call (.Name "set" q) [l] [] p2] (Bl (jh (Zs W X) (Bl ta DJ)) DJ):=AV pe1 Cp (Ac rfl [] _);refine Au.of hK hw AF B7 rfl rfl (Ah (Dm bI hg hm Ta pa (by decide) (by decide) (Ac rfl [] _) (Bv (λe he=>by cases he) pos _)) λY H Q z=>?_) (λ_=>rfl) rfl;have z:=B8 (o:=.DB) rfl z;rw[q2]at z;refine m1 _ _ _ _ z λu H1 z=>?_
 obtain⟨c,r,g1,g2,g3⟩:=CL (g:=Ax .DB) (g1:=En) (λ_=>rfl) z;unfold En at g2;obtain⟨xs,e1,e2⟩:=oB g2;obtain⟨ps,e3,e4⟩:=oB e1;split at e2
 case isFalse=>cases e2
 rename_i hl;cases e2;cases c with
 |obj _ _=>cases e3
 |b y =>
   cases y with
   |p y=>
     cases y with
     |tup qs=>
       cases e3;refine#[u,ps,xs,rfl,g1,e4,hl,λa ha=>#[a,xs,rfl,Ar,?_]];exact g3 _ _ [] (λb x e=>by rw[Ab λz=>by rw[z,ha]at e;cases e];exact e) #[Ak.mpr rfl,rfl] .nil (λ_ z=>by cases z)
     |_=>cases e3
   |_=>cases e3
end
section
variable{W:Wd}{cf:CF}{mt:MT}{k:Nat}
theorem Aa{α:Type}{c:Prop}[Decidable c]{a b:Option α}{t:α}(h:(if c then a else b)=some t):(c/\a=some t)\/(¬c/\b=some t):=by
 by_cases hc:c
 .rw[iP hc]at h;exact .inl #[hc,h]
 .rw[iN hc]at h;exact .inr #[hc,h]
theorem BI.one{X:Cx}{es:List Expr}{t:T}(h:BI X W cf mt es [t]):∃e,es=[e]/\Au X W cf mt e t:=by
 cases h with
 |cons h r=>cases r;exact#[_,rfl,h]
theorem BI.two{X:Cx}{es:List Expr}{t u:T}(h:BI X W cf mt es [t,u]):∃e f,es=[e,f]/\Au X W cf mt e t/\Au X W cf mt f u:=by
 cases h with
 |cons h r=>
   obtain⟨f,rfl,h2⟩:=r.one;exact#[_,f,rfl,h,h2]
variable{ct:Ct}
theorem YU{X:Cx}(L:Df ct X W cf mt k)(hg:Gl X "tuple")(hm:X.mg "tuple"=none){u:T}{p pos:Pos}(h:Au X W cf mt a t)(e:Qu t=some u):Au X W cf mt (.Call (.Name "tuple" p) [a] [] pos) u:=by
 unfold Qu at e;split at e
 .cases e
 .cases e;exact Nv L.K L.w rfl (WS L.K) (EZ λ_=>rfl) LK hg hm (by decide) (by decide) rfl (.cons h .nil)
theorem ay{X:Cx}(L:Df ct X W cf mt k)(hg:Gl X "list")(hm:X.mg "list"=none){u:T}{p pos:Pos}(h:Au X W cf mt a t)(e:RU t=some u):Au X W cf mt (.Call (.Name "list" p) [a] [] pos) u:=by
 unfold RU at e;split at e
 .cases e
 .cases e;exact Nv L.K L.w rfl (bH L.K L.calm) (EZ λ_=>rfl) WV hg hm (by decide) (by decide) rfl (.cons h .nil)
theorem bU:bootBuiltins "abs"=some (.builtin "abs"):=rfl
variable{ts:List T}
theorem bX{X:Cx}(L:Df ct X W cf mt k){es:List Expr}{t:T}{pos:Pos}(ho:ct.own x=true)(h:BI X W cf mt es ts)(e:dE x ts=some t):Au X W cf mt (.Call (.Name x p) es [] pos) t:=by
 obtain⟨hg,hm,_,_⟩:=L.Mr ho;have bad:∀{o:O} {us:List T},o.ok=false->B3 (.A0 o us)=(.op,[.A0 o us])->Au X W cf mt (.Call (.Name x p) es [] pos) (.A0 o us):=λh1 h2=>Ef L.K L.w h1 h2 rfl rfl
 unfold dE at e
 match ts,h,e with
 |[u],h,e=>
   obtain⟨a,rfl,sa⟩:=h.one;rcases Aa e with⟨hx,e⟩|⟨_,e⟩
   .subst hx;cases e;exact Nw L.K L.w rfl (iv L.K) (EZ λ_=>rfl) Ta hg hm (by decide) (by decide) rfl h
   rcases Aa e with⟨hx,e⟩|⟨_,e⟩
   .subst hx;exact ay L hg hm sa e
   rcases Aa e with⟨hx,e⟩|⟨_,e⟩
   .subst hx;exact YU L hg hm sa e
   rcases Aa e with⟨hx,e⟩|⟨_,e⟩
   .subst hx;cases e;exact Nw L.K L.w rfl (iB L.K L.calm) (EZ λ_=>rfl) bT hg hm (by decide) (by decide) rfl h
   rcases Aa e with⟨hx,e⟩|⟨_,e⟩
   .subst hx;cases e;exact Nw L.K L.w rfl (iC (W:=W)) (EZ λ_=>rfl) bU hg hm (by decide) (by decide) rfl h
   rcases Aa e with⟨hx,e⟩|⟨_,e⟩
   .subst hx;cases e;exact Nv L.K L.w rfl (ik (W:=W)) (EZ λ_=>rfl) T9 hg hm (by decide) (by decide) rfl h
   rcases Aa e with⟨hx,e⟩|⟨_,e⟩
   .subst hx;cases e;exact Nv L.K L.w rfl (iy (W:=W)) (EZ λ_=>rfl) Tb hg hm (by decide) (by decide) rfl h
   rcases Aa e with⟨hx,e⟩|⟨_,e⟩
   .subst hx;cases e;exact IE hg hm h (.inl rfl)
   rcases Aa e with⟨hx,e⟩|⟨_,e⟩
   .cases e;exact bad rfl rfl
   .cases e
 |[u,v],h,e=>
   obtain⟨a,b,rfl,sa,sb⟩:=h.two;rcases Aa e with⟨hx,e⟩|⟨_,e⟩
   .subst hx;cases e;exact Nw L.K L.w rfl (ir (W:=W) L.calm) (ZU λ_ _=>rfl) bR hg hm (by decide) (by decide) rfl h
   .cases e
 |[u,v,w],h,e=>
   rcases Aa e with⟨hx,e⟩|⟨_,e⟩
   .subst hx;cases e;exact IE hg hm h (.inr rfl)
   .cases e
 |[],h,e=>cases e
 |_::_::_::_::_,h,e=>cases e
theorem RO{X:Cx}(L:Df ct X W cf mt k){i:Nat}(st:Bd e=true)(nc:Bo e=false):Au X W cf mt e (.Al m (.Aw i f) ts):=by
 have hv:∀U,ev cf mt (.Al m (.Aw i f) ts) U= .A2:=λU=>by
  show(den cf mt (.Al m (.Aw i f) ts)).v U=_;rfl
 exact Au.not L.K L.w (λ_ _=>rfl) hv (λU=>by
  show(den cf mt (.Al m (.Aw i f) ts)).b U=_
  rfl) rfl rfl st nc
variable{apos:Pos}
theorem Yi{X:Cx}(L:Df ct X W cf mt k){to:TE}(hr:Qh X W e o to){es:List Expr}{t:T}{pos:Pos}(Ao:Qe m es.length apos pos=true)(h:BI X W cf mt es ts)(hk:kM m o ts=some t):Au X W cf mt (.Call (.Attribute e m apos) es [] pos) t:=by
 unfold Qe at Ao;rw[bA,bA]at Ao;obtain⟨⟨hline,hl⟩,hni⟩:=Ao;have hl:=of_decide_eq_true hl;have hni:=of_decide_eq_true hni;have bad:∀{o:O} {us:List T},o.ok=false->B3 (.A0 o us)=(.op,[.A0 o us])->Au X W cf mt (.Call (.Attribute e m apos) es [] pos) (.A0 o us):=λh1 h2=>Ef L.K L.w h1 h2 rfl rfl
 have Al:t= .Al m o ts->Au X W cf mt (.Call (.Attribute e m apos) es [] pos) t:=λz=>by
  subst z;cases hr with
  |nm hx=>exact QI L.K L.w L.aj (L.room.mono (Nat.le_succ _)) hx hni hl hline h
  |fl hx=>exact RO L rfl rfl
 unfold kM at hk;cases hb:mB m o ts with
 |none=>rw[hb]at hk;cases hk;exact Al rfl
 |some z=>
   rw[hb]at hk;cases hk;unfold mB at hb
   match ts,h,hb with
   |[],h,hb=>
     cases h;rcases Aa hb with⟨hx,hb⟩|⟨_,hb⟩
     .subst hx;cases hb;exact QH L.K L.w VP PySem.F.slot_list_pop PySem.F.type_list_pop ak hr hline
     .cases hb
   |[u],h,hb=>
     obtain⟨a,rfl,sa⟩:=h.one;rcases Aa hb with⟨hx,hb⟩|⟨_,hb⟩
     .subst hx;cases hb;exact KL L.K L.w Mx PySem.F.slot_list_append PySem.F.type_list_append Po hr hline sa
     rcases Aa hb with⟨hx,hb⟩|⟨_,hb⟩
     .subst hx;cases hb;exact KL L.K L.w Mw PySem.F.slot_list_extend PySem.F.type_list_extend Pn hr hline sa
     .cases hb
   |[u,v],h,hb=>
     obtain⟨a,b,rfl,sa,sb⟩:=h.two;rcases Aa hb with⟨hx,hb1⟩|⟨_,hb⟩
     .rcases Aa hb1 with⟨hc,hb3⟩|⟨_,hb3⟩
      .cases hb3;subst hx;exact Z5 L.K L.w (hr.base _ _) hline (hr.x L.K) sa sb hc
      .cases hb3
     .cases hb
   |_::_::_::_,h,hb=>cases hb
theorem dS{t:Ty}(h:tyName y=some t):bootBuiltins y=some (.type (Nk t))/\∀cs,t≠.cls cs:=by
 unfold tyName at h;rcases Aa h with⟨hy,h⟩|⟨_,h⟩
 .subst hy;cases h;exact#[Tb,λ_ z=>by cases z]
 rcases Aa h with⟨hy,h⟩|⟨_,h⟩
 .subst hy;cases h;exact#[WW,λ_ z=>by cases z]
 rcases Aa h with⟨hy,h⟩|⟨_,h⟩
 .subst hy;cases h;exact#[T9,λ_ z=>by cases z]
 rcases Aa h with⟨hy,h⟩|⟨_,h⟩
 .subst hy;cases h;exact#[LK,λ_ z=>by cases z]
 .cases h
def Pq(W:Wd)(cf:CF)(mt:MT)(k:Nat)(e:Expr):Prop:=∀x p l pos,e= .Call (.Name x p) [l] [] pos->Pk W cf mt k l
variable{args:List Expr}
theorem WZ{t:T}(h:Q1 ct x args ts=some t):dE x ts=some t\/∃y q l p2 u,x="len"/\y=Str.ofString "set"/\args=[.Call (.Name y q) [l] [] p2]/\ts=[.A0 .Lo [u]]/\ct.own y=true/\t= .A0 .DB [u]:=by
 unfold Q1 at h;rcases Aa h with⟨hx,h2⟩|⟨_,h2⟩
 .cases hs:setOf ct args ts with
  |none=>rw[hs]at h2;exact .inl h2
  |some u=>
    rw[hs]at h2;cases h2;unfold setOf at hs;split at hs
    .rename_i y q l p2 u';rcases Aa hs with⟨hc,h3⟩|⟨_,h3⟩
     .cases h3;rw[bA]at hc;exact .inr #[y,q,l,p2,u,hx,of_decide_eq_true hc.1,rfl,rfl,hc.2,rfl]
     .cases h3
    .cases hs
 .exact .inl h2
theorem V5{q:Pos}{l:Expr}{u:T}(ho:ct.own "set"=true)(h:kE ct (.Call (.Name "set" q) [l] [] p2)=some (.A0 .Lo [u])):kE ct l=some u:=by
 change (if ct.own "set"=true then(if Str.ofString "set"="isinstance" then aJ ct (lB ct [l]) [l]else(Io ct [l]).bind (Q1 ct "set" [l]))else(Io ct [l]).bind (kN ct "set"))=_ at h;rw[iP ho,iN (by decide)]at h;obtain⟨ts,h1,h2⟩:=oB h;unfold Q1 at h2;rw[iN (by decide)]at h2;unfold Io at h1;obtain⟨t',h3,h4⟩:=oB h1;obtain⟨us,h5,h6⟩:=oM h4;unfold Io at h5;cases h5;cases h6;have h7:dE "set" [t']=some (.A0 .Lo [t']):=rfl;rw[h7]at h2;cases h2;exact h3
theorem WU{pos:Pos}(ih:∀e∈args,Pk W cf mt k e)(iq:∀e∈args,Pq W cf mt k e):Pk W cf mt k (.Call (.Name x p) args [] pos):=by
 intro ct X t L h;change (if ct.own x=true then(if x="isinstance" then aJ ct (lB ct args) args else(Io ct args).bind (Q1 ct x args))else(Io ct args).bind (kN ct x))=some t at h;rcases Aa h with⟨ho,h⟩|⟨_,h⟩
 .rcases Aa h with⟨hx,h6⟩|⟨_,h⟩
  .clear h;subst hx
   match args,ih,h6 with
   |[],ih,h5=>exact Ad h5
   |[_],ih,h5=>exact Ad h5
   |[a, b],ih,h5=>
     cases b with
     |Name y q=>
       obtain⟨u,h1,h2⟩:=oB h5;obtain⟨ty,h3,rfl⟩:=oM h2;have sa:=ih a mS L h1;obtain⟨g1,g2,_,_⟩:=L.Mr ho;rcases Aa h3 with⟨hoy,h3⟩|⟨_,h3⟩
       .obtain⟨g3,g4,g5,g6⟩:=L.Mr hoy;obtain⟨t1,t2⟩:=dS h3;exact UU L.K L.w t2 t1 g3 g4 g6 g5 g1 g2 sa
       .obtain⟨cs,_,rfl⟩:=oM h3;exact Ef L.K L.w rfl rfl rfl rfl
     |_=>exact Ad h5
   |_::b::_::_,ih,h5=>cases b<;>exact Ad h5
  .obtain⟨ts,h1,h2⟩:=oB h;rcases WZ h2 with h3|⟨y,q,l,p2,u,h3,h4,h5,h6,h7,h8⟩
   .exact bX L ho (DY ih L h1) h3
   .subst h3 h4 h5 h6 h8;obtain⟨g1,g2,_,_⟩:=L.Mr ho;obtain⟨g3,g4,_,_⟩:=L.Mr h7
    have h9:kE ct (.Call (.Name "set" q) [l] [] p2)=some (.A0 .Lo [u]):=by
     unfold Io at h1;obtain⟨t',h10,h11⟩:=oB h1;obtain⟨us,h12,h13⟩:=oM h11;cases h13;exact h10
    exact Md L.K L.w L.calm g1 g2 g3 g4 (iq _ mS "set" q l p2 rfl L (V5 h7 h9))
 .obtain ⟨ts,h1,h2⟩:=oB h;have hs:=DY ih L h1;unfold kN at h2;cases hsl:ct.A4 x with
  |some i=>
    rw[hsl]at h2;rcases Aa h2 with⟨he,h2⟩|⟨he,h2⟩
    .rcases Aa h2 with⟨hcv,h2⟩|⟨_,h2⟩
     .cases h2;cases hs with
      |nil=>
        exact OS L.K L.w (L.pv hsl) (L.room.mono (Nat.le_succ _)) (L.cl hcv)
      |cons a r=>cases he
     .cases h2
    .cases h2;cases hs with
     |nil=>exact absurd rfl he
     |cons a r=>exact QS L.K L.w (L.pv hsl) (L.room.mono (Nat.le_succ _)) (λn ht=>by
      obtain⟨y,hy⟩:=L.tf n ht
      exact#[(L.As y n hy).2.1,(L.As y n hy).2.2]) (.cons a r)
  |none=>
    rw[hsl]at h2;rcases Aa h2 with⟨hgl,h2⟩|⟨_,h2⟩
    .obtain⟨g1,g2,_⟩:=L.glob hgl;unfold Yk at h2;cases hf:ct.As.lookup x with
     |some f=>
       rw[hf]at h2;cases h2;obtain⟨q1,q2,q3⟩:=L.As x f hf;exact QR L.K L.w q3 (L.room.mono (Nat.le_succ _)) g1 q1 q2 g2 hs
     |none=>
       rw[hf]at h2;obtain⟨c,hc,rfl⟩:=oM h2;obtain⟨q1,q2⟩:=L.cls x c hc;exact QJ L.K L.w L.aj L.room g1 q1 q2 g2 hs
    .cases h2
theorem Km{pos:Pos}(ih:∀e∈args,Pk W cf mt k e){X:Cx}{t:T}(L:Df ct X W cf mt k)(h:(if Qe m args.length apos pos then(ct.A4 x).bind λi=>(Io ct args).bind (kM m (.A3 i))else none)=some t):Au X W cf mt (.Call (.Attribute (.Name x p) m apos) args [] pos) t:=by
 rcases Aa h with⟨Ao,h⟩|⟨_,h⟩
 .obtain⟨i,h1,h2⟩:=oB h;obtain⟨ts,h3,h4⟩:=oB h2;exact Yi L (.nm (L.pv h1)) Ao (DY ih L h3) h4
 .cases h
theorem bJ{z:Str}{n:Nat}{p:Pos}{m:Str}{a:Expr}{pos:Pos}(ha:Pk W cf mt k a){X:Cx}{t:T}(L:Df ct X W cf mt k)(h:(if m="join"/\Qe m 1 apos pos=true then(kE ct a).map λt=>T.A0 (.join z) [t]else none)=some t):Au X W cf mt (.Call (.Attribute (.Constant (.str z) n p) m apos) [a] [] pos) t:=by
 rcases Aa h with⟨⟨hm,Ao⟩,h2⟩|⟨_,h2⟩
 .obtain⟨u,h1,rfl⟩:=oM h2;clear h h2;subst hm;unfold Qe at Ao;rw[bA,bA]at Ao;exact QK L.K L.w Ao.1.1 (ha L h1)
 .cases h2
variable{sc:Scope}
theorem Pz{X:Cx}(L:Df ct X W cf mt k){Cr:Option Nat}(h:HJ ct sc=some Cr):(Cr=none/\Bf sc=[Fq])\/∃j y,Cr=some j/\Bf sc=[Fq,y]/\X.N[j]? =some y:=by
 unfold HJ at h;unfold Bf;split at h
 .rename_i e;cases h;rw[e];exact .inl #[rfl,rfl]
 .rename_i x e;obtain⟨j,h1,rfl⟩:=oM h;rw[e];exact .inr #[j,x,rfl,rfl,(L.A4 h1).1]
 .cases h
theorem S0{X:Cx}(L:Df ct X W cf mt k){Cr:Option Nat}(h:O4 ct.sc sc=true)(hc:HJ ct sc=some Cr):FV X sc Cr:=by
 unfold O4 at h;simp only[bA,all_eq_true,decide_eq_true_eq,Bool.not_eq_true']at h;obtain⟨⟨⟨⟨⟨⟨h1,h2⟩,h3⟩,h4⟩,h5⟩,h6⟩,h7⟩:=h;refine#[by simpa using h1,h2,h3,λy hy=>by simpa using h4 y hy,λy hy e=>?_,h6,λx hx=>by simpa using h7 x hx,Pz L hc];have:=h5 y hy;simp[e]at this;rcases this with z|z
 .exact .inl (L.sc.jN _ z)
 .exact(L.sc.dA _ z).symm
theorem iw{X:Cx}{x:Str}{pos lp:Pos}{a:Arguments}(L:Df ct X W cf mt k)(h:(if Qe m 1 apos pos&&noArgs a&&O4 ct.sc sc&&ct.df&&decide (x=Str.ofString "self")then(ct.A4 x).bind λi=>(ct.RY.lookup lp).bind λq=>(HJ ct sc).bind λc=>
 (kE (Jg sc ct.As ct.cls ct.gl) b).bind λt=>if GY (Bf sc).length t q.2&&decide (q.1<1000)then some (T.Dp m i q.1 c)else none else none)=some t):Au X W cf mt (.Call (.Attribute (.Name x p) m apos) [.Lambda a b sc lp] [] pos) t:=by
 rcases Aa h with⟨hc,h2⟩|⟨_,h2⟩
 .clear h;simp only[bA,decide_eq_true_eq]at hc;obtain⟨⟨⟨⟨Ao,hna⟩,hlo⟩,hdf⟩,hx⟩:=hc;obtain⟨i,h3,h4⟩:=oB h2;obtain⟨q,h5,h6⟩:=oB h4;obtain⟨Cr,h7,h8⟩:=oB h6;obtain⟨u,h9,h10⟩:=oB h8;rcases Aa h10 with⟨hl,h11⟩|⟨_,h11⟩
  .cases h11;simp only[bA,decide_eq_true_eq]at hl;unfold Qe at Ao;rw[bA,bA]at Ao;obtain⟨⟨hline,_⟩,hni⟩:=Ao;subst hx;exact OQ L.K L.w L.aj (L.room.mono (Nat.le_succ _)) (L.pv h3) (L.A4 h3).1 (L.fn hdf) (S0 L hlo h7) hna h9 (MI hl.1) hl.2 (L.lam lp q h5) (of_decide_eq_true hni) hline
  .cases h11
 .cases h2
theorem bN{kws:List Keyword}{pos:Pos}(ih:∀e∈args,Pk W cf mt k e)(iq:∀e∈args,Pq W cf mt k e):Pk W cf mt k (.Call f args kws pos):=by
 cases kws with
 | cons q r=>intro ct X t L h;cases f with
   | Attribute o m apos=>cases o with
     |Attribute o2 f2 q2=>cases o2<;>(exact Ad h)
     |Constant c n p=>cases c<;>(rcases args with _|⟨a,_|⟨b,r2⟩⟩<;>exact Ad h)
     |Name x p=>
       rcases args with _|⟨a,_|⟨b,r2⟩⟩
       .exact Ad h
       .cases a<;>exact Ad h
       .cases a<;>exact Ad h
     |_=>exact Ad h
   |_=>exact Ad h
 |nil =>
   cases f with
   |Name x p=>exact WU ih iq
   |Attribute o m apos=>
     intro ct X t L h;cases o with
     |Name x p=>
       rcases args with _|⟨a,_|⟨b,r⟩⟩
       .exact Km ih L h
       .cases a with
        |Lambda as b sc lp=>exact iw L h
        |_=>exact Km ih L h
       .cases a<;>exact Km ih L h
     |Attribute o2 g q2=>
       cases o2 with
       |Name x p=>
         have h:(if Qe m args.length apos pos then(ct.A4 x).bind λi=>(Io ct args).bind (kM m (.Aw i g))else none)=some t:=h;rcases Aa h with⟨Ao,h⟩|⟨_,h⟩
         .obtain⟨i,h1,h2⟩:=oB h;obtain⟨ts,h3,h4⟩:=oB h2;exact Yi L (.fl (Ru (L.pv h1) rfl)) Ao (DY ih L h3) h4
         .cases h
       |_=>exact Ad h
     |Constant c n p=>
       cases c with
       |str z=>
         rcases args with _|⟨a,_|⟨b,r⟩⟩
         .exact Ad h
         .exact bJ (ih a mS) L h
         .exact Ad h
       |_=>exact Ad h
     |Call f2 a2 k2 p2=>
       cases h;exact Ef L.K L.w rfl rfl rfl rfl
     |_=>exact Ad h
   |_=>intro ct X t L h;exact Ad h
def Pg(W:Wd)(cf:CF)(mt:MT)(k:Nat):Comprehension->Prop
 |⟨_,it,ifs,_⟩=>Pk W cf mt k it/\∀e∈ifs,Pk W cf mt k e
theorem bK{elt:Expr}{gs:List Comprehension}{pos:Pos}(he:Pk W cf mt k elt)(hg:∀g∈gs,Pg W cf mt k g):Pk W cf mt k (.ListComp elt gs sc pos):=by
 intro ct X t L h;rcases gs with _|⟨⟨tg,it,ifs,n⟩,_|⟨g2,gs⟩⟩
 .exact Ad h
 .obtain⟨p1,p2⟩:=hg _ mS;obtain⟨x,h1,h⟩:=oB h;obtain⟨g,h2,h⟩:=oB h;obtain⟨cs,h3,h⟩:=oB h;obtain⟨e,h4,h⟩:=oB h;rcases Aa h with⟨hc,h⟩|⟨_,h⟩
  .cases h;rw[bA,bA,bA]at hc;obtain⟨⟨⟨c0,c1⟩,c2⟩,c3⟩:=hc;have c3:=of_decide_eq_true c3;have c0:=of_decide_eq_true c0;subst c0;refine QQ L.K L.w L.calm (L.nP c2) (p1 L h1) (of_decide_eq_true c1) λC s H fp=>?_
   have L2:=L.block c2 c3 C s H fp;exact#[(Rl L2 h2).1,he L2 h4,DY p2 L2 h3]
  .cases h
 .exact Ad h
end
section
variable{W:Wd}{cf:CF}{mt:MT}{k:Nat}
theorem Bg{e:Expr}(h:∀lo hi st p,e≠.Slice lo hi st p):Ps W cf mt k e:=λlo hi st p z=>absurd z (h lo hi st p)
theorem BC{e:Expr}(h:∀x p l pos,e≠.Call (.Name x p) [l] [] pos):Pq W cf mt k e:=λx p l pos z=>absurd z (h x p l pos)
theorem T7(h:∀ct,kE ct e=none):Pk W cf mt k e:=by
 intro ct X t L z;rw[h]at z;cases z
mutual
theorem Dz:∀e:Expr,Pk W cf mt k e/\Ps W cf mt k e/\Pq W cf mt k e
 |.Constant c n pos=>#[WT,Bg nofun,BC nofun]
 |.Name x pos=>#[bG,Bg nofun,BC nofun]
 |.Attribute o f pos=>#[bP,Bg nofun,BC nofun]
 |.Tuple es n pos=>#[ic (Fz es),Bg nofun,BC nofun]
 |.List es pos=>#[iu (Fz es),Bg nofun,BC nofun]
 |.BinOp a op b pos=>#[iA (Dz a).1 (Dz b).1,Bg nofun,BC nofun]
 |.UnaryOp op a pos=>#[mz (Dz a).1,Bg nofun,BC nofun]
 |.BoolOp op es pos=>#[bO (Fz es),Bg nofun,BC nofun]
 |.Compare a ops cs pos=>#[iz (Dz a).1 (Fz cs),Bg nofun,BC nofun]
 |.Subscript v i pos=>#[ij (Dz v).1 (Dz i).1 (Dz i).2.1,Bg nofun,BC nofun]
 | .Slice lo hi st p=>⟨T7 λ_=>rfl,λlo' hi' st' p' z=>by
  cases z
  exact#[fM lo,fM hi],BC nofun⟩
 |.Dict _ _ _| .IfExp _ _ _ _| .NamedExpr _ _ _| .Lambda _ _ _ _| .Set _ _ _| .SetComp _ _ _ _| .DictComp _ _ _ _ _| .GeneratorExp _ _ _ _| .Await _ _| .Yield _ _| .YieldFrom _ _| .FormattedValue _ _ _ _| .JoinedStr _ _| .Starred _ _=>#[T7 λ_=>rfl,Bg nofun,BC nofun]
 |.Call f args kws pos=>#[bN (Fz args) (R9 args),Bg nofun,λx p l pos z=>by cases z;exact Fz [l] l mS]
 |.ListComp elt gs sc pos=>#[bK (Dz elt).1 (Y8 gs),Bg nofun,BC nofun]
theorem Fz:∀es:List Expr,∀e∈es,Pk W cf mt k e
 |[],e,h=>nomatch h
 | x::xs,e,h=>by
   rcases mK h with z|z
   .rw[z];exact(Dz x).1
   .exact Fz xs e z
theorem R9:∀es:List Expr,∀e∈es,Pq W cf mt k e
 |[],e,h=>nomatch h
 | x::xs,e,h=>by
   rcases mK h with z|z
   .rw[z];exact(Dz x).2.2
   .exact R9 xs e z
theorem fM:∀o:Option Expr,∀e,o=some e->Pk W cf mt k e
 |none,e,h=>nomatch h
 |some x,e,h=>by cases h;exact(Dz x).1
theorem Y8:∀gs:List Comprehension,∀g∈gs,Pg W cf mt k g
 |[],g,h=>nomatch h
 | x::xs,g,h=>by
   rcases mK h with z|z
   .rw[z];exact kY x
   .exact Y8 xs g z
theorem kY:∀g:Comprehension,Pg W cf mt k g
 |⟨tg,it,ifs,a⟩=>#[(Dz it).1,Fz ifs]
end
end
def Uu(K:PySem.W.Frag)(C D n1 n2 n3:Addr):Prop:=∃bm bd,(∀h:Heap,K.In h->Xc.Dv h C bm)/\(∀h:Heap,K.In h->Xc.Dv h D bd)/\bm.contains (.ref D)=true/\Xc.Hk K C n1 n2 n3
structure Xf(ct:Ct)(X:Cx)(W:Wd):Prop where
 st:X.stack=X.env::X.outer
 fr:X.env.frame=some X.env.locals
 rm:Bk 4 X.A
 xk:∀c,ct.cls.lookup VI=some c->∃f sf st fd,Xc.Xk X.K (W.Br c) f sf st fd
 xh:∀c cd n1 n2 n3,ct.cls.lookup VI=some c->ct.cls.lookup ("DeedsError":Str)=some cd->ct.cls.lookup ("NoProgram":Str)=some n1->ct.cls.lookup ("NoSuch":Str)=some n2->ct.cls.lookup ("Twice":Str)=some n3->Uu X.K (W.Br c) (W.Br cd) (W.Br n1) (W.Br n2) (W.Br n3)
variable{W:Wd}
theorem A6.unset{H:Hp}:∀{U:Env} {Y:L2.St} {os:List Addr} {i:Nat},A6 W H (U.set i none) Y os->A6 W H (U.set i none) (Y.set i none) os
 |[],Y,os,i,⟨h1,h2⟩=>by subst h1;exact#[rfl,h2]
 |x::U,Y,os,0,⟨y,r,e,h⟩=>by subst e;exact#[none,r,rfl,h]
 |none::U,Y,os,i+1,⟨y,r,e,h⟩=>by subst e;exact#[y,r.set i none,rfl,A6.unset h]
 |some c::U,Y,os,i+1,⟨v,r,o1,o2,e,h1,h2,h3⟩=>by subst e;exact#[v,r.set i none,o1,o2,rfl,h1,A6.unset h2,h3]
section
variable{X:Cx}{W:Wd}{cf:CF}{mt:MT}{k:Nat}
theorem N4(i f:Nat)(ts:List T)(c g e:Nat):exec cf mt Ai (.UA i f ts c g e)=λU=>if mt.rs&&ts.all T.calm then(Ae cf mt ts U).bind (LJ cf i f c g e)else .A2:=rfl
def hV(W:Wd)(D:Ends)(Y:L2.St)(c g e:Nat)(u:HO):XK:=λcls _ H2=>cls= .ref (W.Br c)/\∀t,H2 t=none->D.nx ((Y.set g (some (.bl true))).set e none) (upd H2 t u)
theorem WR{i f c g e:Nat}{ts:List T}{D:Ends}{Y:L2.St}{H:Hp}{xs:List V}(hi:i<Y.length)(hg:g<Y.length)(h:tS W (AI X W) [i,g,e] (exec cf mt Ai (.UA i f ts c g e)) D Y H):
 ts.all T.calm=true/\UL W ts Y H λvs H1=>JC W (cf f) vs H1 (λv H2=>EH i v Y H2 D.nx) (hV W D Y c g e (.tup xs)):=by
 rw[N4]at h;obtain⟨U,os,hR,hn,hA⟩:=h;dsimp only at hA;rcases Bool.eq_false_or_eq_true (mt.rs&&ts.all T.calm)with hc|hc
 rotate_left
 .rw[hc]at hA;exact hA.elim
 rw[hc,iP rfl]at hA;have hcm:=(Bool.and_eq_true_iff.mp hc).2;refine#[hcm,?_];rcases Es (cf:=cf) (mt:=mt) hcm hR with⟨hs,ed,q⟩|ed
 rotate_left
 .rw[ed]at hA;exact hA.elim
 rw[ed,Res.A5]at hA;refine q _ λvs h1=>?_
 unfold LJ at hA;cases ec:Ag U hs with
 |none=>rw[ec]at hA;exact hA.elim
 |some cs=>
   rw[ec]at hA;dsimp only at hA;split at hA
   case isFalse=>exact hA.elim
   rename_i hgd;cases ecf:cf f cs with
   |A2=>rw[ecf]at hA;exact hA.elim
   |ok r outs=>
     rw[ecf]at hA;cases eb:back (lend U hs cs) hs cs outs with
     |none=>dsimp only at hA;rw[eb]at hA;exact hA.elim
     |some U2=>
       dsimp only at hA;rw[eb]at hA;refine Ob (EX:=AI X W) h1 hR hn ec hgd ecf eb λv H' o os' r1 r2 r3 r4=>?_
       obtain⟨os2,od,t1,t2⟩:=A6.put r1 r2 (by rw[<-r2.length];exact hi);exact hA (Y.set i (some v)) H' os2 t1 (CD r3 t2) (r4.sub λa ha=>t2.subset (mR ha)) (AR.set mS)
   |err x p=>
     rw[ecf]at hA;dsimp only at hA;split at hA
     case isFalse=>exact hA.elim
     rename_i hx;refine Ls h1 hR hn ec hgd ecf λH' os' r1 r2 r3=>#[by rw[hx],λt ht=>?_]
     have sm:BV H' (upd H' t (.tup xs)):=λb o e=>by rw[Ab (AL e ht)];exact e
     obtain⟨os2,od,t1,t2⟩:=A6.put (c:=.p (.bl true)) (v:=.bl true) (o:=[]) #[BB.mpr rfl,rfl] (r1.same sm) (i:=g) (by rw[<-r1.length];exact hg);obtain⟨os3,t3,od3,t4⟩:=t1.drop e;have n2:=CD (o:=[]) (os:=os') r2 t2;refine hA _ _ os3 t3.unset (nA (t4.nodup_iff.mpr n2)).2.1 ((r3.trans (AY.of sm λa ha=>.inl ha)).sub λa ha=>?_) ((AR.set (by simp)).trans (AR.set (by simp)));exact t2.subset (mR (t4.subset (mR ha)))
end
section
variable{X:Cx}{W:Wd}{cf:CF}{mt:MT}{k:Nat}{ct:Ct}
theorem KA{i:Nat}(h:ct.BE x=some i):ng x/\(x==("__classdict__":Str))=false:=by
 unfold Ct.BE at h;split at h
 .rename_i hc;rw[bA]at hc;exact#[(CC hc.1).1,(CC hc.1).2.1]
 .cases h
abbrev Qv(X:Cx)(A1:Oa)(D:Ends)(hs:List ExceptHandler):Value->Shared->Prop:=λe s1=>(X|||(noteFrame e X.env)) (λ_ s2=>(X|||(setFlight e none)) (λ_ s3=>(X|||(handleBy e X.env hs)) (SP X A1 D) X.xe s3) X.xe s2) X.xe s1
theorem Df.Fh(L:Df ct X W cf mt k){xe:Va}(po:PassesOwn (model X.prog X.w) X.A X.env xe):Df ct (X.Fh xe) W cf mt k:=
 #[L.K,L.w,L.N,L.nd,L.sc,L.fn,L.calm,L.room,po,L.gl,L.own,λx f e=>#[(L.As x f e).1,(L.As x f e).2.1,#[(L.As x f e).2.2.ex]],L.cls,#[λc m f e=>#[(L.aj.Mz c m f e).1,(L.aj.Mz c m f e).2.1,#[(L.aj.Mz c m f e).2.2.ex]]],L.Aw,L.tf,λlp q e=>#[(L.lam lp q e).code,(L.lam lp q e).nd,(L.lam lp q e).tag,(L.lam lp q e).lt,(L.lam lp q e).run],L.cl]
theorem UK(L:Df ct X W cf mt k)(Lx:Xf ct X W){i n c g ie:Nat}{ts:List T}{en:Str}{a:Expr}{st1 st2:Stmt}{py fp cp ap dp hp pos:Pos}{C D:Addr}(hdf:ct.glob f=true)(hn:ct.As.lookup f=some n)(hts:Io ct [a]=some ts)(hi:ct.BE y=some i)
 (hg:ct.BE g'=some g)(hd:ct.glob d=true)(hdm:X.mg d=some (.ref D))(he:ct.BE en=some ie)(hel:X.env.scope.names.lookup en=some .local)(hC:W.Br c=C)(hnd:Uu X.K C D n1 n2 n3)
 (body:∀bm ea d oe od,(∀h:Heap,X.K.In h->Xc.Dv h C bm)->oe.cls= .ref C->oe.dict=some d->notCls oe=true->(∀h:Heap,h.get? d=some od->h.Ns1 d Xc.Y4)->Nf (Xc.hX X ea d oe od) [st1,st2] (λD Y H=>Y[ie]? =some (some (.ref ea))/\∀t,H t=none->D.nx (Y.set g (some (.bl true))) (upd H t (.tup [.ref n1,.ref n2,.ref n3]))))(hne:g≠ie):
 PS X (.Try [.Assign [.Name y py] (.Call (.Name f fp) [a] [] cp) ap] [.ExceptHandler (some (.Name d dp)) (some en) [st1,st2] hp] [] [] pos) (tS W (AI X W) [i,g,ie] (exec cf mt Ai (.UA i n ts c g ie))):=by
 intro A1 s Y H D' I z;obtain⟨i1,i2,i3⟩:=L.BE hi;obtain⟨j1,j2,j3⟩:=L.BE hg;obtain⟨e1,e2,e3⟩:=L.BE he;obtain⟨f1,f2,_⟩:=L.glob hdf;obtain⟨d1,d2,_⟩:=L.glob hd;obtain⟨q1,q2,q3⟩:=L.As f n hn;obtain⟨fd,ps,F1,F2⟩:=q3.ex;obtain⟨bm,bd,b1,b2,b3,b4⟩:=hnd;have hle:ie<Y.length:=by rw[I.len];exact(List.getElem?_eq_some_iff.mp e1).1
 obtain⟨hcm,z⟩:=WR (xs:=[.ref n1,.ref n2,.ref n3]) (by rw[I.len];exact(List.getElem?_eq_some_iff.mp i1).1) (by rw[I.len];exact(List.getElem?_eq_some_iff.mp j1).1) z;rw[arm_exec_Try];refine wB (wpAny_standAt (wpAny_tryStmt_except (wpAny_execs_cons (wpAny_mono (Q:=SP X A1 D') (E:=Qv X A1 D' [.ExceptHandler (some (.Name d dp)) (some en) [st1,st2] hp]) ?_ (λf s1 q=>?_) λe s1 q=>q))))
 rotate_left
 .cases f with
  |next=>exact wpAny_execs_nil (wpAny_execs_nil q)
  |_=>exact q
 have L':=L.Fh (xe:=Qv X A1 D' [.ExceptHandler (some (.Name d dp)) (some en) [st1,st2] hp]) PassesOwn.looking;have hs:=DY (Fz [a]) L' hts;have pl:=hs.plain;have pa:=RB hs
 have z':GG W (AI (X.Fh (Qv X A1 D' [.ExceptHandler (some (.Name d dp)) (some en) [st1,st2] hp])) W) cf mt ts Y H λvs H1=>JC W (cf n) vs H1 (λv H2=>EH i v Y H2 D'.nx) (hV W D' Y c g ie (.tup [.ref n1,.ref n2,.ref n3])):=by
  cases hs with
  |cons h r=>unfold GG;rw[iP hcm];exact z
 have I':=I.Fh (Qv X A1 D' [.ExceptHandler (some (.Name d dp)) (some en) [st1,st2] hp]);refine wpAny_Assign_Name (B2 (Q:=EP X A1 Y λv H2=>EH i v Y H2 D'.nx) ?_ λv s1 ⟨y1,H1,I1,r1,q1⟩=>DN I1 L.nd i1 i2 r1 (λs2 I2=>#[_,H1,I2,q1]) i3) (Dh rfl _ _ _);refine wpAny_Call_Name_kw (DC I f1 q1 ?_ f2);refine callWith_K (h₀:=X.base) I.ok.mod.PB q2 (B2 (pa cp A1 s Y H _ I' z') λus s1 ⟨vs,H1,I1,r,q⟩=>#[I1.Cn,?_]) (Ac (pl a mS) [] _) rfl;have I1:=I1.Ju;refine B2 (NA (X:=X.Fh (Qv X A1 D' [.ExceptHandler (some (.Name d dp)) (some en) [st1,st2] hp])) F1 (L.room.mono (Nat.le_succ _)) F2 (I1.Fh _) r q λe s' cx=>?_) λv s2 ⟨y,H2,I2,r2,q2⟩=>#[y,H2,I2.Ju,r2,q2]
 refine Xc.land (D:=D) (R:=λH'=>∀t,H' t=none->D'.nx ((Y.set g (some (.bl true))).set ie none) (upd H' t (.tup [.ref n1,.ref n2,.ref n3]))) b1 b2 b3 d1 hdm d2 L.nd e1 hel I1 Lx.st Lx.fr cx (λcls H' ⟨e1,r⟩=>#[by rw[e1,hC],r]) λea d oe od H' s'' h1 h2 h3 h4 J R=>?_
 have hb:=body bm ea d oe od b1 h1 h2 h3 h4 A1 s'' _ H' {nx:=λY3 H3=>∀s4,Inv X A1 (Y3.set ie none) H3 s4->SP X A1 D' .next s4,rt:=λ_ _=>False} J #[List.getElem?_set_self hle,λt ht s4 J4=>#[_,_,J4,?_]]
 .refine wpAny_mono hb (λf s3 w=>?_) λ_ _ w=>w
  cases f with
  |next=>obtain⟨Y3,H3,J3,w⟩:=w;exact#[rfl,Y3,H3,J3,w]
  |brk=>obtain⟨_,_,_,w⟩:=w;exact w.elim
  |cont=>obtain⟨_,_,_,w⟩:=w;exact w.elim
  |ret u=>obtain⟨_,_,_,_,_,w⟩:=w;exact w.elim
 .have e:((Y.set ie (some (V.ref ea))).set g (some (.bl true))).set ie none=(Y.set g (some (.bl true))).set ie none:=by
   rw[show(Y.set ie (some (V.ref ea))).set g (some (.bl true))=(Y.set g (some (.bl true))).set ie (some (V.ref ea))from List.set_comm _ _ hne.symm,set_set]
  rw[e];exact R t ht
end
def Qk(W:Wd)(cf:CF)(mt:MT)(k:Nat)(st:Stmt):Prop:=∀{ct:Ct} {X:Cx} {s:S},Df ct X W cf mt k->Xf ct X W->kS ct st=some s->PS X st (tS W (AI X W) (Fb s) (exec cf mt Ai s))
def Qs(W:Wd)(cf:CF)(mt:MT)(k:Nat)(Qb:List Stmt):Prop:=∀{ct:Ct} {X:Cx} {ss:List S},Df ct X W cf mt k->Xf ct X W->S3 ct Qb=some ss->Nf X Qb (tS W (AI X W) (By ss) (execs cf mt Ai ss))
section
variable{W:Wd}{cf:CF}{mt:MT}{k:Nat}
theorem Zv{st:Stmt}(h:∀ct,kS ct st=none):Qk W cf mt k st:=by
 intro ct X s L Lx z;rw[h]at z;cases z
theorem iO(i:Nat)(t:T):Fb (.asg (.nm i) t)=[i]:=rfl
theorem cw(is:List Nat)(t:T):Fb (.asg (.tup is) t)=is:=rfl
theorem X5(i:Nat)(f:Str)(v:T):Fb (.Hr i f v)=[]:=rfl
theorem X7(t:T):Fb (.expr t)=[]:=rfl
theorem Tt(t:Option T):Fb (.ret t)=[]:=rfl
theorem cy(c:T)(a b:List S):Fb (.ifs c a b)=By a++By b:=rfl
theorem cu(c:T)(b:List S):Fb (.M3 c b)=By b:=rfl
theorem cz(g:Tg)(q:IK)(its:List T)(b:List S):Fb (.C3 g q its b)=g.slots++By b:=rfl
theorem Oy:Fb .pass=[]:=rfl
theorem Wu(t:T):exec cf mt Ai (.expr t)=λU=>(ev cf mt t U).bind λ_ U=>.ok .nx U:=rfl
theorem Wr:exec cf mt Ai (.ret none)=λU=>.ok (.ret (.p .Az)) U:=rfl
theorem aY(t:T):exec cf mt Ai (.ret (some t))=λU=>(ev cf mt t U).bind λc U=>.ok (.ret c) U:=rfl
theorem aZ(c:T)(a b:List S):exec cf mt Ai (.ifs c a b)=λU=>(tv cf mt c U).bind λx U=>if x then execs cf mt Ai a U else execs cf mt Ai b U:=rfl
theorem aX(c:T)(b:List S):exec cf mt Ai (.M3 c b)=λU=>Ai (tv cf mt c) (execs cf mt Ai b) U:=rfl
theorem HW(g:Tg)(q:IK)(its:List T)(b:List S):exec cf mt Ai (.C3 g q its b)=λU=>if q.ok then(Ae cf mt its U).bind (PN q g (By b) (execs cf mt Ai b))else .A2:=rfl
theorem Od:exec cf mt Ai .pass=λU=>.ok .nx U:=rfl
theorem SJ(x:Nat)(U:Env):exec cf mt Ai (.raise x) U=if mt.rs then .err x .Az U else .A2:=rfl
theorem Tu(x:Nat):Fb (.raise x)=[]:=rfl
theorem cA(i f:Nat)(ts:List T)(c g e:Nat):Fb (.UA i f ts c g e)=[i,g,e]:=rfl
theorem Wm:execs cf mt Ai []=λU=>.ok .nx U:=rfl
def nj(f:Fl)(r:Env->Res Fl)(U:Env):Res Fl:=match f with
    |.nx=>r U
    |f=>.ok f U
theorem SE(s:S)(ss:List S):execs cf mt Ai (s::ss)=λU=>(exec cf mt Ai s U).bind λf U=>match f with
 |.nx=>execs cf mt Ai ss U
 |f=>.ok f U:=rfl
theorem fB{tgs:List Expr}{pos:Pos}:Qk W cf mt k (.Assign tgs e pos):=by
 intro ct X s L Lx h;rcases tgs with _|⟨tg,_|⟨t2,ts⟩⟩
 .exact Ad h
 .obtain⟨t,h1,h2⟩:=oB h;have se:=(Dz e).1 L h1;cases tg with
  |Name x p=>
    obtain⟨i,h3,rfl⟩:=oM h2;obtain⟨t1,t2,t3⟩:=L.BE h3;rw[iO];intro A1 s Y H D I z;refine se.a i x p pos L.nd t1 t2 t3 A1 s Y H D I (eP (by rw[I.len];exact(List.getElem?_eq_some_iff.mp t1).1) ?_);obtain⟨U,os,hR,hn,hA⟩:=z;rw[Ww]at hA;exact#[U,os,hR,hn,hA]
  |Tuple es n p=>
    rcases Aa h2 with⟨_,h2⟩|⟨hnt,h2⟩
    .cases h2
    .obtain⟨g,h3,rfl⟩:=oM h2;obtain⟨g1,g2⟩:=Rl L h3
     have h4:∃is,g= .tup is:=by
      unfold Yh at h3;obtain⟨is,_,rfl⟩:=oM h3;exact#[is,rfl]
     obtain⟨is,rfl⟩:=h4;rw[cw];exact P4 g1 g2 se (by simpa using hnt)
  |Attribute o f p=>
    cases o with
    |Name x q=>
      obtain⟨i,h3,rfl⟩:=oM h2;rw[X5];exact Vr L.K L.Aw (L.pv h3) se
    |_=>exact Ad h2
  |_=>exact Ad h2
 .exact Ad h
theorem Zw{pos:Pos}:Qk W cf mt k (.Expr e pos):=by
 intro ct X s L Lx h
 have gen:(if Bo e then none else(kE ct e).map S.expr)=some s->PS X (.Expr e pos) (tS W (AI X W) (Fb s) (exec cf mt Ai s)):=λh=>by
  rcases Aa h with⟨_,h⟩|⟨hc,h⟩
  .cases h
  .obtain⟨t,h1,rfl⟩:=oM h;rw[X7,Wu];exact DR (Vu ((Dz e).1 L h1).v (Dh (by simpa using hc) _ _ _)) λD Y H z=>Zl z
 cases e with
 |Constant c n p=>
   cases c with
   |str x=>
     cases h;rw[Oy,Od];exact DR ZE λD Y H z=>QX z
   |_=>exact gen h
 |_=>exact gen h
theorem fz{o:Option Expr}{pos:Pos}:Qk W cf mt k (.Return o pos):=by
 intro ct X s L Lx h;cases o with
 |none=>
   cases h;rw[Tt,Wr];exact DR Vs λD Y H z=>Ze z
 |some e=>
   obtain⟨t,h1,rfl⟩:=oM h;rw[Tt,aY];exact DR (ZA ((Dz e).1 L h1).v) λD Y H z=>eQ z
theorem kU{a b:List Stmt}{pos:Pos}(ha:Qs W cf mt k a)(hb:Qs W cf mt k b):Qk W cf mt k (.If c a b pos):=by
 intro ct X s L Lx h;obtain⟨t,h1,h⟩:=oB h;obtain⟨x,h2,h⟩:=oB h;obtain⟨y,h3,rfl⟩:=oM h;rw[cy,aZ];exact DR (fF ((Dz c).1 L h1).b (ha L Lx h2) (hb L Lx h3)) λD Y H z=>kD z
theorem Vn{b e:List Stmt}{pos:Pos}(hb:Qs W cf mt k b):Qk W cf mt k (.While c b e pos):=by
 intro ct X s L Lx h;cases e with
 |cons _ _=>exact Ad h
 |nil=>
   obtain⟨t,h1,h⟩:=oB h;obtain⟨x,h2,rfl⟩:=oM h;rw[cu,aX];exact DR (Rc L.po ((Dz c).1 L h1).b (hb L Lx h2)) λD Y H z=>V7 z
theorem fA{tg it:Expr}{b e:List Stmt}{pos:Pos}(hb:Qs W cf mt k b):Qk W cf mt k (.For tg it b e pos):=by
 intro ct X s L Lx h;cases e with
 |cons _ _=>exact Ad h
 |nil=>
   obtain⟨g,h1,h⟩:=oB h;obtain⟨t,h2,h⟩:=oB h;obtain⟨x,h3,rfl⟩:=oM h;rw[cz,HW];have st:=(Dz it).1 L h2;obtain⟨g1,g2⟩:=Rl L h1;cases hk:(B3 t).1.ok with
   |false=>exact Rf λU=>rfl
   |true=>
     intro A1 s Y H D I z;exact ZC L.po L.calm (st.i hk tg) g1 (hb L Lx h3) (Gd st.st _) A1 s Y H D I (fe (λi hi=>by rw[I.len];exact g2 i hi) z)
theorem Zu{pos:Pos}:Qk W cf mt k (.Pass pos):=by
 intro ct X s L Lx h;cases h;rw[Oy,Od];exact DR Vt λD Y H z=>QX z
theorem Vo{e c:Option Expr}{pos:Pos}:Qk W cf mt k (.Raise e c pos):=by
 intro ct X s L Lx h;replace h:MP ct e c=some s:=h;unfold MP at h;split at h
 .rename_i x px j np cp;rcases Aa h with⟨hg,h⟩|⟨_,h⟩
  .rw[bA]at hg;have hx:=of_decide_eq_true hg.2;obtain⟨c,hc,rfl⟩:=oM h;obtain⟨g1,g2,_⟩:=L.glob hg.1;obtain⟨q1,_⟩:=L.cls x c hc;obtain⟨_,_,_,_,xk⟩:=Lx.xk c (hx▸hc);rw[Tu]
   rintro A1 s Y H D I ⟨U,os,hR,hn,hA⟩
   rw[SJ]at hA;rcases Bool.eq_false_or_eq_true mt.rs with hr|hr
   .rw[hr,iP rfl]at hA;have hE:=hA Y H os hR hn (AY.refl _ _) (AR.refl _ _);exact Xc.OZ xk Lx.rm g1 q1 g2 I λs1 s' e t d I1 i1 i2 i3 i4 i5 i6 i7 i8=>hE.2 A1 s1 s' e t d I1 i1 i2 i3 i4 i5 i6 i7 i8
   .rw[hr]at hA;exact hA.elim
  .cases h
 .cases h
theorem Gm{s:Stmt}{q:Str×Expr}(h:Ts s=some q):∃p r,s= .Assign [.Name q.1 p] q.2 r:=by
 unfold Ts at h;split at h<;>cases h
 exact#[_,_,rfl]
theorem Jr{s:Expr}{q:List Expr}(h:X0 s=some q):∃p,s= .BoolOp .And q p:=by
 unfold X0 at h;split at h<;>cases h
 exact#[_,rfl]
theorem HE{s:Expr}{q:Str}(h:g9 s=some q):∃p,s= .Name q p:=by
 unfold g9 at h;split at h<;>cases h
 exact#[_,rfl]
theorem HR{s:Expr}{q:Str×Str×Expr}(h:gF s=some q):∃p r u,s= .Call (.Name q.1 p) [.Name q.2.1 r,q.2.2] [] u:=by
 unfold gF at h;split at h<;>cases h
 exact#[_,_,_,rfl]
theorem Sa{s:Expr}{q:Str×Str}(h:lJ s=some q):∃p r u v w,s= .Compare (.Attribute (.Name q.1 p) q.2 r) [.Is] [.Constant .none u v] w:=by
 unfold lJ at h;split at h<;>cases h
 exact#[_,_,_,_,_,rfl]
theorem Sb{s q:Expr}(h:lK s=some q):∃p,s= .UnaryOp .Not q p:=by
 unfold lK at h;split at h<;>cases h
 exact#[_,rfl]
theorem OL{s:Expr}{q:Str×Str×Str}(h:YV s=some q):∃a b c d e,s= .Tuple [.Name q.1 a,.Name q.2.1 b,.Name q.2.2 c] d e:=by
 unfold YV at h;split at h<;>cases h
 exact#[_,_,_,_,_,rfl]
theorem Nb{s:Expr}{q:Str×Expr}(h:T5 s=some q):∃p r,s= .Call (.Name q.1 p) [q.2] [] r:=by
 unfold T5 at h;split at h<;>cases h
 exact#[_,_,rfl]
theorem PH{s:ExceptHandler}{q:Str×Str×List Stmt}(h:aP s=some q):∃p r,s= .ExceptHandler (some (.Name q.1 p)) (some q.2.1) q.2.2 r:=by
 unfold aP at h;split at h<;>cases h
 exact#[_,_,rfl]
theorem W2{en:Str}{M:List Stmt->Str×List Str->Prop}(hM:∀g p1 p2 p3 p4 p5 p6 p7 p8 p9 p10 p11 p12 p13 p14 p15 p16 p17 p18 p19 p20 p21 p22 p23 p24 p25 p26 p27 p28 p29,M [.Assign [.Name g p1] (.BoolOp .And [.Call (.Name "isinstance" p2) [.Name en p3,.Name VI p4] [] p5,.Call (.Name "isinstance" p6) [.Name en p7,.Name "ValueError" p8] [] p9,.Compare (.Attribute (.Name en p10) "place" p11) [.Is] [.Constant .none p12 p13] p14] p15) p16,.Assign [.Name g p17] (.BoolOp .And [.Name g p18,.UnaryOp .Not (.Call (.Name "isinstance" p19) [.Name en p20,.Tuple [.Name "NoProgram" p21,.Name "NoSuch" p22,.Name "Twice" p23] p24 p25] [] p26) p27] p28) p29] (g,["isinstance",VI,"ValueError","NoProgram","NoSuch","Twice"])){b:List Stmt}{q:Str×List Str}(h:ly en b=some q):M b q:=by
 unfold ly at h;split at h
 case h_2=>cases h
 obtain⟨⟨g0,v1⟩,n1,w1q⟩:=oB h;clear h;obtain⟨⟨g2,v2⟩,n2,w2q⟩:=oB w1q;clear w1q;obtain⟨l1,n3,w3q⟩:=oB w2q;clear w2q;obtain⟨l2,n4,w4q⟩:=oB w3q;clear w3q;obtain⟨_,_,rfl⟩:=Gm n1;obtain⟨_,_,rfl⟩:=Gm n2;obtain⟨_,e3⟩:=Jr n3;obtain⟨_,e4⟩:=Jr n4;clear n3 n4;dsimp only at e3 e4 w4q ⊢;subst e3 e4;clear n1 n2;unfold gA at w4q;split at w4q
 case h_2=>cases w4q
 obtain⟨⟨i1,o1,t1⟩,n1,w5q⟩:=oB w4q;clear w4q;obtain⟨⟨i2,o2,t2⟩,n2,w6q⟩:=oB w5q;clear w5q;obtain⟨⟨o3,pl⟩,n3,w7q⟩:=oB w6q;clear w6q;obtain⟨g3,n4,w8q⟩:=oB w7q;clear w7q;obtain⟨f1,n5,w9q⟩:=oB w8q;clear w8q;obtain⟨⟨i3,o4,t3⟩,n6,w10q⟩:=oB w9q;clear w9q;obtain⟨nw,n7,w11q⟩:=oB w10q;clear w10q;obtain⟨ve,n8,w12q⟩:=oB w11q;clear w11q;obtain⟨⟨s1,s2,s3⟩,n9,w13q⟩:=oB w12q;clear w12q;obtain⟨_,_,_,rfl⟩:=HR n1;obtain⟨_,_,_,rfl⟩:=HR n2;obtain⟨_,_,_,_,_,rfl⟩:=Sa n3;obtain⟨_,rfl⟩:=HE n4;obtain⟨_,rfl⟩:=Sb n5;obtain⟨_,_,_,e6⟩:=HR n6;obtain⟨_,e7⟩:=HE n7;obtain⟨_,e8⟩:=HE n8;obtain⟨_,_,_,_,_,e9⟩:=OL n9;clear n6 n7 n8 n9;dsimp only at e6 e7 e8 e9 w13q ⊢;subst e6 e7 e8 e9;clear n1 n2 n3 n4 n5;rcases Aa w13q with⟨hh,hq2⟩|⟨_,hq2⟩
 rotate_left
 .cases hq2
 clear w13q;obtain⟨rfl,rfl,rfl,rfl,rfl,rfl,rfl,rfl,rfl,rfl,rfl,rfl,rfl,rfl,rfl⟩:=hh;cases hq2;exact hM ..
theorem fy{b e f:List Stmt}{hs:List ExceptHandler}{pos:Pos}:Qk W cf mt k (.Try b hs e f pos):=by
 intro ct X s L Lx h;replace h:aI ct b hs e f=some s:=h;unfold aI at h;split at h
 case h_2=>cases h
 obtain⟨⟨y,v0⟩,m1,h1⟩:=oB h;clear h;obtain⟨⟨f,a⟩,m2,h2⟩:=oB h1;clear h1;obtain⟨⟨d,en,b⟩,m3,h⟩:=oB h2;clear h2;obtain⟨_,_,rfl⟩:=Gm m1;obtain⟨_,_,m2⟩:=Nb m2;dsimp only at m2;subst m2;obtain⟨_,_,rfl⟩:=PH m3;clear m1 m3;dsimp only at h ⊢;unfold Yg at h;replace h:=oB h;obtain⟨q,hq,h⟩:=h;replace h:=Aa h;rcases h with⟨hc,h⟩|⟨_,h⟩
 rotate_left
 .cases h
 simp only[bA]at hc;obtain⟨⟨⟨⟨⟨⟨⟨⟨_,c2⟩,c3⟩,c4⟩,c5⟩,c6⟩,c7⟩,c8⟩,c9⟩:=hc;replace h:=oB h;obtain⟨i,hi,h⟩:=h;replace h:=oB h;obtain⟨g,hg,h⟩:=h;replace h:=oB h;obtain⟨ie,he,h⟩:=h;replace h:=oB h;obtain⟨n,hn,h⟩:=h;replace h:=oB h;obtain⟨c,hc,h⟩:=h;replace h:=oB h;obtain⟨cd,hcd,h⟩:=h;replace h:=oB h;obtain⟨k1,hk1,h⟩:=h;replace h:=oB h;obtain⟨k2,hk2,h⟩:=h;replace h:=oB h;obtain⟨k3,hk3,h⟩:=h;replace h:=oB h;obtain⟨ts,hts,h⟩:=h;replace h:=Aa h;rcases h with⟨hne,h⟩|⟨_,h⟩
 rotate_left
 .cases h
 cases h;have hne:=of_decide_eq_true (Bool.and_eq_true_iff.mp hne).2;have c5:=of_decide_eq_true c5;subst c5
 revert c3 c6 hg
 have t:=λM hM=>@W2 en M hM b q hq
 apply t
 iterate 30 intro _
 intro c6 c3 hg;dsimp only at c6 c3 hg;have c2:X.env.scope.names.lookup _=some .local:=L.sc.loc _ (of_decide_eq_true c2);have c3:X.env.scope.names.lookup _=some .local:=L.sc.loc _ (of_decide_eq_true c3);simp only[all_cons,List.all_nil,Bool.and_true,bA]at c6;obtain⟨_,w1,_,w2,w3,w4⟩:=c6;obtain⟨is1,is2,_⟩:=L.Mr c7;obtain⟨ve1,ve2,_⟩:=L.Mr c8;obtain⟨u1,u2,_⟩:=L.glob w1;obtain⟨x1,x3,_⟩:=L.glob w2;obtain⟨y1,y3,_⟩:=L.glob w3;obtain⟨z1,z3,_⟩:=L.glob w4;obtain⟨e1,e2,e3⟩:=L.BE he;obtain⟨g1,g2,g3⟩:=L.BE hg;obtain⟨eb,ec⟩:=KA he;obtain⟨gb,gc⟩:=KA hg;have hnd:=Lx.xh c cd k1 k2 k3 hc hcd hk1 hk2 hk3;obtain⟨bm,bd,b1,b2,b3,b4⟩:=id hnd;rw[cA];exact UK L Lx c9 hn hts hi hg c4 (L.cls _ _ hcd).1 he c2 rfl hnd (λbm ea d oe od h0 h1 h2 h3 h4=>Xc.PL h0 b4 h1 h2 h3 h4 L.nd e1 c2 eb ec g1 c3 gb gc hne is1 is2 ve1 ve2 u1 (L.cls _ _ hc).1 u2 x1 (L.cls _ _ hk1).1 x3 y1 (L.cls _ _ hk2).1 y3 z1 (L.cls _ _ hk3).1 z3) hne
theorem Zt:Qs W cf mt k []:=by
 intro ct X ss L Lx h;unfold S3 at h;cases h;rw[Wm,show By []=[]from by unfold By;rfl];exact NL NK λD Y H z=>QX z
theorem Vm{st:Stmt}{Qb:List Stmt}(h1:Qk W cf mt k st)(h2:Qs W cf mt k Qb):Qs W cf mt k (st::Qb):=by
 intro ct X ss L Lx h;unfold S3 at h;obtain⟨s,h3,h⟩:=oB h;obtain⟨us,h4,rfl⟩:=oM h;rw[SE,show By (s::us)=Fb s++By us from by conv=>lhs;unfold By];exact NL (Hw (h1 L Lx h3) (h2 L Lx h4)) λD Y H z=>Zm z
mutual
theorem kW:∀st:Stmt,Qk W cf mt k st
 |.Assign tgs e pos=>fB
 |.Expr e pos=>Zw
 |.Return o pos=>fz
 |.If c a b pos=>kU (IP a) (IP b)
 |.While c b e pos=>Vn (IP b)
 |.For tg it b e pos=>fA (IP b)
 |.Pass pos=>Zu
 |.Break .. | .Continue .. | .FunctionDef .. | .AsyncFunctionDef .. | .ClassDef .. | .Delete .. | .TypeAlias .. | .AugAssign .. | .AnnAssign .. | .AsyncFor .. | .With .. | .AsyncWith .. | .Match .. | .TryStar .. | .Assert .. | .Import .. | .ImportFrom .. | .Global .. | .Nonlocal ..=>Zv λ_=>rfl
 |.Raise e c pos=>Vo
 |.Try b hs e f pos=>fy
theorem IP:∀Qb:List Stmt,Qs W cf mt k Qb
 |[]=>Zt
 |st::Qb=>Vm (kW st) (IP Qb)
end
end
variable{W:Wd}{H:Hp}
variable{n:Nat}
theorem G1:∀{U:Env} {Y:L2.St} {os:List Addr},A6 W H U Y os->A6 W H (U++List.replicate n none) (Y++List.replicate n none) os
 | [],_,_,h=>by
   rw[h.1,h.2.1,nil_append,nil_append]
   induction n with
   |zero=>exact#[rfl,rfl,h.2.2]
   |succ n ih=>exact#[none,List.replicate n none,rfl,ih]
 |none::U,_,_,⟨x,r,e,h⟩=>by rw[e];exact#[x,_,rfl,G1 h]
 |some c::U,_,_,⟨v,r,o,o2,e1,h1,h2,e2⟩=>by rw[e1];exact#[v,_,o,o2,rfl,h1,G1 h2,e2]
theorem Eh:∀(n:Nat) (g:Nat->Bool) {U:Env} {Y τ:L2.St} {os:List Addr},A6 W H U Y os->n<=U.length->τ.length=n->(∀i,i<n->g i=false->Y[i]? =τ[i]?)->
 ∃oos od,A6 W H ((List.range n).map λi=>if g i then none else A8 U i) τ oos/\(od++oos).Perm os
 | 0,g,U,Y,τ,os,hR,_,hl,_=>by
   have:τ=[]:=length_eq_zero_iff.mp hl;subst this;exact#[[],os,#[rfl,rfl,hR.tb],by rw[append_nil]]
 | n + 1, g,U,Y,τ,os,hR,hle,hl,hc=>by
   rw[List.range_succ_eq_map,map_cons,map_map];cases τ with
   |nil=>cases hl
   |cons t τ=>
     have hl':τ.length=n:=by simpa using hl
     cases U with
     |nil=>cases hle
     |cons x U=>
       have hle':n<=U.length:=by simpa using hle
       have ef:((λi=>if g i then none else A8 (x::U) i) ∘ Nat.succ)=λi=>if g (i+1)then none else A8 U i:=rfl
       rw[ef];cases x with
       |none=>
         obtain⟨y,r,e,h⟩:=hR;subst e;obtain⟨oos,od,q1,q2⟩:=Eh n (λi=>g (i+1)) h hle' hl' λi hi hg=>by simpa using hc (i+1) (by lia) hg
         refine#[oos,od,?_,q2];have:(if g 0 then(none:Option C)else A8 (none::U) 0)=none:=by split<;>rfl
         rw[this];exact#[t,τ,rfl,q1]
       |some c=>
         obtain⟨v,r,o,o2,e1,h1,h2,e2⟩:=hR;subst e1 e2;obtain⟨oos,od,q1,q2⟩:=Eh n (λi=>g (i+1)) h2 hle' hl' λi hi hg=>by simpa using hc (i+1) (by lia) hg
         cases hg:g 0 with
         |true=>
           refine#[oos,o++od,?_,by rw[append_assoc];exact q2.append_left o];exact#[t,τ,rfl,q1]
         |false=>
           have ht:=hc 0 (by lia) hg;simp at ht;subst ht;refine#[o++oos,od,#[v,τ,o,oos,rfl,h1,q1,rfl],?_];refine List.Perm.trans ?_ (q2.append_left o);rw[<-append_assoc,<-append_assoc];exact perm_append_comm.append_right oos
section
variable{P:Program}{K:PySem.W.Frag}{mg:Str->Option Value}{base:Heap}{mt:MT}
theorem SG{X:Cx}{E:XK}(hst:X.stack=X.env::X.outer)(hf:X.env.frame=some X.env.locals)(hex:X.ex=[])(hxe:∀e s',(X|||(leaving X.env e)) (λ_ s''=>Xc.Eb X.prog X.w X.outer X.H₀ X.s₀ E e s'') (λe' s''=>Xc.Eb X.prog X.w X.outer X.H₀ X.s₀ E e' s'') s'->X.xe e s')(x:Nat)(p:Iv.P)(Y:L2.St)(H':Hp)(q:E (.ref (W.Br x)) none H'):AI X W x p Y H':=
 #[λA1 H s e s' I c=>hxe e s' (Xc.UD I hst hf hex c λcls H'' ⟨e1,e2⟩=>by rw[e1,e2];exact q),λA1 s1 s' e t d I1 i1 i2 i3 i4 i5 i6 i7 i8=>hxe _ _ (Xc.Qi I1 hst hf hex i1 i2 i3 i4 i5 i6 i7 i8 q)]
variable{cf:CF}{fi:Fg}{vs:List V}{H:Hp}
theorem WX{X:Cx}{ct:Ct}{k:Nat}{body:List Stmt}{N:List Str}{E:XK}(L:Df ct X W cf mt k)(Lx:Xf ct X W)(hup:∀x p Y' H',E (.ref (W.Br x)) none H'->AI X W x p Y' H')(hk:S3 ct body=some fi.body)(hnl:fi.nl=N.length){Q:VK}(hnp:fi.np<=N.length)(hv:vs.length=fi.np)
 (hsp:JC W (Dx cf mt Ai fi) vs H Q E):Nf X body (tS W (AI X W) (By fi.body) (execs cf mt Ai fi.body))/\tS W (AI X W) (By fi.body) (execs cf mt Ai fi.body) {nx:=λ_ H'=>Q .Az H',rt:=Q} (L2.start N vs) H:=by
 refine#[IP body L Lx hk,?_];obtain⟨cs,os,hR,hn,hQ⟩:=hsp;have hlen:vs.length=cs.length:=by have:=hR.length;simpa using this
 have hst:L2.start N vs=vs.map some++List.replicate (fi.nl-fi.np) none:=by unfold L2.start;rw[hnl,hv]
 have hR0:A6 W H (cs.map some++List.replicate (fi.nl-fi.np) none) (L2.start N vs) os:=by rw[hst];exact G1 hR
 refine#[_,os,hR0,hn,?_];unfold Dx at hQ;rw[iP (by lia)]at hQ;have hUl:fi.np<=(cs.map some++List.replicate (fi.nl-fi.np) (none:Option C)).length:=by rw[lA,lM];lia
 have outs:∀{U':Env} {Y':L2.St} {H':Hp} {os':List Addr},A6 W H' U' Y' os'->AR (By fi.body) (L2.start N vs) Y'->∃oos od,A6 W H' (CM fi U') (vs.map some) oos/\(od++oos).Perm os':=by
  intro U' Y' H' os' r u;unfold CM;have hl2:fi.np<=U'.length:=by rw[<-r.length,u.1,hR0.length];exact hUl
  refine Eh fi.np (λi=>(By fi.body).contains i) r hl2 (by rw[lM];exact hv) λi hi hg=>?_
  rw[u.2 i (by simpa using hg),hst,List.getElem?_append_left (by rw[lM];lia)]
 cases eb:execs cf mt Ai fi.body (cs.map some++List.replicate (fi.nl-fi.np) none)with
 |A2=>rw[eb]at hQ;exact hQ
 |err x p U'=>
   rw[eb]at hQ;dsimp only at hQ;rcases Bool.eq_false_or_eq_true mt.rs with hr|hr
   .rw[hr,iP rfl]at hQ;exact λY' H' os' r1 r2 r3 r4=>hup x p Y' H' (hQ H' #[rfl,rfl,r1.tb] (r3.sub λa ha=>by cases ha))
   .rw[hr]at hQ;exact False.elim hQ
 |ok f U'=>
   rw[eb]at hQ;cases f with
   |brk=>exact False.elim hQ
   |cnt=>exact False.elim hQ
   |nx=>
     intro Y' H' os' r1 r2 r3 r4;obtain⟨oos,od,q1,q2⟩:=outs r1 r4;have nd:=nA (q2.nodup_iff.mpr r2);exact hQ .Az H' [] oos #[BR.mpr rfl,rfl] q1 nd.2.1 (r3.sub λa ha=>q2.subset (mR ha))
   |ret c=>
     intro v Y' H' o os' r0 r1 r2 r3 r4;obtain⟨oos,od,q1,q2⟩:=outs r1 r4;have n2:=nA r2;have nd:=nA (q2.nodup_iff.mpr n2.2.1);refine hQ v H' o oos r0 q1 ?_ (r3.sub λa ha=>?_)
     .rw[nodup_append];exact#[n2.1,nd.2.1,λa ha b hb z=>n2.2.2 a ha b (q2.subset (mR hb)) z]
     .rcases mZ ha with z|z
      .exact mL z
      .exact mR (q2.subset (mR z))
structure dJ(K:PySem.W.Frag)(mg:Str->Option Value)(W:Wd)(mt:MT)(n:Nat)(tg:List (Str×Iv.P))(tf tc:List (Str×Nat)):Prop where
 kk:W.K=K
 gl:∀x p,tg.lookup x=some p->∃u v,mg x=some u/\RelV v u/\∀H,AH W H p v
 own:∀x∈Kn,tg.lookup x=none->tf.lookup x=none->tc.lookup x=none->mg x=none
 As:∀x f,tf.lookup x=some f->mg x=some (.ref (W.Cq f))/\keepIn K (.ref (W.Cq f))=true/\f<n
 cls:∀x c,tc.lookup x=some c->mg x=some (.ref (W.Br c))/\∀f,mt.m c (Str.ofString "__init__")=some f->Mk K (W.Br c) (W.Cq f)
 Mz:∀c m f,mt.m c m=some f->Dv K (W.Br c)/\(m≠Str.ofString "__init__"->Meth K (W.Br c) m (W.Cq f))/\f<n
 Aw:∀c f,mt.f c f=true->BN K (W.Br c) f
 xk:∀c,tc.lookup VI=some c->∃f sf st fd,Xc.Xk K (W.Br c) f sf st fd
 xh:∀c cd n1 n2 n3,tc.lookup VI=some c->tc.lookup ("DeedsError":Str)=some cd->tc.lookup ("NoProgram":Str)=some n1->tc.lookup ("NoSuch":Str)=some n2->tc.lookup ("Twice":Str)=some n3->Uu K (W.Br c) (W.Br cd) (W.Br n1) (W.Br n2) (W.Br n3)
 jf:∀n,mt.tf n=true->∃x,tf.lookup x=some n
 ll:∀x p,tg.lookup x=some p->BX p=true
variable{W W':Wd}{n:Nat}
theorem dJ.to{tg:List (Str×Iv.P)}{tf tc:List (Str×Nat)}(G:dJ K mg W mt n tg tf tc)(h:cC W W')(hn:n<=CW):dJ K mg W' mt n tg tf tc where
 kk:=h.K▸G.kk
 gl:=λx p e=>let⟨u,v,h1,h2,h3⟩:=G.gl x p e;#[u,v,h1,h2,λH=>Eg h.eq (G.ll x p e) (h3 H)]
 own:=G.own
 As:=λx f e=>by
  obtain⟨h1,h2,h3⟩:=G.As x f e;rw[h.Cq f (Nat.lt_of_lt_of_le h3 hn)];exact#[h1,h2,h3]
 cls:=λx c e=>by
  obtain⟨h1,h2⟩:=G.cls x c e;rw[<-h.Br];refine#[h1,λf ef=>?_];rw[h.Cq f (Nat.lt_of_lt_of_le (G.Mz c _ f ef).2.2 hn)];exact h2 f ef
 Mz:=λc m f e=>by
  obtain⟨h1,h2,h3⟩:=G.Mz c m f e;rw[<-h.Br,h.Cq f (Nat.lt_of_lt_of_le h3 hn)];exact#[h1,h2,h3]
 Aw:=λc f e=>by rw[<-h.Br];exact G.Aw c f e
 xk:=λc e=>by rw[<-h.Br];exact G.xk c e
 xh:=λc cd n1 n2 n3=>by rw[<-h.Br];exact G.xh c cd n1 n2 n3
 jf:=G.jf
 ll:=G.ll
structure Il(K:PySem.W.Frag)(W:Wd)(gl:List (Str×Iv.P))(As cls:List (Str×Nat))(fl:List Fg)(f:Nat)(fi:Fg)(fd:FuncData)(ps:List Str):Prop where
 ex:∃(x qual:Str) (st:Stmt) (ct:Ct),OC K x qual st (W.Cq f) fd/\D6 ct.N ps (Am st)/\S3 ct (Ca st)=some fi.body/\fi.np=ps.length/\fi.nl=ct.N.length/\ct.sc=Am st/\ct.df=true/\ct.gl=gl/\ct.As=As/\ct.cls=cls/\Binds K fd ps []/\
   ∀lp q,ct.RY.lookup lp=some q->fl[q.1]? =some q.2/\∃c P,fd.code= .ref c/\codeHdIn K c P=true/\(P,lp,(qual++".<locals>.")++"<lambda>")∈W.tabs
variable{gl:List (Str×Iv.P)}{ps:List Str}
theorem Il.to{As cls:List (Str×Nat)}{fl:List Fg}{f:Nat}{fd:FuncData}(D:Il K W gl As cls fl f fi fd ps)(h:cC W W')(hf:f<CW):Il K W' gl As cls fl f fi fd ps:=by
 obtain⟨x,qual,st,ct,F,r⟩:=D.ex;refine#[x,qual,st,ct,?_,?_]
 .rw[h.Cq f hf];exact F
 .rw[<-h.tabs];exact r
theorem OC.nZ{qual:Str}{st:Stmt}{fd:FuncData}{N:List Str}{k:Nat}{sp:Sp}(F:OC K x qual st f fd)(S:D6 N ps (Am st))(len:∀vs H Q E,sp vs H Q E->vs.length=ps.length)
 (hbody:∀(A:Around) (outer:List PySem.Env) (s:Shared) (H:Hp) (vs:List V) (Q:VK) (E:XK),Bk k (A.deeper (envOfC qual (Am st) s.heap.objs.size f fd.code))->sp vs H Q E->
  ∃t,Nf (LD (Xc.Eb P w) P w K mg base N qual (Am st) f fd.code A outer s H E) (Ca st) t/\t {nx:=λ_ H'=>Q .Az H',rt:=Q} (start N vs) H):Dd P w K mg base (Xc.Eb P w) (k+1) f fd ps sp:=by
 obtain⟨oc,od,kV,doc,pm,an,cdv,ct,osl,rfl,lk,hcd⟩:=F.ex;exact gN lk hcd S len hbody
structure Good(mg:Str->Option Value)(As:List Fg)(gl:List (Str×Iv.P))(fnt clt:List (Str×Nat))(W0 W:Wd)(base:Heap):Prop where
 st:cC W0 W
 GD:∀n,CW<=n->W.ok n=true->Uv fnt clt gl (λl fi=>As[l]? =some fi) W base n
 blt:∀q∈W0.tabs,base.BuiltinsAt mg q.1/\mainGlobals≠q.1
theorem Td{h h':Heap}{P:Addr}(k:∀b o,h.get? b=some o->h'.get? b=some o)(x:h.BuiltinsAt mg P):h'.BuiltinsAt mg P:=
 let⟨bm,o,q1,q2,q3,q4,q5,q6⟩:=x;#[bm,o,q1,q2,q3,q4,k _ _ q5,q6]
theorem Zp{X:Cx}{Q:VK}{E:XK}(hup:∀x p Y' H',E (.ref (W.Br x)) none H'->AI X W x p Y' H')(hv:vs.length=n)(h:JC W (Dx cf mt Ai #[n,n,[.ret (some t)]]) vs H Q E):tG W (AI X W) (rV W) (ev cf mt t) (vs.map some) H Q:=by
 obtain⟨cs,os,hR,hn,hQ⟩:=h;refine#[_,os,hR,hn,?_];have hlen:vs.length=cs.length:=by have:=hR.length;simpa using this
 unfold Dx at hQ;rw[iP (show cs.length=n by lia)]at hQ
 have e1:execs cf mt Ai [.ret (some t)] (cs.map some++List.replicate (n-n) none)=(ev cf mt t (cs.map some)).bind λc U=>.ok (.ret c) U:=by
  rw[Nat.sub_self,List.replicate_zero,append_nil];show(exec cf mt Ai (.ret (some t)) (cs.map some)).bind _=_;have:exec cf mt Ai (.ret (some t)) (cs.map some)=(ev cf mt t (cs.map some)).bind λc U=>.ok (.ret c) U:=rfl
  rw[this];cases ev cf mt t (cs.map some)<;>rfl
 dsimp only at hQ;rw[e1]at hQ;unfold Ck;cases ee:ev cf mt t (cs.map some)with
 |A2=>rw[ee]at hQ;exact hQ
 |err x p U'=>
   rw[ee]at hQ;dsimp only[Res.bind]at hQ;rcases Bool.eq_false_or_eq_true mt.rs with hr|hr
   .rw[hr,iP rfl]at hQ;exact λH' os' r1 r2 r3=>hup x p _ H' (hQ H' #[rfl,rfl,r1.tb] (r3.sub λa ha=>by cases ha))
   .rw[hr]at hQ;exact False.elim hQ
 |ok c U'=>
   rw[ee]at hQ;have hQ:∀v H' o oos,Ba W H' c v o->A6 W H' (CM #[n,n,[.ret (some t)]] U') (vs.map some) oos->(o++oos).Nodup->AY H H' os (o++oos)->Q v H':=hQ;intro v H' o os' r1 r2 r3 r4;have hl2:n<=U'.length:=by rw[<-r2.length,lM];lia
   obtain⟨oos,od,q1,q2⟩:=Eh n (λi=>(By [.ret (some t)]).contains i) r2 hl2 (by rw[lM];exact hv) (λi _ _=>rfl);have n2:=nA r3;have nd:=nA (q2.nodup_iff.mpr n2.2.1);refine hQ v H' o oos r1 q1 ?_ (r4.sub λa ha=>?_)
   .rw[nodup_append];exact#[n2.1,nd.2.1,λa ha b hb z=>n2.2.2 a ha b (q2.subset (mR hb)) z]
   .rcases mZ ha with z|z
    .exact mL z
    .exact mR (q2.subset (mR z))
theorem Sx{W0:Wd}{As:List Fg}{fnt clt:List (Str×Nat)}{nd:Nat}(hw0:W0.w=w)(G0:dJ K mg W0 mt nd gl fnt clt)(hnd:nd<=CW)(hnl:nd<=As.length)(htn:(W0.tabs.map (·.1)).Nodup)(htag:∀c,W0.Br (tag c)=W0.Br c){FD:Nat->FuncData}{PS':Nat->List Str}
 (D0:∀f fi,f<nd->As[f]? =some fi->Il K W0 gl fnt clt As f fi (FD f) (PS' f)):
 ∀(k:Nat) (W:Wd) (base:Heap),Good mg As gl fnt clt W0 W base->(∀f,f<nd->Dd P w K mg base (Xc.Eb P w) (2*k+4) (W.Cq f) (FD f) (PS' f) (JC W (Be As mt Ai k f))/\Binds K (FD f) (PS' f) [])/\∀n,CW<=n->W.ok n=true->YK P w K mg base W (Be As mt Ai k) (2*k+4) n
 | 0, W,base,g=>by
   refine#[λf hf=>?_,λn h1 h2=>?_]
   .have hfl:=Nat.lt_of_lt_of_le hf hnl;obtain⟨x,qual,st,ct,F,S,hk,h1,h2,h3,h4,h5,h6,h7,hb,_⟩:=(D0 f As[f] hf (List.getElem?_eq_getElem hfl)).ex
    have no:∀vs H Q E,¬JC W (Be As mt Ai 0 f) vs H Q E:=λvs H Q E z=>by
     obtain⟨cs,os,_,_,q⟩:=z;exact q
    exact#[#[λvs H Q E z=>(no _ _ _ _ z).elim,λA outer s H args us vs Q E _ _ _ _ z=>(no _ _ _ _ z).elim],hb]
   .obtain⟨_,_,_,_,_,_,_,_,_,hb,_⟩:=g.GD n h1 h2;refine#[#[_,_,hb,rfl],λA outer s H Q E _ _ z=>?_];obtain⟨cs,os,_,_,q⟩:=z;exact q.elim
 | k + 1,W,base,g=>by
   have ihg:=Sx hw0 G0 hnd hnl htn htag D0 k;have ih:=ihg W base g;have hw:W.w=w:=g.st.w▸hw0;have G:dJ K mg W mt nd gl fnt clt:=G0.to g.st hnd;refine#[λf hf=>?_,λn hn1 hn2=>?_]
   .have hfl:=Nat.lt_of_lt_of_le hf hnl;obtain⟨x,qual,st,ct,F,S,hk,h1,h2,h3,h4,h5,h6,h7,hb,hlam⟩:=((D0 f As[f] hf (List.getElem?_eq_getElem hfl)).to g.st (Nat.lt_of_lt_of_le hf hnd)).ex
    have ecf:Be As mt Ai (k+1) f=Dx (Be As mt Ai k) mt Ai As[f]:=by
     funext cs
     show(match As[f]? with|some fi=>Dx (Be As mt Ai k) mt Ai fi cs|none=>.A2)=_;rw[List.getElem?_eq_getElem hfl]
    have len:∀vs H Q E,JC W (Be As mt Ai (k+1) f) vs H Q E->vs.length=(PS' f).length:=λvs H Q E z=>by
     obtain⟨cs,os,hR,_,q⟩:=z;have hl:vs.length=cs.length:=by have:=hR.length;simpa using this
     by_cases hl2:cs.length=As[f].np
     .lia
     .rw[ecf]at q;unfold Dx at q;rw[iN hl2]at q;exact q.elim
    refine#[?_,hb];have hj:2*(k+1)+4=(2*k+4+1)+1:=by lia
    rw[hj];refine OC.nZ F S len λA outer s H vs Q E hr hsp=>?_
    have hvl:=len vs H Q E hsp;rw[ecf]at hsp
    have hnp:As[f].np<=ct.N.length:=by
     have:=congrArg List.length S.pre;rw[length_take]at this
     lia
    have fs:∀i,i<nd->dc (LD (Xc.Eb P w) P w K mg base ct.N qual (Am st) (W.Cq f) (FD f).code A outer s H E) W (Be As mt Ai k) (2*k+4) i:=λi hi=>#[#[_,_,ih.1 i hi]]
    have L:Df ct (LD (Xc.Eb P w) P w K mg base ct.N qual (Am st) (W.Cq f) (FD f).code A outer s H E) W (Be As mt Ai k) mt (2*k+4):=by
     refine#[G.kk,hw,rfl,S.nd,by rw[h3];exact iV.refl _,λ_ _=>rfl,rfl,hr,PassesOwn.leaving,?_,?_,?_,?_,#[?_],G.Aw,by rw[h6];exact G.jf,?_,λ_=>ih.2]
     .rw[h5];exact G.gl
     .rw[h5,h6,h7];exact G.own
     .rw[h6];intro x f' e;obtain⟨g1,g2,g3⟩:=G.As x f' e;exact#[g1,g2,fs f' g3]
     .rw[h7];exact G.cls
     .intro c m f' e;obtain⟨g1,g2,g3⟩:=G.Mz c m f' e;exact#[g1,g2,fs f' g3]
     .intro lp q e;obtain⟨e1,c,Pt,e2,e3,e4⟩:=hlam lp q e;have e5:(Pt,lp,(qual++".<locals>.")++"<lambda>")∈W0.tabs:=g.st.tabs▸e4;refine#[#[c,Pt,e2,e3,(g.blt _ e5).1,(g.blt _ e5).2,e4],g.st.tabs▸htn,g.st.Br▸htag,λc m f' ef=>Nat.lt_of_lt_of_le (G.Mz c m f' ef).2.2 hnd,λl fi=>As[l]? =some fi,e1,λW' base' w1 w2 w3 c m f' ef=>?_];rw[h5,h6,h7]at w3;exact#[_,_,(ihg W' base' #[#[g.st.K.trans w1.K,g.st.w.trans w1.w,g.st.Br.trans w1.Br,g.st.tabs.trans w1.tabs,λn hn=>(w1.Cq n hn).trans (g.st.Cq n hn)],w3,λq hq=>#[Td w2 (g.blt q hq).1,(g.blt q hq).2]]).1 f' (G.Mz c m f' ef).2.2]
    exact#[_,WX L #[rfl,rfl,hr.mono (by lia),by rw[h7];exact G.xk,by rw[h7];exact G.xh] (SG rfl rfl rfl λ_ _ z=>z) hk h2 hnp (by lia) hsp]
   .obtain⟨qual,as,b,sc,clos,pm,ctv,cc,t,hb,hcd,hS,has,hcell,hlen,hv,hnd2,hall,ht,hLT⟩:=g.GD n hn1 hn2;refine#[#[_,_,hb,rfl],λA outer s H Q E hr e0 hsp=>?_];have hLT:As[Gh n]? =some #[(Bf sc).length,(Bf sc).length,[.ret (some t)]]:=hLT
    have ecf:Be As mt Ai (k+1) (Gh n)=Dx (Be As mt Ai k) mt Ai #[(Bf sc).length,(Bf sc).length,[.ret (some t)]]:=by
     funext cs
     show(match As[Gh n]? with|some fi=>Dx (Be As mt Ai k) mt Ai fi cs|none=>.A2)=_;rw[hLT]
    have htb:Ds W H:=by obtain⟨cs,os,hR,_⟩:=hsp;exact hR.tb
    rw[ecf]at hsp;have hq:=Zp (X:=Jf P w K mg base (Bf sc) qual sc (W.Cq n) (.ref cc) clos A outer s H E) (SG rfl rfl rfl λ_ _ z=>z) hlen hsp
    have hrec:s.heap.CodeRec (.ref cc) qual:=by
     obtain⟨oc,u,us,tk,d1,d2,d3⟩:=htb.2 _ hcd;exact#[cc,oc,us,tk,rfl,(e0.Ao _ _ d1).1,d2,d3]
    have fs:∀i,i<nd->dc (Jf P w K mg base (Bf sc) qual sc (W.Cq n) (.ref cc) clos A outer s H E) W (Be As mt Ai k) (2*k+4) i:=λi hi=>#[#[_,_,ih.1 i hi]]
    have hj:2*(k+1)+4=(2*k+4+1)+1:=by lia
    rw[hj]at hr
    have L:Df (Jg sc fnt clt gl) (Jf P w K mg base (Bf sc) qual sc (W.Cq n) (.ref cc) clos A outer s H E) W (Be As mt Ai k) mt (2*k+4):=by
     refine#[G.kk,hw,rfl,hnd2,iV.refl _,λz=>(by cases z),rfl,hr.deeper _,PassesOwn.leaving,G.gl,G.own,?_,G.cls,#[?_],G.Aw,G.jf,λlp q e=>(by cases e),λz=>(by cases z)]
     .intro x f' e;obtain⟨g1,g2,g3⟩:=G.As x f' e;exact#[g1,g2,fs f' g3]
     .intro c m f' e;obtain⟨g1,g2,g3⟩:=G.Mz c m f' e;exact#[g1,g2,fs f' g3]
    have has':=IY has;exact VZ e0 hr hS hb hrec (by rw[has'];rfl) hcell hlen hv ((Dz b).1 L ht).v hq
end
inductive Each{α:Type}(R:α->Prop):List α->Prop where
 |nil:Each R []
 |cons {a:α} {l:List α} (h:R a) (t:Each R l):Each R (a::l)
variable{α:Type}
theorem Each.mem{R:α->Prop}{l:List α}(h:Each R l):∀a∈l,R a:=by
 induction h with
 |nil=>intro a ha;cases ha
 |cons h t ih=>
   intro a ha;rcases mK ha with z|z
   .rw[z];exact h
   .exact ih a z
theorem Each.look{β:Type}[BEq α][LawfulBEq α]{R:α×β->Prop}{l:List (α×β)}(h:Each R l){a:α}{b:β}(e:l.lookup a=some b):R (a,b):=by
 induction h with
 |nil=>simp at e
 |@cons q l h t ih=>
   rw[show q=(q.1,q.2)from rfl,lookup_cons]at e;cases hq:a==q.1 with
   |true=>
     rw[hq]at e;cases e;rw[eq_of_beq hq];exact h
   |false=>rw[hq]at e;exact ih e
def fnOf(tf tc:List (Str×Nat))(tg:List (Str×P))(lm:List (Pos×Nat×Fg))(st:Stmt):Fg:=(jw st (WE st tf tc tg [] lm)).getD default
variable{lm:List (Pos×Nat×Fg)}{qual:Str}
theorem bp{K:PySem.W.Frag}{tf tc:List (Str×Nat)}{tg:List (Str×P)}{fl:List Fg}{f:Nat}{st:Stmt}{fd:FuncData}(F:OC K x qual st (W.Cq f) fd)(S:D6 (namesOf st) (EI st) (Am st))(hs:(jw st (WE st tf tc tg [] lm)).isSome=true)(hb:Binds K fd (EI st) [])
 (e1:Og st=Ca st)(e2:Kf st=Am st)(hl:∀lp q,lm.lookup lp=some q->fl[q.1]? =some q.2/\∃c P,fd.code= .ref c/\codeHdIn K c P=true/\(P,lp,(qual++".<locals>.")++"<lambda>")∈W.tabs):Il K W tg tf tc fl f (Iv.fnOf tf tc tg lm st) fd (EI st):=by
 obtain⟨fi,hfi⟩:=Option.isSome_iff_exists.mp hs;have e:Iv.fnOf tf tc tg lm st=fi:=by unfold Iv.fnOf;rw[hfi];rfl
 rw[e];unfold jw at hfi;obtain⟨b,hb',rfl⟩:=oM hfi;exact#[x,qual,st,WE st tf tc tg [] lm,F,S,by rw[<-e1];exact hb',rfl,rfl,e2,rfl,rfl,rfl,rfl,hb,hl]
theorem WB{K:PySem.W.Frag}{tf tc:List (Str×Nat)}{tg:List (Str×P)}{fl:List Fg}{f:Nat}{st:Stmt}{fd:FuncData}(F:OC K x qual st (W.Cq f) fd)(S:D6 (namesOf st) (EI st) (Am st))(hs:(jw st (WE st tf tc tg [] lm)).isSome=true)
 (h:∀(kV doc pm:Value) (an:Option Addr) (cdv ct:Value) (us:List Value),us.length=(EI st).length->bindArgs (PySem.W.fnOf x qual (Ke st) (Ca st) (Am st) .none kV doc pm an cdv ct) #[us,[]]=pure ((EI st).zip us))(e1:Og st=Ca st)(e2:Kf st=Am st)
 (hl:∀lp q,lm.lookup lp=some q->fl[q.1]? =some q.2/\∃c P,fd.code= .ref c/\codeHdIn K c P=true/\(P,lp,(qual++".<locals>.")++"<lambda>")∈W.tabs):Il K W tg tf tc fl f (Iv.fnOf tf tc tg lm st) fd (EI st):=bp F S hs (F.binds h) e1 e2 hl
def Nu(n:Nat)(ts:List (Addr×Addr))(K:PySem.W.Frag):Sp:=λvs H Q _=>∃(a:Addr) (ns:List Int),vs=[.ref a]/\Xb K H a (ns.map V.int)/\ns.length<=n/\(∀p∈ts,H p.2=some (.Jy [].toArray))/\∀H',Q (.bl true) H'
variable{ts:List (Addr×Addr)}
theorem VY{K:PySem.W.Frag}(hK:W.K=K)(ht:∀q∈W.tabs,∃p∈ts,p.2=q.1)(hc:W.dC=[]){r:List C->CR}(hr:∀ns:List Int,ns.length<=n->∃outs,r [.b (.ro (ns.map .int))]= .ok (.p (.bl true)) outs)(vs:List V)(H:Hp)(Q:VK)(E:XK)(h:Nu n ts K vs H Q E):JC W r vs H Q E:=by
 obtain⟨a,ns,rfl,h1,h2,h3,q⟩:=h;obtain⟨outs,e⟩:=hr ns h2;refine#[[.b (.ro (ns.map .int))],[],#[.ref a,[],[],[],rfl,#[#[a,_,rfl,hK▸h1,J6 ns],rfl],#[rfl,rfl,λq hq=>?_,λq hq=>by rw[hc]at hq;cases hq],rfl],.nil,?_]
 .obtain⟨p,hp,e⟩:=ht q hq;exact#[[].toArray,by rw[<-e];exact h3 p hp,trivial,λcv z=>by cases z]
 .rw[e];intro v H' o oos r1 _ _ _;rw[(dD (c:=.p (.bl true)) r1).1];exact q H'
theorem Py{P:Program}{w:World}{K:PySem.W.Frag}{mg mb:Str->Option Value}{k:Nat}{fa:Addr}{fd:FuncData}{x:Str}{s₁:Shared}{vs:List Value}{ns:List Int}
 (KX:K.In s₁.heap)(hns:s₁.heap.Ns mainGlobals mg)(hb:s₁.heap.Ns builtinsNs mb)(hbb:∀x:Str,x≠"__name__"->mb x=bootBuiltins x)(hlim:s₁.heap.NoLimit)(hg:s₁.gens= [].toArray)
 (hbm:∃bm ob,mg "__builtins__"=some (.ref bm)/\bm≠builtinsNs/\s₁.heap.get? bm=some ob/\ob.cls= .type "module"/\ob.dict=some builtinsNs/\ob.data= .plain)
 (hT:∀p∈ts,s₁.heap.get? p.2=some (tabObj [].toArray)/\codeHdIn K p.1 p.2=true/\K.lookup p.2=none)
 (ha:s₁.heap.get? a=some {cls:=.type "list",data:=.seq vs.toArray})(hi:IntsAre vs ns)(hl:ns.length<=sizeLine)(hln:ns.length<=n)(hr:Bk k callerA)
 (F:∀base:Heap,K.In base->base.Ns mainGlobals mg->(∀p∈ts,base.BuiltinsAt mg p.2/\mainGlobals≠p.2)->Dd P w K mg base (Xc.Eb P w) k fa fd [x] (Nu n ts K))(hbind:∀(s:Shared) (u:Value),BindsTo s fd #[[u],[]] [(x,u)]):
 codeAny (model P w) callerA (.call (.ref fa) #[[.ref a],[]]) (λr s'=>r= .ok (.ret (.bool true))/\OldK s₁.heap s'.heap/\s'.os=s₁.os/\AllBare s'.gens) s₁:=by
 have rv:=IB hi;have lenV:=hi.length
 have haT:∀p∈ts,p.2≠a:=λp hp z=>by
  have:=(hT p hp).1;rw[z,ha]at this;cases this
 have core : ∀H:Hp,Xb K H a (ns.map V.int)->Ff P w H s₁.heap->(∀p∈ts,H p.2=some (.Jy [].toArray))->(∀b,H b≠none->(b=a/\∃o xs,H b=some (.E4 o (.lst xs)))\/∃p∈ts,p.2=b)->(H a≠none->K.lookup a=none)->
  codeAny (model P w) callerA (.call (.ref fa) #[[.ref a],[]]) (λr s'=>r= .ok (.ret (.bool true))/\OldK s₁.heap s'.heap/\s'.os=s₁.os/\AllBare s'.gens) s₁:=by
  intro H hS Ao hTb hA hK;have base_of:∀{b:Addr} {o:Obj},s₁.heap.get? b=some o->H b=none->(Iw s₁.heap H).get? b=some o:=λe n=>Sg e n
  have noT:∀{b:Addr} {o:Obj},s₁.heap.get? b=some o->(∀vs,o.data≠.seq vs)->(∀vs,o.data≠.fields vs)->H b=none:=λ{b o} e d1 d2=>by
   cases q:H b with
   |none=>rfl
   |some u=>
     rcases hA b (by rw[q];simp)with⟨z,_⟩|⟨p,hp,z⟩
     .subst z;rw[ha]at e;cases e;exact absurd rfl (d1 _)
     .subst z;rw[(hT p hp).1]at e;cases e;exact absurd rfl (d2 _)
  have nsK:∀{b:Addr} {m:Str->Option Value},s₁.heap.Ns b m->(Iw s₁.heap H).Ns b m:=λ{b m} ⟨o,es,ep,e,d,r⟩=>#[o,es,ep,base_of e (noT e (λ_ z=>by rw[d]at z;cases z) λ_ z=>by rw[d]at z;cases z),d,r]
  have hKb:K.In (Iw s₁.heap H):=λb o e=>base_of (KX b o e) (by
   cases q:H b with
   |none=>rfl
   |some u=>
     rcases hA b (by rw[q];simp)with⟨z,_⟩|⟨p,hp,z⟩
     .subst z;rw[hK (by rw[q];simp)]at e;cases e
     .subst z
      rw[(hT p hp).2.2]at e;cases e)
  have hM:Mod K mg (Iw s₁.heap H):=#[hKb,nsK hns,#[mb,nsK hb,hbb],let⟨mc,h1,h2⟩:=hlim;#[mc,nsK h1,h2]];have e0:Gp P w K mg (Iw s₁.heap H) callerA [] s₁ H:=#[rfl,hM,λb o e=>VG e,Nat.le_of_eq (PJ _ _),trivial,λb hb=>absurd (show b∈([]:List Addr)from hb) (by simp),Ao,.of_eq hg]
  have hBl:∀p∈ts,(Iw s₁.heap H).BuiltinsAt mg p.2/\mainGlobals≠p.2:=λp hp=>by
   obtain⟨bm,ob,b1,b2,b3,b4,b5,b6⟩:=hbm;obtain⟨og,es,ep,g1,g2,_⟩:=hns;refine#[#[bm,ob,b1,b2,λz=>?_,λz=>?_,base_of b3 (noT b3 (λ_ z=>by rw[b6]at z;cases z) λ_ z=>by rw[b6]at z;cases z),b4,b5,b6],λz=>?_]
   .rw[z,g1]at b3;cases b3;rw[b6]at g2;cases g2
   .rw[z,(hT p hp).1]at b3;cases b3;cases b6
   .rw[z,(hT p hp).1]at g1;cases g1;cases g2
  refine codeAny_mono ((F _ hKb (nsK hns) hBl).run callerA [] s₁ H #[[.ref a],[]] [.ref a] [.ref a] (λv _=>v= .bl true) E0 hr e0 (hbind s₁ (.ref a)) (.cons rfl .nil) #[a,ns,rfl,hS,hln,hTb,λ_=>rfl]) λr s' h=>?_
  cases r with
  |error e=>obtain⟨_,_,_,_,_,_,_,_,_,_,_,_,_,_,q⟩:=h;exact False.elim q
  |ok fl =>
    cases fl with
    |next=>exact False.elim h
    |brk=>exact False.elim h
    |cont=>exact False.elim h
    |ret u =>
      obtain⟨v,H',os,bare,un,hok',r',q⟩:=h;have q':v= .bl true:=q;subst q';obtain rfl:u=Value.bool true:=r'
      have old:∀b o,s₁.heap.get? b=some o->asItWas s₁.heap s'.heap b o:=λb o e=>by
       cases q:H b with
       |none=>exact .inl (un.keep b o e q (by intro z;exact absurd (show b∈([]:List Addr)from z) (by simp)) (by simp))
       |some u=>
         rcases hA b (by rw[q];simp)with⟨_,ob,xs,z⟩|⟨p,hp,z⟩
         .have z2:=un.DK b ob _ z;obtain⟨e1,_⟩:=Ao b _ z;obtain⟨e2,_⟩:=hok' b _ z2;rw[e]at e1;cases e1;exact .inl e2
         .subst z;obtain⟨h1,h2,h3⟩:=hT p hp;rw[h1]at e;cases e;obtain⟨more,e2⟩:=un.Fj p.2 [].toArray (hTb p hp);have e3:s'.heap.get? p.2=some {cls:=.none,data:=.fields ([].toArray++more)}:=hok' p.2 _ e2;obtain⟨oc,vs',_,_,_,_,_,_,_,c1,c2,c3,c4,_⟩:=codeHd_of_K KX h2;exact .inr (.inl #[#[p.1,oc,vs',c1,c2,c3,c4],rfl,[].toArray,more,rfl,e3])
      refine#[rfl,#[old,λb o e=>?_],os,bare];rcases old b o e with z|⟨_,_,vs,more,_,z⟩|⟨_,_,⟨o',_,_,z,_⟩,_⟩
      .exact#[_,z]
      .exact#[_,z]
      .exact#[_,z]
 have tabOk:∀(H:Hp) p,p∈ts->BW P w H s₁.heap p.2 (.Jy [].toArray):=λH p hp=>(hT p hp).1
 by_cases hk:K.lookup a=none
 .refine core (λb=>if b∈ts.map (·.2)then some (.Jy [].toArray)else if b=a then some (.E4 {cls:=.type "list",data:=.seq vs.toArray} (.lst (ns.map V.int)))else none) ?_ (λb u z=>?_) (λp hp=>iP (mem_map_of_mem hp)) (λb hb=>?_) λ_=>hk
  .refine .inl #[{cls:=.type "list",data:=.seq vs.toArray},?_];refine(iN λz=>?_).trans (iP rfl);obtain⟨p,hp,e⟩:=mem_map.mp z;exact haT p hp e
  .by_cases hb:b∈ts.map (·.2)
   .have z':=(iP hb).symm.trans z;cases z';obtain⟨p,hp,e⟩:=mem_map.mp hb;rw[<-e];exact tabOk _ p hp
   .by_cases hba:b=a
    .have z':=((iN hb).trans (iP hba)).symm.trans z;cases z';subst hba;exact#[ha,by rw[lM];exact hl,vs,_,rv,ha]
    .have z':=((iN hb).trans (iN hba)).symm.trans z;cases z'
  .by_cases hbt:b∈ts.map (·.2)
   .obtain⟨p,hp,e⟩:=mem_map.mp hbt;exact .inr #[p,hp,e]
   .by_cases hba:b=a
    .refine .inl #[hba,_,_,(iN hbt).trans (iP hba)]
    .exact absurd ((iN hbt).trans (iN hba)) hb
 .obtain⟨o,hko⟩:∃o,K.lookup a=some o:=by
   cases q:K.lookup a with
   |none=>exact absurd q hk
   |some o=>exact#[o,rfl]
  have e:=KX a o hko;rw[ha]at e;cases e;refine core (λb=>if b∈ts.map (·.2)then some (.Jy [].toArray)else none) (.inr #[_,vs.toArray,_,hko,rfl,rfl,rfl,by rw[size_toArray,lenV];exact hl,by simpa using rv]) (λb u z=>?_) (λp hp=>iP (mem_map_of_mem hp)) (λb hb=>?_) λz=>?_
  .by_cases hb:b∈ts.map (·.2)
   .have z':=(iP hb).symm.trans z;cases z';obtain⟨p,hp,e⟩:=mem_map.mp hb;rw[<-e];exact tabOk _ p hp
   .have z':=(iN hb).symm.trans z;cases z'
  .by_cases hbt:b∈ts.map (·.2)
   .obtain⟨p,hp,e⟩:=mem_map.mp hbt;exact .inr #[p,hp,e]
   .exact absurd (iN hbt) hb
  .refine absurd (iN λy=>?_) z;obtain⟨p,hp,e⟩:=mem_map.mp y;exact haT p hp e
theorem walk{l:PySem.W.OpenLaw}{q:Program}{loose:List Str}{XP:(Str->Option Value)->Heap->Prop}{YP:World->Heap->Prop}{d:DefRec}{K:Params->PySem.W.Frag}(n:Nat)(k:Nat)(ts:List (Addr×Addr))(hn:l.most=some n)(hz:n<=sizeLine)(hdf:d.params.defaults=[])(hr:Bk k callerA)
 (hY:∀(w:World) (h:Heap),YP w h->(K w.params).In h)(hT:∀(w:World) (h:Heap),YP w h->∀p∈ts.map (·.2),h.get? p=some (tabObj [].toArray))
 (F:∀(w:World) (mg:Str->Option Value) (fa:Addr) (h:Heap),(K w.params).In h->h.Ns mainGlobals mg->mg d.name=some (.ref fa)->
   (∀p∈ts,codeHdIn (K w.params) p.1 p.2=true/\(K w.params).lookup p.2=none)/\
   ∃fd:FuncData,(∀(s:Shared) (u:Value),BindsTo s fd #[[u],[]] [("_law_script",u)])/\∀base:Heap,(K w.params).In base->base.Ns mainGlobals mg->(∀p∈ts,base.BuiltinsAt mg p.2/\mainGlobals≠p.2)->Dd l.prog w (K w.params) mg base (Xc.Eb l.prog w) k fa fd ["_law_script"] (Nu n ts (K w.params))):
 PySem.W.WalkO q loose XP YP l.row.toRowW d [] (λf vs=>PySem.call f vs):=by
 refine Att.LM hn hdf λw s₀ s₁ mg mb fa o pm cd doc a vs ns G xYY ho hd hcd hmg hobj hints hlen hg=>?_
 have KX:=hY w _ xYY;obtain⟨hC,fd,hb,hF⟩:=F w mg fa _ KX G.T.g hmg;exact Py KX G.T.g G.T.b G.T.builtins G.T.nolimit hg G.T.bmain (λp hp=>#[hT w _ xYY p.2 (mem_map_of_mem hp),hC p hp]) hobj hints (Nat.le_trans hlen hz) hlen hr hF hb
end Iv
abbrev _root_.sP(x:Iv.P):Option Iv.C:=some (.p x)
abbrev _root_.sL(x:List Iv.P):Option Iv.C:=some (.lst x)
namespace Lk52
open PySem L2 Iv PyProof.Rows
def bd(i:Nat):Stmt:=PySem.Challenge.pw_kinddeeds_k52_expressions_read.main.body.getD i (.Pass #[0,0,0,0])
noncomputable def Qb:List Stmt:=[bd 0,bd 10,bd 11,bd 16,bd 17,bd 18,bd 19,bd 20,bd 21,bd 22,bd 23,bd 24,bd 25,bd 26,bd 29,bd 30,bd 32,bd 33,bd 35,bd 36,bd 37,bd 38,bd 39,bd 40,bd 41,bd 42,bd 43,bd 44,bd 45,bd 46,bd 47,bd 48,bd 49,L2.inClass (bd 31) 0,L2.inClass (bd 31) 1,L2.inClass (bd 31) 2,L2.inClass (bd 31) 3,L2.inClass (bd 31) 4,L2.inClass (bd 31) 5,L2.inClass (bd 31) 6,L2.inClass (bd 31) 7,L2.inClass (bd 31) 8,L2.inClass (bd 31) 9,L2.inClass (bd 31) 10,L2.inClass (bd 31) 11,L2.inClass (bd 31) 12,L2.inClass (bd 31) 13,L2.inClass (bd 31) 14,L2.inClass (bd 31) 15,L2.inClass (bd 31) 16]
def st(i:Nat):Stmt:=Qb.getD i (.Pass #[0,0,0,0])
noncomputable def tf:List (Str×Nat):=[(("_wall":Str),0),(("is_name":Str),1),(("is_whole":Str),2),(("is_form_name":Str),3),(("is_number":Str),4),(("is_few":Str),5),(("is_few_of":Str),6),(("is_unlike_names":Str),7),(("is_one_to_four":Str),8),(("has_sort":Str),9),(("has_arm_form":Str),10),(("has_node_form":Str),11),(("node_parts":Str),12),(("is_expression":Str),13),(("is_letter":Str),14),(("is_figure":Str),15),(("reader_of":Str),16),(("read_expression":Str),17),(("_law_cell_at":Str),18),(("_law_names":Str),19),(("_law_forms":Str),20),(("_law_next":Str),21),(("_law_number":Str),22),(("_law_any":Str),23),(("_law_same":Str),24),(("_law_text":Str),25),(("_law_spoilt":Str),26),(("_law_is_name":Str),27),(("_law_is_form":Str),28),(("_law_is_arm":Str),29),(("_law_is_one":Str),30),(("_law_read":Str),31),(("law":Str),32)]
noncomputable def tc:List (Str×Nat):=[("DeedsError",0),("NoProgram",1),("Twice",2),("NoSuch",3),("NoWords",4),("Reader",5)]
noncomputable def tg:List (Str×Iv.P):=[("MOST_LETTERS",.int 8),("MOST_PARTS",.int 3),("MOST_NODES",.int 40),("MOST_ABOVE",.int 11),("MOST_FORMS",.int 4),("MOST_FIGURES",.int 60)]
noncomputable def tm:List ((Nat×Str)×Nat):=[((5,"__init__"),33),((5,"is_before"),34),((5,"takes"),35),((5,"must_take"),36),((5,"must_end"),37),((5,"take_all"),38),((5,"name"),39),((5,"form_name"),40),((5,"number"),41),((5,"few"),42),((5,"kind"),43),((5,"kinds"),44),((5,"expression"),45),((5,"number_below"),46),((5,"args_here"),47),((5,"case"),48),((5,"arm"),49)]
def tl:List (Nat×Str):=[(5,"text"),(5,"at")]
def mt:MT:=#[λc m=>tm.lookup (c%1000,m),λc f=>tl.contains (c%1000,f),true,λn=>decide (n<33)]
def gy:List (Nat×Nat):=[(47,50),(49,51)]
def aA(i:Nat):List (Pos×Nat×Fg):=((Og (st i)).flatMap lr).map λq=>(q.1,(gy.lookup i).getD 0,(lu q.2.1 q.2.2 tf tc tg).getD default)
def J1(i:Nat):Fg:=((aA i).map λq=>q.2.2).headD default
def G6(i:Nat):Pos:=((aA i).map λq=>q.1).headD #[0,0,0,0]
def As:List Fg:=(List.range 50).map (λi=>Iv.fnOf tf tc tg (aA i) (st i))++[J1 47,J1 49]
theorem gv:aA 47=[(G6 47,50,J1 47)]:=by kernel_rfl
theorem gQ:As[50]? =some (J1 47):=by kernel_rfl
theorem gu:aA 49=[(G6 49,51,J1 49)]:=by kernel_rfl
theorem gO:As[51]? =some (J1 49):=by kernel_rfl
noncomputable def WY(C:Addr)(bm:List Value):Bool:=bm.contains (.type "ValueError")&&bm.contains (.type "BaseException")&&!bm.contains (.type "AttributeError")&&!bm.contains (.type "NameError")&&Xc.RD (.ref C::bm)
noncomputable abbrev mw(nm q:Str)(c N:Addr)(bs bm:List Value)(hdct:Bool)(sn:List Str)(sub:List Value)(ab:Bool)(col:Option Bool)(dd:Option Addr)(k0 k1 k2 k3 k5:Option Value):Obj:=excClassObj nm q c N bs bm hdct sn sub ab col dd k0 k1 k2 k3 k5 "ValueError.__new__"
variable{bm:List Value}{k0 k1 k2 k3 k5:Option Value}
theorem Na{K:PySem.W.Frag}{nm:Str}{bs sub:List Value}{hdct ab:Bool}{sn:List Str}{col:Option Bool}{dd:Option Addr}(x1:List.lookup c K=some (mw nm q c N bs bm hdct sn sub ab col dd k0 k1 k2 k3 k5))(x2:WY c bm=true):(∀h:Heap,K.In h->Xc.Dv h c bm)/\Xc.IU K c=true:=by
 unfold WY at x2;rw[bA,bA,bA,bA]at x2;obtain⟨⟨⟨⟨y1,y2⟩,y3⟩,y4⟩,y5⟩:=x2;refine#[λh X=>#[#[_,_,_,_,_,_,_,_,_,_,_,_,_,_,_,X _ _ x1],y1,y2,by simpa using y3,by simpa using y4],?_];unfold Xc.IU clsIn;rw[x1];exact y5
theorem dM{K:PySem.W.Frag}{fd:FuncData}(xc:(∀h:Heap,K.In h->Xc.Dv h c bm)/\Xc.IU K c=true)(x3:keepIn K (.ref c)=true)(x4:findIn K (.ref c) "__init__"=some (some (.ref f)))(x5:isFn K (.ref f)=true)
 (x6:findIn K (.ref c) "__setattr__"=some (some (.builtin "object.__setattr__")))(x7:takerIn K c "place"=some none)(x8:hasDictIn K c=true)(x9:OC K "__init__" "DeedsError.__init__" (L2.inClass (bd 2) 0) f fd):∃f sf st fd,Xc.Xk K c f sf st fd:=by
 refine#[f,"self",L2.inClass (bd 2) 0,fd,#[bm,xc.1],x3,x4,x5,x6,xc.2,x7,x8,#[_,_,x9],#[by kernel_rfl,by kernel_rfl,by kernel_rfl,by decide +kernel,by kernel_rfl,by decide +kernel,by decide +kernel],x9.binds ?_,by kernel_rfl,by kernel_rfl,#[_,_,_,_,rfl],by decide,by decide,by decide];intro _ _ _ _ _ _ us hl;rcases us with _|⟨_,_|⟨_,_|_⟩⟩<;>first|rfl|cases hl
theorem MN{K:PySem.W.Frag}{C:Addr}(h:hasDictIn K n=true/\typeIn K (.ref n)=some (.type "type")/\subIn K (.ref C) (.ref n)=some false/\(C==n)=false):kitOne K (.ref C) (.ref n)=some false:=by
 obtain⟨h1,h2,h3,h4⟩:=h;unfold kitOne;rw[iN (by simpa using h4)];unfold kitCls;obtain⟨cd,hc,_⟩:=any_some h1;simp[hc,h2,h3]
theorem aD{K:PySem.W.Frag}{C:Addr}(h3:subIn K (.ref C) (.type "ValueError")=some true):kitOne K (.ref C) (.type "ValueError")=some true:=by
 unfold kitOne;rw[iN (by simp)];unfold kitCls;have:PySem.W.kitMeta "ValueError"=true:=by decide +kernel
 simp[this,h3]
theorem S1{K:PySem.W.Frag}(h1:kitOne K t a=some false)(h2:kitOne K t b=some false)(h3:kitOne K t c=some false):kitAny K t [a,b,c]=some false:=by
 simp[kitAny,h1,h2,h3]
structure Tp(K:PySem.W.Frag)(x:Str)(i:Nat)(f:Addr)(d:FuncData):Prop where
 a:nsIn K mainGlobals x=some (some (.ref f))
 l:OC K x x (st i) f d
structure Me(K:PySem.W.Frag)(c:Addr)(x q:Str)(i:Nat)(f:Addr)(d:FuncData):Prop where
 a:findIn K (.ref c) x=some (some (.ref f))
 l:OC K x q (st i) f d
 n:isFn K (.ref f)=true
variable{h:Heap}{mg:Str->Option Value}
theorem dX{K:PySem.W.Frag}{i:Nat}{d:FuncData}(X:K.In h)(G:h.Ns mainGlobals mg)(s:Tp K x i f d)(hl:i<50):mg x=some (.ref f)/\keepIn K (.ref f)=true/\i<50:=#[mg_of X G s.a,s.l.kp,hl]
theorem gk{K:PySem.W.Frag}{i:Nat}{d:FuncData}(z:Dv K c)(s:Me K c x q i f d)(hl:i<50):Dv K c/\(x≠Str.ofString "__init__"->Meth K c x f)/\i<50:=#[z,λ_=>#[s.a,s.n,s.l.kp],hl]
theorem all_mk{l:PySem.W.OpenLaw}{w:World}{K:PySem.W.Frag}{fa c_0 c_1 c_2 c_3 c_4 c_5:Addr}{d0 d1 d2 d3 d4 d5 d6 d7 d8 d9 d10 d11 d12 d13 d14 d15 d16 d17 d18 d19 d20 d21 d22 d23 d24 d25 d26 d27 d28 d29 d30 d31 d32 d33 d34 d35 d36 d37 d38 d39 d40 d41 d42 d43 d44 d45 d46 d47 d48 d49:FuncData}{cc47 cp47 cc49 cp49:Addr}{t0 t1 t2 t3 t4 t5:Tok}{fx Nx Ny:Addr}{nmx qx nmy qy:Str}{bsx bmx subx bsy bmy suby:List Value}{hdx abx hdy aby:Bool}{snx sny:List Str}{colx coly:Option Bool}{ddx ddy:Option Addr}{j0 j1 j2 j3 j5:Option Value}{dx:FuncData}(hne0:cp47≠cp49)(hlaw:∀ns:List Int,ns.length<=63->∃outs,Be As mt Ai 98 32 [.b (.ro (ns.map .int))]= .ok (.p (.bl true)) outs)(X:K.In h)(G:h.Ns mainGlobals mg)(hfa:mg "law"=some (.ref fa))
 (ac0:nsIn K mainGlobals "DeedsError"=some (some (.ref c_0)))
 (ac1:nsIn K mainGlobals "NoProgram"=some (some (.ref c_1)))
 (ac2:nsIn K mainGlobals "Twice"=some (some (.ref c_2)))
 (ac3:nsIn K mainGlobals "NoSuch"=some (some (.ref c_3)))
 (ac4:nsIn K mainGlobals "NoWords"=some (some (.ref c_4)))
 (ac5:nsIn K mainGlobals "Reader"=some (some (.ref c_5)))
 (s0:Tp K "_wall" 0 f0 d0)
 (s1:Tp K "is_name" 1 f1 d1)
 (s2:Tp K "is_whole" 2 f2 d2)
 (s3:Tp K "is_form_name" 3 f3 d3)
 (s4:Tp K "is_number" 4 f4 d4)
 (s5:Tp K "is_few" 5 f5 d5)
 (s6:Tp K "is_few_of" 6 f6 d6)
 (s7:Tp K "is_unlike_names" 7 f7 d7)
 (s8:Tp K "is_one_to_four" 8 f8 d8)
 (s9:Tp K "has_sort" 9 f9 d9)
 (s10:Tp K "has_arm_form" 10 mr d10)
 (s11:Tp K "has_node_form" 11 mq d11)
 (s12:Tp K "node_parts" 12 mn d12)
 (s13:Tp K "is_expression" 13 jL d13)
 (s14:Tp K "is_letter" 14 mj d14)
 (s15:Tp K "is_figure" 15 mi d15)
 (s16:Tp K "reader_of" 16 jK d16)
 (s17:Tp K "read_expression" 17 aV d17)
 (s18:Tp K "_law_cell_at" 18 mh d18)
 (s19:Tp K "_law_names" 19 mf d19)
 (s20:Tp K "_law_forms" 20 jJ d20)
 (s21:Tp K "_law_next" 21 jI d21)
 (s22:Tp K "_law_number" 22 me d22)
 (s23:Tp K "_law_any" 23 dB d23)
 (s24:Tp K "_law_same" 24 ma d24)
 (s25:Tp K "_law_text" 25 m9 d25)
 (s26:Tp K "_law_spoilt" 26 gV d26)
 (s27:Tp K "_law_is_name" 27 m8 d27)
 (s28:Tp K "_law_is_form" 28 m7 d28)
 (s29:Tp K "_law_is_arm" 29 m5 d29)
 (s30:Tp K "_law_is_one" 30 lZ d30)
 (s31:Tp K "_law_read" 31 lY d31)
 (s32:Tp K "law" 32 jG d32)
 (s33:Me K c_5 "__init__" "Reader.__init__" 33 lX d33)
 (s34:Me K c_5 "is_before" "Reader.is_before" 34 lW d34)
 (s35:Me K c_5 "takes" "Reader.takes" 35 jF d35)
 (s36:Me K c_5 "must_take" "Reader.must_take" 36 jE d36)
 (s37:Me K c_5 "must_end" "Reader.must_end" 37 jB d37)
 (s38:Me K c_5 "take_all" "Reader.take_all" 38 lV d38)
 (s39:Me K c_5 "name" "Reader.name" 39 lU d39)
 (s40:Me K c_5 "form_name" "Reader.form_name" 40 lT d40)
 (s41:Me K c_5 "number" "Reader.number" 41 gU d41)
 (s42:Me K c_5 "few" "Reader.few" 42 jz d42)
 (s43:Me K c_5 "kind" "Reader.kind" 43 nO d43)
 (s44:Me K c_5 "kinds" "Reader.kinds" 44 nN d44)
 (s45:Me K c_5 "expression" "Reader.expression" 45 jy d45)
 (s46:Me K c_5 "number_below" "Reader.number_below" 46 gS d46)
 (s47:Me K c_5 "args_here" "Reader.args_here" 47 lQ d47)
 (k47:d47.code= .ref cc47)(h47:codeHdIn K cc47 cp47=true)(u47:K.lookup cp47=none)
 (s48:Me K c_5 "case" "Reader.case" 48 aU d48)
 (s49:Me K c_5 "arm" "Reader.arm" 49 Yt d49)
 (k49:d49.code= .ref cc49)(h49:codeHdIn K cc49 cp49=true)(u49:K.lookup cp49=none)
 (x1:List.lookup c_4 K=some (mw nmx qx c_4 Nx bsx bmx hdx snx subx abx colx ddx k0 k1 k2 k3 k5))(x2:WY c_4 bmx=true)(x3:keepIn K (.ref c_4)=true)(x4:findIn K (.ref c_4) "__init__"=some (some (.ref fx)))(x5:isFn K (.ref fx)=true)
 (x6:findIn K (.ref c_4) "__setattr__"=some (some (.builtin "object.__setattr__")))(x7:takerIn K c_4 "place"=some none)(x8:hasDictIn K c_4=true)(x9:OC K "__init__" "DeedsError.__init__" (L2.inClass (bd 2) 0) fx dx)
 (w1:List.lookup c_0 K=some (mw nmy qy c_0 Ny bsy bmy hdy sny suby aby coly ddy j0 j1 j2 j3 j5))(w2:WY c_0 bmy=true)(w3:bmx.contains (.ref c_0)=true)
 (w4:findIn K (.ref c_4) "__getattribute__"=some (some (.builtin "BaseException.__getattribute__")))(w5:findIn K (.ref c_4) "__getattr__"=some none)(w6:mroIn K c_4 (.type "BaseException")=some true)(w7:findIn K (.ref c_4) "place"=some none)
 (w8:findIn K (.ref c_4) "__class__"=some (some (.builtin "object.__class__")))(w9:specialIn K (.builtin "object.__class__") "__get__"=some (some (.builtin "getset_descriptor.__get__")))(wa:takesIn K (.builtin "object.__class__")=some true)(wb:mroIn K c_4 (.type "object")=some true)(wc:subIn K (.ref c_4) (.type "ValueError")=some true)
 (v1:hasDictIn K c_1=true/\typeIn K (.ref c_1)=some (.type "type")/\subIn K (.ref c_4) (.ref c_1)=some false/\(c_4==c_1)=false)
 (v3:hasDictIn K c_3=true/\typeIn K (.ref c_3)=some (.type "type")/\subIn K (.ref c_4) (.ref c_3)=some false/\(c_4==c_3)=false)
 (v2:hasDictIn K c_2=true/\typeIn K (.ref c_2)=some (.type "type")/\subIn K (.ref c_4) (.ref c_2)=some false/\(c_4==c_2)=false)
 (cl5:Dv K c_5)(cm5:makesIn K c_5=true)(cp5:keepIn K (.ref c_5)=true)
 (e0:findIn K (.ref c_5) "text"=some none)
 (e1:findIn K (.ref c_5) "at"=some none)
 (z:Each (λx=>nsIn K mainGlobals x=some none) Kn)
 (y0:nsIn K mainGlobals "MOST_LETTERS"=some (some (.int 8 t0)))
 (y1:nsIn K mainGlobals "MOST_PARTS"=some (some (.int 3 t1)))
 (y2:nsIn K mainGlobals "MOST_NODES"=some (some (.int 40 t2)))
 (y3:nsIn K mainGlobals "MOST_ABOVE"=some (some (.int 11 t3)))
 (y4:nsIn K mainGlobals "MOST_FORMS"=some (some (.int 4 t4)))
 (y5:nsIn K mainGlobals "MOST_FIGURES"=some (some (.int 60 t5)))
 :(∀p∈([(cc47,cp47),(cc49,cp49)]:List (Addr×Addr)),codeHdIn K p.1 p.2=true/\K.lookup p.2=none)/\∃fd:FuncData,(∀(s:Shared) (v:Value),BindsTo s fd #[[v],[]] [("_law_script",v)])/\∀base:Heap,K.In base->base.Ns mainGlobals mg->(∀p∈([(cc47,cp47),(cc49,cp49)]:List (Addr×Addr)),base.BuiltinsAt mg p.2/\mainGlobals≠p.2)->Dd l.prog w K mg base (Xc.Eb l.prog w) 200 fa fd ["_law_script"] (Nu 63 [(cc47,cp47),(cc49,cp49)] K):=by
 refine#[λp hp=>by simp only[mem_cons,not_mem_nil,or_false]at hp;rcases hp with rfl|rfl<;>exact#[by assumption,by assumption],?_]
 have e:jG=fa:=by
  have e:=(mg_of X G s32.a).symm.trans hfa;injection e with e
  injection e
 subst e
 let fl:List Addr:=[f0,f1,f2,f3,f4,f5,f6,f7,f8,f9,mr,mq,mn,jL,mj,mi,jK,aV,mh,mf,jJ,jI,me,dB,ma,m9,gV,m8,m7,m5,lZ,lY,jG,lX,lW,jF,jE,jB,lV,lU,lT,gU,jz,nO,nN,jy,gS,lQ,aU,Yt]
 let cl:List Addr:=[c_0,c_1,c_2,c_3,c_4,c_5]
 let W₀:Wd:=#[K,w,λc=>cl.getD (c%1000) 0,λf=>fl.getD f 0,λ_=>false,0,[(cp47,G6 47,(Str.ofString "Reader.args_here"++(".<locals>.":Str))++("<lambda>":Str)),(cp49,G6 49,(Str.ofString "Reader.arm"++(".<locals>.":Str))++("<lambda>":Str))],[]]
 have hl47:∀lp q,(aA 47).lookup lp=some q->As[q.1]? =some q.2/\∃c P,d47.code= .ref c/\codeHdIn K c P=true/\(P,lp,(Str.ofString "Reader.args_here"++(".<locals>.":Str))++("<lambda>":Str))∈W₀.tabs:=by
  intro lp q hq;rw[gv,lookup_cons]at hq;cases hb:lp==G6 47 with
  |true=>
    rw[hb]at hq;cases hq;rw[eq_of_beq hb];exact#[gQ,cc47,cp47,k47,h47,by simp[W₀]]
  |false=>rw[hb]at hq;cases hq
 have hl49:∀lp q,(aA 49).lookup lp=some q->As[q.1]? =some q.2/\∃c P,d49.code= .ref c/\codeHdIn K c P=true/\(P,lp,(Str.ofString "Reader.arm"++(".<locals>.":Str))++("<lambda>":Str))∈W₀.tabs:=by
  intro lp q hq;rw[gu,lookup_cons]at hq;cases hb:lp==G6 49 with
  |true=>
    rw[hb]at hq;cases hq;rw[eq_of_beq hb];exact#[gO,cc49,cp49,k49,h49,by simp[W₀]]
  |false=>rw[hb]at hq;cases hq
 have D0:∀f,∃fd:FuncData,∀fi,f<50->As[f]? =some fi->Il K W₀ tg tf tc As f fi fd ((Qb.map EI).getD f []):=by
  intro f;rcases f with _|_|_|_|_|_|_|_|_|_|_|_|_|_|_|_|_|_|_|_|_|_|_|_|_|_|_|_|_|_|_|_|_|_|_|_|_|_|_|_|_|_|_|_|_|_|_|_|_|_|f
  all_goals first
   |(exact#[d0,λfi h=>absurd h (by omega)])
   | (apply Exists.intro
      intro fi hlt h;cases h;refine WB (W:=W₀) (by first|exact Tp.l (by assumption)|exact Me.l (by assumption)) #[by kernel_rfl,by kernel_rfl,by kernel_rfl,by decide +kernel,by kernel_rfl,by decide +kernel,by decide +kernel] (by kernel_rfl) ?_ rfl rfl ?_
      .intro _ _ _ _ _ _ us hl;rcases us with _|⟨_,_|⟨_,_|⟨_,_|⟨_,_|_⟩⟩⟩⟩<;>first|rfl|cases hl
      .first
       |exact hl47|exact hl49
       |(intro lp q hq;exact absurd (show(none:Option (Nat×Fg))=some q from hq) nofun))
 obtain⟨FD,D⟩:=Classical.skolem.mp D0
 have eL:FD 32=d32:=by
  obtain⟨x,qual,st,ct,F,_⟩:=(D 32 _ (by omega) rfl).ex;obtain⟨_,_,_,_,_,_,_,_,_,_,lk,_⟩:=F.ex;obtain⟨_,_,_,_,_,_,_,_,_,_,lk2,_⟩:=s32.l.ex;have lk:=lk.symm.trans lk2;injection lk with lk
  injection lk with _ _ lk _
  injection lk with lk
 have Gb:dJ K mg W₀ mt 50 tg tf tc:=by
  refine#[rfl,λx p h=>?g1,λx hx _ _ _=>PySem.W.mg_none_of X G (z.mem x hx),λx f h=>?g3,λx c h=>?g4,λc m f h=>?g5,λc f h=>?g6,λc h=>?xk,λc cd n1 n2 n3 h1 h2 h3 h4 h5=>?xh,λi h=>?g7,λx p h=>?g8]
  case xk=>cases (show some 4=some c from h);exact dM (Na x1 x2) x3 x4 x5 x6 x7 x8 x9
  case xh=>
   cases (show some 4=some c from h1);cases (show some 0=some cd from h2);cases (show some 1=some n1 from h3);cases (show some 3=some n2 from h4);cases (show some 2=some n3 from h5);exact#[bmx,bmy,(Na x1 x2).1,(Na w1 w2).1,w3,#[w4,w5,w6],x8,w7,w8,w9,wa,wb,aD wc,S1 (MN v1) (MN v3) (MN v2)]
  case g7=>
   have h:i<33:=of_decide_eq_true h;have ha:(List.range 33).all (λi=>tf.lookup (tf.getD i ("",0)).1==some i)=true:=by kernel_rfl
   exact#[_,eq_of_beq (all_eq_true.mp ha i (mem_range.mpr h))]
  case g8=>refine Each.look (l:=tg) (R:=λq:Str×Iv.P=>BX q.2=true) ?_ h;unfold tg;exact(.cons rfl (.cons rfl (.cons rfl (.cons rfl (.cons rfl (.cons rfl .nil))))))
  case g1=>refine Each.look (l:=tg) (R:=λq:Str×Iv.P=>∃u v,mg q.1=some u/\RelV v u/\∀H,AH _ H q.2 v) ?_ h;unfold tg;exact(.cons #[_,.int 8,mg_of X G y0,#[_,rfl],λH=>Ak.mpr rfl] (.cons #[_,.int 3,mg_of X G y1,#[_,rfl],λH=>Ak.mpr rfl] (.cons #[_,.int 40,mg_of X G y2,#[_,rfl],λH=>Ak.mpr rfl] (.cons #[_,.int 11,mg_of X G y3,#[_,rfl],λH=>Ak.mpr rfl] (.cons #[_,.int 4,mg_of X G y4,#[_,rfl],λH=>Ak.mpr rfl] (.cons #[_,.int 60,mg_of X G y5,#[_,rfl],λH=>Ak.mpr rfl] .nil))))))
  case g3=>refine Each.look (l:=tf) (R:=λq:Str×Nat=>mg q.1=some (.ref (fl.getD q.2 0))/\keepIn K (.ref (fl.getD q.2 0))=true/\q.2<50) ?_ h;unfold tf;repeat first|exact .nil|refine .cons (dX X G (by assumption) (by decide)) ?_
  case g4=>refine Each.look (l:=tc) (R:=λq:Str×Nat=>mg q.1=some (.ref (cl.getD (q.2%1000) 0))/\∀f,mt.m q.2 (Str.ofString "__init__")=some f->Mk K (cl.getD (q.2%1000) 0) (fl.getD f 0)) ?_ h;unfold tc;exact(.cons #[mg_of X G ac0,λf h=>absurd (show(none:Option Nat)=some f from h) nofun] (.cons #[mg_of X G ac1,λf h=>absurd (show(none:Option Nat)=some f from h) nofun] (.cons #[mg_of X G ac2,λf h=>absurd (show(none:Option Nat)=some f from h) nofun] (.cons #[mg_of X G ac3,λf h=>absurd (show(none:Option Nat)=some f from h) nofun] (.cons #[mg_of X G ac4,λf h=>absurd (show(none:Option Nat)=some f from h) nofun] (.cons #[mg_of X G ac5,λf h=>by cases (show some 33=some f from h);exact#[cm5,s33.a,s33.n,cp5]] .nil))))))
  case g5=>refine Each.look (l:=tm) (R:=λq:(Nat×Str)×Nat=>Dv K (cl.getD q.1.1 0)/\(q.1.2≠Str.ofString "__init__"->Meth K (cl.getD q.1.1 0) q.1.2 (fl.getD q.2 0))/\q.2<50) ?_ (show tm.lookup (c%1000,m)=some f from h);unfold tm;repeat first|exact .nil|refine .cons (gk (by assumption) (by assumption) (by decide)) ?_
  case g6=>refine Each.mem (l:=tl) (R:=λq:Nat×Str=>BN K (cl.getD q.1 0) q.2) ?_ (c%1000,f) (by simpa using(show tl.contains (c%1000,f)=true from h));unfold tl;exact(.cons e0 (.cons e1 .nil))
 refine#[FD 32,λs v=>?b,λbase _ _ hB=>((Sx (P:=l.prog) (w:=w) (mg:=mg) (W0:=W₀) rfl Gb (by decide) (by decide) ?ndt (λc=>?tagc) D 98 W₀ base #[#[rfl,rfl,rfl,rfl,λ_ _=>rfl],λn h1 h2=>(by cases h2),λq hq=>?blt]).1 32 (by decide)).1.imp λvs H Q E z=>VY rfl ?tabs rfl hlaw vs H Q E z]
 case ndt=>
  show([cp47,cp49]:List Addr).Nodup;simpa using hne0
 case tagc=>show cl.getD (tag c%1000) 0=cl.getD (c%1000) 0;unfold tag;split<;>simp[Nat.add_mod]
 case blt=>
  simp only[W₀,mem_cons,not_mem_nil,or_false]at hq;rcases hq with rfl|rfl
  all_goals first
   |exact hB (cc47,cp47) (by simp)
   |exact hB (cc49,cp49) (by simp)
 case tabs=>
  intro q hq;simp only[W₀,mem_cons,not_mem_nil,or_false]at hq;rcases hq with rfl|rfl
  all_goals first
   |exact#[(cc47,cp47),by simp,rfl]
   |exact#[(cc49,cp49),by simp,rfl]
 case b=>
  obtain⟨_,_,_,_,_,_,_,_,_,ed,_⟩:=s32.l.ex;rw[eL,ed];exact .of_eq rfl
end Lk52
namespace Iv
theorem BQ(c:Env->Res Bool)(b:Env->Res Fl)(U:Env):Ai c b U=(c U).bind λx U=>if x then(b U).bind λf U=>match f with
 |.nx=>Ai c b U
 |.cnt=>Ai c b U
 |.brk=>.ok .nx U
 |.ret r=>.ok (.ret r) U
 else .ok .nx U:=by
 have up:∀n,Ap c b (n+1) U≠.A2->Ai c b U=Ap c b (n+1) U:=λn h=>Qj h
 have dn:∀{n U'},Ap c b n U'≠.A2->Ai c b U'=Ap c b n U':=λh=>Qj h
 have st:∀U',Ai c b U'= .A2->∀n,Ap c b n U'= .A2:=λU' h n=>by
  by_cases hn:Ap c b n U'= .A2
  .exact hn
  .rw[dn hn]at h;exact absurd h hn
 by_cases hex:∃n,Ap c b n U≠.A2
 .obtain⟨n,hn⟩:=hex;have hn1:Ap c b (n+1) U≠.A2:=by rw[CZ n U hn];exact hn
  rw[up n hn1,AX];rw[AX]at hn1;cases ec:c U with
  |A2=>rfl
  |err x p U'=>rfl
  |ok x U1=>
    rw[ec,Res.A5]at hn1;rw[Res.A5,Res.A5];cases x with
    |false=>rfl
    |true=>
      rw[iP rfl]at hn1;rw[iP rfl,iP rfl];cases eb:b U1 with
      |A2=>rfl
      |err x p U'=>rfl
      |ok f U2=>
        rw[eb,Res.A5]at hn1;rw[Res.A5,Res.A5];cases f with
        |nx=>exact(dn hn1).symm
        |cnt=>exact(dn hn1).symm
        |brk=>rfl
        |ret r=>rfl
 .have hs : ∀n,Ap c b n U= .A2:=λn=>by
   by_cases hn:Ap c b n U= .A2
   .exact hn
   .exact absurd #[n,hn] hex
  have hw:Ai c b U= .A2:=by
   by_cases hw:Ai c b U= .A2
   .exact hw
   .obtain⟨n,hn⟩:=Jt hw;rw[<-hn];exact hs n
  rw[hw];cases ec:c U with
  |A2=>rfl
  |err x p U'=>
    have:=hs 1;rw[AX,ec]at this;cases this
  |ok x U1 =>
    rw[Res.A5];cases x with
    |false=>
      have:=hs 1;rw[AX,ec]at this;cases this
    |true=>
      rw[iP rfl];cases eb:b U1 with
      |A2=>rfl
      |err x p U'=>
        have:=hs 1;rw[AX,ec,Res.A5,iP rfl,eb]at this;cases this
      |ok f U2=>
        rw[Res.A5];have hf:=λn=>hs (n+1)
        simp only[AX,ec,Res.A5,iP rfl,eb]at hf
        have again:(∀n,Ap c b n U2= .A2)->Ai c b U2= .A2:=λh=>by
         by_cases hw:Ai c b U2= .A2
         .exact hw
         .obtain⟨n,hn⟩:=Jt hw;rw[<-hn];exact h n
        cases f with
        |nx=>exact(again hf).symm
        |cnt=>exact(again hf).symm
        |brk=>exact absurd (hf 0) nofun
        |ret r=>exact absurd (hf 0) nofun
variable{wh:WH}{fi:Fg}{args:List C}
theorem T3{As:List Fg}{mt:MT}{k f:Nat}(hf:As[f]? =some fi)(hl:args.length=fi.np)(e:execs (Be As mt wh k) mt wh fi.body (args.map some++List.replicate (fi.nl-fi.np) none)= .ok (.ret c) U):
 Be As mt wh (k+1) f args= .ok c (CM fi U):=by
 show(match As[f]? with|some fi=>Dx (Be As mt wh k) mt wh fi args|none=>.A2)=_;rw[hf];show Dx (Be As mt wh k) mt wh fi args=_;unfold Dx;rw[iP hl,e]
theorem WQ{As:List Fg}{mt:MT}{k f:Nat}(hf:As[f]? =some fi)(hl:args.length=fi.np)(e:execs (Be As mt wh k) mt wh fi.body (args.map some++List.replicate (fi.nl-fi.np) none)= .ok .nx U):
 Be As mt wh (k+1) f args= .ok (.p .Az) (CM fi U):=by
 show(match As[f]? with|some fi=>Dx (Be As mt wh k) mt wh fi args|none=>.A2)=_;rw[hf];show Dx (Be As mt wh k) mt wh fi args=_;unfold Dx;rw[iP hl,e]
end Iv
namespace Iv
open PySem
variable{cf:CF}{mt:MT}
theorem Wh(i:Nat)(v:Env->Res C)(U:Env):BP (.A3 i) v U=if(A8 U i).isSome then .ok (.A4 i) U else .A2:=rfl
theorem Sj(i:Nat)(f:Str)(v:Env->Res C)(U:Env):BP (.Aw i f) v U=if(BD U i f).isSome then .ok (.Aw i f) U else .A2:=rfl
theorem kj(i:Nat)(U:Env):tv cf mt (.A3 i) U=match A8 U i with|some c=>Res.of (Cz c) U|none=>.A2:=by
 have:tv cf mt (.A3 i) U=(BP (.A3 i) (ev cf mt (.A3 i)) U).bind λh U=>Res.of ((h.cont U).bind Cz) U:=by show(den cf mt (.A3 i)).b U=_;rfl
 rw[this,Wh];cases hg:A8 U i with
 |none=>rfl
 |some c=>
   show Res.of ((A8 U i).bind Cz) U=_;rw[hg];rfl
theorem dz{a:Option C}{r:Env}:A8 (a::r) 0=a:=rfl
theorem dy{a b:Option C}{r:Env}:A8 (a::b::r) 1=b:=rfl
theorem nM{a b c:Option C}{r:Env}:A8 (a::b::c::r) 2=c:=rfl
theorem oz{a b c d:Option C}{r:Env}:A8 (a::b::c::d::r) 3=d:=rfl
theorem oy{a b c d e:Option C}{r:Env}:A8 (a::b::c::d::e::r) 4=e:=rfl
theorem ow{a b c d e f:Option C}{r:Env}:A8 (a::b::c::d::e::f::r) 5=f:=rfl
theorem ou{a b c d e f g:Option C}{r:Env}:A8 (a::b::c::d::e::f::g::r) 6=g:=rfl
theorem oq{a b c d e f g h:Option C}{r:Env}:A8 (a::b::c::d::e::f::g::h::r) 7=h:=rfl
theorem om{a b c d e f g h i:Option C}{r:Env}:A8 (a::b::c::d::e::f::g::h::i::r) 8=i:=rfl
theorem oj{a b c d e f g h i j:Option C}{r:Env}:A8 (a::b::c::d::e::f::g::h::i::j::r) 9=j:=rfl
def jS(cf:CF)(mt:MT)(ss:List S)(r:Res Fl):Res Fl:=r.bind λf U=>match f with
    |.nx=>execs cf mt Ai ss U
    |f=>.ok f U
noncomputable def lI(i:Nat)(r:Res C):Res Fl:=r.bind λc U=>.ok .nx (U.set i (some c))
def lH(r:Res C):Res Fl:=r.bind λ_ U=>.ok .nx U
def lD(r:Res C):Res Fl:=r.bind λc U=>.ok (.ret c) U
def ju(cf:CF)(mt:MT)(a b:List S)(r:Res Bool):Res Fl:=r.bind λx U=>if x then execs cf mt Ai a U else execs cf mt Ai b U
def nL(o:O)(b:Bool)(r:Res (List Hd)):Res C:=if b then r.bind λhs U=>Res.of ((Ag U hs).bind (Ax o)) U else .A2
def jH(r:Res C):Res Hd:=r.bind λc U=>.ok (.AN c) U
def jr(r:Res C):Res Bool:=(jH r).bind λh U=>Res.of ((h.cont U).bind Cz) U
def lG(i:Nat)(U:Env)(o:Option C):Res Hd:=if o.isSome then .ok (.A4 i) U else .A2
noncomputable def jV(i:Nat)(U:Env)(o:Option C):Res C:=match o with
    |some c=>if c.cp then .ok c U else .ok c (U.set i none)
    |none=>.A2
def nK(i:Nat)(U:Env)(o:Option C):Res Bool:=(lG i U o).bind λh U=>Res.of ((h.cont U).bind Cz) U
def jA(cf:CF)(mt:MT)(ts:List T)(r:Res Hd):Res (List Hd):=r.bind λh U=>match h with
    |.Aw i f=>if ts.all T.calm then(Ae cf mt ts U).bind λhs U=>.ok (.Aw i f::hs) U else .A2
    |h=>(Ae cf mt ts U).bind λhs U=>.ok (h::hs) U
def jv(h:Hd)(r:Res (List Hd)):Res (List Hd):=r.bind λhs U=>.ok (h::hs) U
def jD(cf:CF)(mt:MT)(ts:List T)(r:Res C):Res (List P):=r.bind λc U=>Ol c (Cf cf mt ts) U
def Ux(x:P)(r:Res (List P)):Res (List P):=r.bind λxs U=>.ok (x::xs) U
def W4(r:Res (List P)):Res C:=r.bind λps U=>.ok (.p (.tup ps)) U
def jt(r:Res (List P)):Res C:=r.bind λps U=>.ok (.lst ps) U
def aL(cf:CF)(mt:MT)(b:T)(r:Res Bool):Res Bool:=r.bind λc U=>if c then tv cf mt b U else .ok false U
def lE(cf:CF)(mt:MT)(b:T)(r:Res Bool):Res Bool:=r.bind λc U=>if c then .ok true U else tv cf mt b U
def gB(r:Res Bool):Res Bool:=r.bind λb U=>.ok (!b) U
def S7(cf:CF)(mt:MT)(b:T)(r:Res C):Res C:=r.bind λc U=>C7 c (ev cf mt b) U
def aK(cf:CF)(mt:MT)(b:T)(r:Res C):Res C:=r.bind λc U=>ZM c (ev cf mt b) U
def Ym(r:Res C):Res C:=r.bind λc U=>Pe c U
noncomputable def lF(m:MO)(h:Hd)(a b c:Bool)(r:Res (List Hd)):Res C:=if a&&b&&c then r.bind λhs U=>JV m h hs U else .A2
noncomputable def gC(i:Nat)(U:Env)(o:Option (C×B)):Res C:=match o with
    |some (c,b')=>(Res.of (setB U (.A4 i) b') U).bind λU' _=>.ok c U'
    |none=>.A2
noncomputable def jM(m:MO)(h:Hd)(hs:List Hd)(U:Env)(x:Option C)(y:Option (List C)):Res C:=match x,y with
 | some (.b b),some cs=>if(BY (h::hs) (.b b::cs)).Nodup then match Fp m b cs with
   |some (c,b')=>(Res.of (setB U h b') U).bind λU' _=>.ok c U'
   |none=>.A2
   else .A2
 |_,_=>.A2
def jC(r:Option (List C))(o:Option C):Option (List C):=o.bind λc=>r.map (c::·)
variable{ss:List S}
theorem AJ{s:S}:execs cf mt Ai (s::ss) U=jS cf mt ss (exec cf mt Ai s U):=rfl
theorem Xl :execs cf mt Ai [] U= .ok .nx U:=rfl
theorem Hb:jS cf mt ss (.ok .nx U)=execs cf mt Ai ss U:=rfl
theorem U4:jS cf mt ss (.ok (.ret c) U)= .ok (.ret c) U:=rfl
theorem U6:jS cf mt ss (.ok .brk U)= .ok .brk U:=rfl
theorem U5:jS cf mt ss (.ok .cnt U)= .ok .cnt U:=rfl
theorem Kv{i:Nat} :exec cf mt Ai (.asg (.nm i) t) U=lI i (ev cf mt t U):=rfl
variable{U:Env}
theorem Uh{i:Nat}:lI i (.ok c U)= .ok .nx (U.set i (some c)):=rfl
theorem Ii :exec cf mt Ai (.expr t) U=lH (ev cf mt t U):=rfl
theorem Ue :lH (.ok c U)= .ok .nx U:=rfl
theorem TU :exec cf mt Ai (.ret none) U= .ok (.ret (.p .Az)) U:=rfl
theorem OA :exec cf mt Ai (.ret (some t)) U=lD (ev cf mt t U):=rfl
theorem U7 :lD (.ok c U)= .ok (.ret c) U:=rfl
theorem Ku :exec cf mt Ai (.ifs c a b) U=ju cf mt a b (tv cf mt c U):=rfl
theorem Xp :ju cf mt a b (.ok true U)=execs cf mt Ai a U:=rfl
theorem Xq :ju cf mt a b (.ok false U)=execs cf mt Ai b U:=rfl
theorem TX :exec cf mt Ai .pass U= .ok .nx U:=rfl
theorem OB{i:Nat} :ev cf mt (.A3 i) U=jV i U (A8 U i):=rfl
theorem cL{i:Nat} :jV i U (some (.b (.p x)))= .ok (.p x) U:=rfl
theorem cM{i:Nat}:jV i U (some (.b (.lst x)))= .ok (.lst x) (U.set i none):=rfl
theorem cK{i:Nat} :jV i U (some (.b (.ro x)))= .ok (.b (.ro x)) U:=rfl
theorem cN{i:Nat}{c:C}:jV i U (some c)=if c.cp then .ok c U else .ok c (U.set i none):=rfl
theorem Hf :ev cf mt (.An p) U= .ok (.p p) U:=rfl
variable{ts:List T}
theorem Du{o:O}:ev cf mt (.A0 o ts) U=nL o o.ok (Ae cf mt ts U):=rfl
variable{hs:List Hd}
theorem U8:nL o true (.ok hs U)=Res.of ((Ag U hs).bind (Ax o)) U:=rfl
theorem cZ:tv cf mt (.A0 o ts) U=jr (ev cf mt (.A0 o ts) U):=rfl
theorem TY :jr (.ok c U)=Res.of (Cz c) U:=rfl
theorem Uo{i:Nat} :tv cf mt (.A3 i) U=nK i U (A8 U i):=rfl
theorem Xm{i:Nat} :nK i U (some c)=Res.of ((A8 U i).bind Cz) U:=rfl
theorem Hc{i:Nat} :lG i U (some c)= .ok (.A4 i) U:=rfl
theorem He{i:Nat}{v:Env->Res C} :BP (.A3 i) v U=lG i U (A8 U i):=rfl
theorem Xx{v:Env->Res C} :BP (.An p) v U=jH (v U):=rfl
theorem LV{v:Env->Res C} :BP (.A0 o ts) v U=jH (v U):=rfl
theorem Xt{v:Env->Res C} :BP (.tup ts) v U=jH (v U):=rfl
theorem Xv{v:Env->Res C} :BP (.lst ts) v U=jH (v U):=rfl
theorem Ea{f:Nat}{v:Env->Res C} :BP (.call f ts) v U=jH (v U):=rfl
theorem Ul{v:Env->Res C} :BP (.Al f o ts) v U=jH (v U):=rfl
theorem Xu{m:MO}{v:Env->Res C} :BP (.Ey m o ts) v U=jH (v U):=rfl
theorem Dt{k:IK}{its cond:List T}{elt:T}{fr:List (Option Nat)}{v:Env->Res C} :BP (.comp g k its cond elt fr) v U=jH (v U):=rfl
theorem Xr :jH (.ok c U)= .ok (.AN c) U:=rfl
theorem XD :Ae cf mt [] U= .ok [] U:=rfl
theorem Bb{t:T}:Ae cf mt (t::ts) U=jA cf mt ts (BP t (ev cf mt t) U):=rfl
theorem Kw{i:Nat}:jA cf mt ts (.ok (.A4 i) U)=jv (.A4 i) (Ae cf mt ts U):=rfl
theorem cU:jA cf mt ts (.ok (.AN c) U)=jv (.AN c) (Ae cf mt ts U):=rfl
theorem cV{i:Nat}:jA cf mt ts (.ok (.Aw i f) U)=if ts.all T.calm then jv (.Aw i f) (Ae cf mt ts U)else .A2:=rfl
theorem Uk:jv h (.ok hs U)= .ok (h::hs) U:=rfl
theorem CU{t:T}:Cf cf mt (t::ts) U=jD cf mt ts (ev cf mt t U):=rfl
theorem Xs:jD cf mt ts (.ok (.b (.p x)) U)=Ux x (Cf cf mt ts U):=rfl
theorem Ug{xs:List P} :Ux x (.ok xs U)= .ok (x::xs) U:=rfl
theorem Up{a:T} :ev cf mt (.tup [a]) U=W4 (Cf cf mt [a] U):=rfl
theorem LW{a b:T} :ev cf mt (.tup [a,b]) U=W4 (Cf cf mt [a,b] U):=rfl
theorem Us :ev cf mt (.lst []) U= .ok (.lst []) U:=rfl
theorem Ik{a:T} :ev cf mt (.lst [a]) U=jt (Cf cf mt [a] U):=rfl
theorem Ur{a b:T} :ev cf mt (.lst [a,b]) U=jt (Cf cf mt [a,b] U):=rfl
theorem TZ{xs:List P} :W4 (.ok xs U)= .ok (.p (.tup xs)) U:=rfl
theorem Ud{xs:List P} :jt (.ok xs U)= .ok (.lst xs) U:=rfl
theorem Xj :tv cf mt (.and a b) U=aL cf mt b (tv cf mt a U):=rfl
theorem cJ :tv cf mt (.or a b) U=lE cf mt b (tv cf mt a U):=rfl
theorem Oz :tv cf mt (.not a) U=gB (tv cf mt a U):=rfl
theorem XB :ev cf mt (.and a b) U=S7 cf mt b (ev cf mt a U):=rfl
theorem da :ev cf mt (.or a b) U=aK cf mt b (ev cf mt a U):=rfl
theorem Xy :ev cf mt (.not a) U=Ym (ev cf mt a U):=rfl
theorem Ui :aL cf mt b (.ok true U)=tv cf mt b U:=rfl
theorem Uj :aL cf mt b (.ok false U)= .ok false U:=rfl
theorem Xn :lE cf mt b (.ok true U)= .ok true U:=rfl
theorem Xo :lE cf mt b (.ok false U)=tv cf mt b U:=rfl
theorem Q3{b:Bool} :gB (.ok b U)= .ok (!b) U:=rfl
theorem Q4 :S7 cf mt b (.ok (.b (.p (.bl true))) U)=ev cf mt b U:=rfl
theorem Q5 :S7 cf mt b (.ok (.b (.p (.bl false))) U)= .ok (.p (.bl false)) U:=rfl
theorem U9 :aK cf mt b (.ok (.b (.p (.bl true))) U)= .ok (.p (.bl true)) U:=rfl
theorem Ua :aK cf mt b (.ok (.b (.p (.bl false))) U)=ev cf mt b U:=rfl
theorem Nh{b:Bool} :Ym (.ok (.b (.p (.bl b))) U)= .ok (.p (.bl (!b))) U:=rfl
theorem Xz{m:MO}{i:Nat}:ev cf mt (.Ey m (.A3 i) ts) U=lF m (.A4 i) m.ok (Yn (A8 U i)) true (Ae cf mt ts U):=rfl
theorem Ub{m:MO}{h:Hd}:lF m h true true true (.ok hs U)=jM m h hs U (h.cont U) (Ag U hs):=rfl
theorem cR{m:MO}{i:Nat} :jM m (.A4 i) [] U (some (.b (.lst l))) (some [])=gC i U (Fp m (.lst l) []):=rfl
theorem cO{m:MO}{i:Nat} :jM m (.A4 i) [.AN d] U (some (.b (.lst l))) (some [.b (.p x)])=gC i U (Fp m (.lst l) [.p x]):=rfl
theorem cQ{m:MO}{i:Nat} :jM m (.A4 i) [.AN d] U (some (.b (.lst l))) (some [.b (.lst x)])=gC i U (Fp m (.lst l) [.lst x]):=rfl
theorem cP{m:MO}{i j:Nat} :jM m (.A4 i) [.A4 j] U (some (.b (.lst l))) (some [.b (.p x)])=gC i U (Fp m (.lst l) [.p x]):=rfl
theorem Uc{i:Nat}{c:C}{b:B}:gC i U (some (c,b))= .ok c (U.set i (some (.b b))):=rfl
theorem Ut{h:Hd}:Ag U (h::hs)=jC (Ag U hs) (h.cont U):=rfl
theorem XC :Ag U []=some []:=rfl
variable{cs:List C}
theorem cS:jC (some cs) (some c)=some (c::cs):=rfl
theorem cX{i:Nat}:(Hd.A4 i).cont U=A8 U i:=rfl
theorem cW :(Hd.AN c).cont U=some c:=rfl
theorem cY{i:Nat} :(Hd.Aw i f).cont U=BD U i f:=rfl
theorem Xh{b:Bool}:Cz (.b (.p (.bl b)))=some b:=rfl
theorem Xg{l:List P}:Cz (.b (.lst l))=some (!l.isEmpty):=rfl
theorem Xi:tv cf mt (.Al m o ts) U=jr (ev cf mt (.Al m o ts) U):=rfl
theorem j9{f:Nat}:tv cf mt (.call f ts) U=jr (ev cf mt (.call f ts) U):=rfl
theorem Xw{i:Nat}{v:Env->Res C} :BP (.Aw i f) v U=if(BD U i f).isSome then .ok (.Aw i f) U else .A2:=rfl
theorem XA{i:Nat} :ev cf mt (.Aw i f) U=match BD U i f with|some c=>if c.cp then .ok c U else .A2|none=>.A2:=rfl
theorem TR{i:Nat} :exec cf mt Ai (.Hr i f v) U=(ev cf mt v U).bind λv U=>IH mt i f v U:=rfl
theorem Kt :exec cf mt Ai (.M3 c b) U=Ai (tv cf mt c) (execs cf mt Ai b) U:=rfl
theorem Ij{a b c:T} :ev cf mt (.tup [a,b,c]) U=W4 (Cf cf mt [a,b,c] U):=rfl
theorem Uq{a b c d:T} :ev cf mt (.lst [a,b,c,d]) U=jt (Cf cf mt [a,b,c,d] U):=rfl
theorem LX{i:Nat}:ev cf mt (.Fc i ts) U=match A8 U i with
 |some (.b (.p (.fn n)))=>if mt.tf n then(Ae cf mt ts U).bind λhs U=>AK cf n hs U else .A2
 |_=>.A2:=rfl
theorem Um{i:Nat}{v:Env->Res C} :BP (.Fc i ts) v U=jH (v U):=rfl
theorem Q6{i:Nat}{v:Env->Res C} :BP (.Cy i) v U=jH (v U):=rfl
theorem Bs{f:Nat}:ev cf mt (.call f ts) U=(Ae cf mt ts U).bind λhs U=>AK cf f hs U:=rfl
theorem fj{a b:C}:Ax .add [a,b]=LS a b:=rfl
theorem Zn :LS (.b (.p (.int i))) (.b (.p (.int j)))=some (.p (.int (i+j))):=rfl
theorem Za :Ax .sub [.b (.p (.int i)),.b (.p (.int j))]=some (.p (.int (i-j))):=rfl
theorem eU{a b:C}:Ax .mul [a,b]=mulC a b:=rfl
theorem Zg :Ax .mod [.b (.p (.int i)),.b (.p (.int j))]=(Pp i j).map λk=>.p (.int k):=rfl
theorem V9 :Ax .fdiv [.b (.p (.int i)),.b (.p (.int j))]=(Jc i j).map λk=>.p (.int k):=rfl
theorem eR{a b:C}:Ax .pow [a,b]=E1 P5 a b:=rfl
theorem Zf :Ax .neg [.b (.p (.int i))]=some (.p (.int (-i))):=rfl
theorem Vb{a b c:C}:Ax (.chain o1 o2) [a,b,c]=C5 o1 o2 a b c:=rfl
theorem fc{a b:C}:Ax .idx [a,b]=CP a b:=rfl
theorem Zc{a:C} :Ax (.Cm false true) [a,.b (.p (.int j))]=CI a none (some j):=rfl
theorem Zb{a:C} :Ax (.Cm true false) [a,.b (.p (.int j))]=CI a (some j) none:=rfl
theorem Zd{a:C} :Ax (.Cm true true) [a,.b (.p (.int i)),.b (.p (.int j))]=CI a (some i) (some j):=rfl
theorem eV{a:C}:Ax .len [a]=JZ a:=rfl
theorem Zi{l:List P}:JZ (.b (.p (.tup l)))=some (.p (.int l.length)):=rfl
theorem Zj{l:List P}:JZ (.b (.lst l))=some (.p (.int l.length)):=rfl
theorem eX{c:C}:Ax (.F0 t) [c]=(DZ t c).map λb=>.p (.bl b):=rfl
theorem Z9 :Ax (.tuple .op) [.b (.lst l)]=some (.p (.tup l)):=rfl
theorem fk{a:C}:Ax .abs [a]=F3 TK a:=rfl
theorem QY{a:C}:Ax .DB [a]=En a:=rfl
theorem V8{a:C}:Ax (.list .op) [a]=(OU a).map .lst:=rfl
theorem eS{a b:C}:Ax .Qc [a,b]=(Cj .Qc a b).map λx=>.p (.bl x):=rfl
theorem fh{c:C}:Ax .all [c]=Ih c:=rfl
theorem eO{a:C}:Ax .str [a]=F3 QF a:=rfl
theorem eZ{a:C}:Ax .int [a]=Se a:=rfl
theorem Zh :Ax .min [.b (.p (.int i)),.b (.p (.int j))]=some (.p (.int (if j<i then j else i))):=rfl
theorem Zk{a:C}:Ax (.join x) [a]=HM x a:=rfl
theorem kF :Ax .id [.b (.p x)]=some (.p x):=rfl
theorem ky{a b c:C}:Ax .sw [a,b,c]=du a b c:=rfl
theorem s_eq{a b:C}:Ax .eq [a,b]=(Qg a b).map λx=>.p (.bl x):=rfl
theorem kz{a b:C}:Ax .ne [a,b]=(Qg a b).map λx=>.p (.bl (!x)):=by
 show((Qg a b).map _).map _=_;rw[Option.map_map];rfl
theorem fg :Qg (.b (.p a)) (.b (.p b))=DM a b:=rfl
theorem kA :Ax .lt [.b (.p (.int i)),.b (.p (.int j))]=some (.p (.bl (decide (i<j)))):=rfl
theorem kG :Ax .gt [.b (.p (.int i)),.b (.p (.int j))]=some (.p (.bl (decide (j<i)))):=rfl
theorem kC :Ax .le [.b (.p (.int i)),.b (.p (.int j))]=some (.p (.bl (decide (i<=j)))):=rfl
theorem kH :Ax .ge [.b (.p (.int i)),.b (.p (.int j))]=some (.p (.bl (decide (j<=i)))):=rfl
theorem kb :DZ .str (.b (.p (.str x)))=some true:=rfl
theorem kc :DZ .str (.b (.p (.int x)))=some false:=rfl
theorem ka :DZ .str (.b (.p (.tup x)))=some false:=rfl
theorem k6 :DZ .tuple (.b (.p (.tup x)))=some true:=rfl
theorem k7 :DZ .tuple (.b (.p (.str x)))=some false:=rfl
theorem k9 :DZ .tuple (.b (.p (.int x)))=some false:=rfl
theorem kf :DZ .int (.b (.p (.int x)))=some true:=rfl
theorem kg :DZ .bool (.b (.p (.int x)))=some false:=rfl
theorem iZ:Fp .append (.lst l) cs=D3 l cs:=rfl
theorem iY:Fp .extend (.lst l) cs=FE l cs:=rfl
theorem iX:Fp .pop (.lst l) cs=MC l cs:=rfl
theorem MQ{n k:Nat}(h:k<n):Ln n (k:Int)=some k:=by
 unfold Ln;rw[iP (Int.natCast_nonneg k),iP (by omega)];rfl
theorem O8{l:List P}{k:Nat}{p:P}(h:l[k]? =some p):CP (.b (.p (.tup l))) (.b (.p (.int (k:Int))))=some (.p p):=by
 show((Ln l.length (k:Int)).bind λk=>(l[k]?).map λx=>C.p x)=_;rw[MQ (List.getElem?_eq_some_iff.mp h).1];show(l[k]?).map _=_;rw[h];rfl
theorem DG{l:List P}{k:Nat}{p:P}(h:l[k]? =some p):CP (.b (.lst l)) (.b (.p (.int (k:Int))))=some (.p p):=by
 show((Ln l.length (k:Int)).bind λk=>(l[k]?).map λx=>C.p x)=_;rw[MQ (List.getElem?_eq_some_iff.mp h).1];show(l[k]?).map _=_;rw[h];rfl
theorem lO(a:P)(l:List P):CP (.b (.p (.tup (a::l)))) (.b (.p (.int 0)))=some (.p a):=O8 (k:=0) rfl
theorem lN(a b:P)(l:List P):CP (.b (.p (.tup (a::b::l)))) (.b (.p (.int 1)))=some (.p b):=O8 (k:=1) rfl
theorem lL(a b c:P)(l:List P):CP (.b (.p (.tup (a::b::c::l)))) (.b (.p (.int 2)))=some (.p c):=O8 (k:=2) rfl
theorem j6{x:Nat} :jS cf mt ss (.err x p U)= .err x p U:=rfl
theorem cI{i x:Nat} :lI i (.err x p U)= .err x p U:=rfl
theorem cH{x:Nat} :lH (.err x p U)= .err x p U:=rfl
theorem cE{x:Nat} :lD (.err x p U)= .err x p U:=rfl
theorem cG{x:Nat} :ju cf mt a b (.err x p U)= .err x p U:=rfl
theorem j7{x:Nat} :jH (.err x p U)= .err x p U:=rfl
theorem j8{x:Nat} :jA cf mt ts (.err x p U)= .err x p U:=rfl
theorem cF{m:MO}{x:Nat} :lF m h true true true (.err x p U)= .err x p U:=rfl
theorem Q2{x:Nat} :exec cf mt Ai (.raise x) U=if mt.rs then .err x .Az U else .A2:=rfl
theorem eW{a:C}:Ax .Uy [a,.b (.p .Az)]=some (.p (.bl (!decide (a= .p .Az)))):=rfl
theorem ke :DZ .int (.b (.p (.tup x)))=some false:=rfl
end Iv
local macro_rules
|`(tactic|simp! [$xs,*])=>do
 let f:=λs:String=>(s.splitOn).toArray.map λx=>Lean.mkIdent ("Iv."++x).toName
 let a:=f "AJ cZ Uo He Xx LV Xt Xv Ea Ul Xu Dt Bb Xw";let b:=f "j6 cI cH cE cG j7 j8 cF Q2 eW ke Xl Hb U4 U6 U5 Kv Uh Ii Ue TU OA U7 Ku Xp Xq TX OB cL cM cK cN Hf Du U8 TY Xm Hc Xr XD Kw cU cV Uk CU Xs Ug Up LW Us Ik Ur TZ Ud Xj cJ Oz XB da Xy Ui Uj Xn Xo Q3 Q4 Q5 U9 Ua Nh Xz Ub cR cO cQ cP Uc Ut XC cS cX cW cY Xh Xg FL Sj SM Gf dz dy nM oz oy ow ou oq om oj Xi j9 XA TR Ij Uq Um Q6 fj Zn Za eU Zg V9 eR Zf Vb fc Zc Zb Zd eV Zi Zj eX Z9 fk QY V8 eS fh eO eZ Zh Zk kF ky s_eq kz fg kA kG kC kH kb kc ka k6 k7 k9 kf kg iZ iY iX lO lN lL O.ok MO.ok Yn Hd.HP T.calm placeOf BY setB C.cp C.nf CV";`(tactic|simp [$[↓$a:ident],*,$[$b:ident],*,$xs,*])
local macro_rules
|`($k<<<$b>>>$r)=>`(Iv.execs (Iv.Be Lk52.As Lk52.mt Iv.Ai $k) Lk52.mt Iv.Ai $b $r)
|`($k|||$t&&&$r)=>`(Iv.ev (Iv.Be Lk52.As Lk52.mt Iv.Ai $k) Lk52.mt $t $r)
|`(~~~$k $x $y)=>`(Iv.Be Lk52.As Lk52.mt Iv.Ai $k $x $y)
|`(~~~$k)=>`(Iv.Be Lk52.As Lk52.mt Iv.Ai $k)
|`(#[$xs,*])=>if xs.getElems.all (·.raw.isOfKind `num)then`(Iv.T.An (.str ⟨[$xs,*].toArray⟩))else Lean.Macro.throwUnsupported
|`({$x:num})=>`(Iv.T.An (.int $x))
|`({$x:num,$y:num})=>`(Iv.T.A0 .idx [.A3 $x,.An (.int $y)])
local macro_rules
|`(tactic|done)=>`(tactic|kernel_rfl)
namespace Lk52
open Iv PySem
abbrev RL:Str:=#[[116,97,107,101,115].toArray]
noncomputable abbrev Qd:Str:=#[[109,117,115,116,95,116,97,107,101].toArray]
noncomputable abbrev gd:Str:=#[[105,115,95,98,101,102,111,114,101].toArray]
abbrev ai:Str:=#[[116,97,107,101,95,97,108,108].toArray]
abbrev BA:Str:=#[[110,97,109,101].toArray]
noncomputable abbrev nF:Str:=#[[102,111,114,109,95,110,97,109,101].toArray]
abbrev BF:Str:=#[[110,117,109,98,101,114].toArray]
noncomputable abbrev nH:Str:=#[[110,117,109,98,101,114,95,98,101,108,111,119].toArray]
abbrev jm:Str:=#[[102,101,119].toArray]
noncomputable abbrev dv:Str:=#[[101,120,112,114,101,115,115,105,111,110].toArray]
noncomputable abbrev jo:Str:=#[[97,114,103,115,95,104,101,114,101].toArray]
abbrev Aj:Str:=#[[99,97,115,101].toArray]
abbrev VO:Str:=#[[97,114,109].toArray]
noncomputable abbrev nG:Str:=#[[109,117,115,116,95,101,110,100].toArray]
abbrev NW:Str:=#[[116,101,120,116].toArray]
abbrev GK:Str:=#[[97,116].toArray]
abbrev Bm:Str:=#[[102,111,114,109].toArray]
abbrev BG:Str:=#[[99,97,108,108].toArray]
noncomputable abbrev dq:Str:=#[[97,98,99,100,101,102,103,104,105,106,107,108,109,110,111,112,113,114,115,116,117,118,119,120,121,122].toArray]
noncomputable abbrev kh:Str:=#[[65,66,67,68,69,70,71,72,73,74,75,76,77,78,79,80,81,82,83,84,85,86,87,88,89,90].toArray]
noncomputable def b1:List S:=[.ifs (.not (.A0 (.F0 .str) [.A3 0])) [.ret (some (.An (.bl false)))] [],.ifs (.or (.A0 .lt [.A0 .len [.A3 0],{1}]) (.A0 .gt [.A0 .len [.A3 0],{8}])) [.ret (some (.An (.bl false)))] [],.ret (some (.A0 .all [.comp (.nm 1) .op [.A3 0] [] (.A0 (.chain .le .le) [#[97],.A3 1,#[122]]) [none,none]]))]
theorem f1:As[1]? =some ⟨1,1,b1⟩:=by done
noncomputable def b2:List S:=[.ret (some (.and (.A0 (.F0 .int) [.A3 0]) (.not (.A0 (.F0 .bool) [.A3 0]))))]
theorem f2:As[2]? =some ⟨1,1,b2⟩:=by done
noncomputable def b3:List S:=[.ifs (.not (.A0 (.F0 .str) [.A3 0])) [.ret (some (.An (.bl false)))] [],.ifs (.or (.A0 .lt [.A0 .len [.A3 0],{1}]) (.A0 .gt [.A0 .len [.A3 0],{8}])) [.ret (some (.An (.bl false)))] [],.ret (some (.and (.A0 (.chain .le .le) [#[65],{0,0},#[90]]) (.A0 .all [.comp (.nm 1) .op [.A0 (.Cm true false) [.A3 0,{1}]] [] (.A0 (.chain .le .le) [#[97],.A3 1,#[122]]) [none,none]])))]
theorem f3:As[3]? =some ⟨1,1,b3⟩:=by done
noncomputable def b4:List S:=[.ret (some (.and (.call 2 [.A3 0]) (.A0 .lt [.A0 .abs [.A3 0],.A0 .pow [{10},{60}]])))]
theorem f4:As[4]? =some ⟨1,1,b4⟩:=by done
noncomputable def b5:List S:=[.ret (some (.and (.A0 (.F0 .tuple) [.A3 0]) (.A0 .le [.A0 .len [.A3 0],{3}])))]
theorem f5:As[5]? =some ⟨1,1,b5⟩:=by done
noncomputable def b6:List S:=[.ret (some (.and (.call 5 [.A3 0]) (.A0 .all [.comp (.nm 1) .op [.A3 0] [] (.Fc 2 [.A3 1]) [none,none,some 1]])))]
theorem f6:As[6]? =some ⟨2,2,b6⟩:=by done
noncomputable def b7:List S:=[.ret (some (.and (.call 6 [.A3 0,.An (.fn 1)]) (.A0 .eq [.A0 .DB [.A3 0],.A0 .len [.A3 0]])))]
theorem f7:As[7]? =some ⟨1,1,b7⟩:=by done
noncomputable def b8:List S:=[.ret (some (.and (.A0 (.F0 .tuple) [.A3 0]) (.A0 (.chain .le .le) [{1},.A0 .len [.A3 0],{4}])))]
theorem f8:As[8]? =some ⟨1,1,b8⟩:=by done
noncomputable def b9:List S:=[.ret (some (.and (.A0 (.F0 .tuple) [.A3 0]) (.and (.A0 .gt [.A0 .len [.A3 0],{0}]) (.A0 (.F0 .str) [{0,0}]))))]
theorem f9:As[9]? =some ⟨1,1,b9⟩:=by done
noncomputable def mU:List S:=[.ifs (.or (.not (.A0 (.F0 .tuple) [.A3 0])) (.A0 .ne [.A0 .len [.A3 0],{3}])) [.ret (some (.An (.bl false)))] [],.ret (some (.and (.call 3 [{0,0}]) (.call 7 [{0,1}])))]
theorem mr:As[10]? =some ⟨1,1,mU⟩:=by done
noncomputable def cq:List S:=[.ifs (.not (.call 9 [.A3 0])) [.ret (some (.An (.bl false)))] [],.asg (.nm 1) ({0,0}),.ifs (.A0 .eq [.A3 1,.An (.str BF)]) [.ret (some (.and (.A0 .eq [.A0 .len [.A3 0],{2}]) (.call 4 [{0,1}])))] [],.ifs (.A0 .eq [.A3 1,.An (.str BA)]) [.ret (some (.and (.A0 .eq [.A0 .len [.A3 0],{2}]) (.call 1 [{0,1}])))] [],.ifs (.A0 .ne [.A0 .len [.A3 0],{3}]) [.ret (some (.An (.bl false)))] [],.ifs (.A0 .eq [.A3 1,.An (.str Bm)]) [.ret (some (.and (.call 3 [{0,1}]) (.call 5 [{0,2}])))] [],.ifs (.A0 .eq [.A3 1,.An (.str BG)]) [.ret (some (.and (.call 1 [{0,1}]) (.call 5 [{0,2}])))] [],.ret (some (.and (.A0 .eq [.A3 1,.An (.str Aj)]) (.and (.call 8 [{0,2}]) (.A0 .all [.comp (.nm 1) .op [{0,2}] [] (.call 10 [.A3 1]) [none,none]]))))]
theorem mq:As[11]? =some ⟨1,2,cq⟩:=by done
noncomputable def cn:List S:=[.ifs (.or (.A0 .eq [{0,0},.An (.str Bm)]) (.A0 .eq [{0,0},.An (.str BG)])) [.ret (some (.A0 (.list .op) [{0,2}]))] [],.ifs (.A0 .eq [{0,0},.An (.str Aj)]) [.ret (some (.A0 .add [.lst [{0,1}],.comp (.nm 1) .op [{0,2}] [] ({1,2}) [none,none]]))] [],.ret (some (.lst []))]
theorem mn:As[12]? =some ⟨1,1,cn⟩:=by done
noncomputable def jU:List S:=[.asg (.nm 1) (.lst [.tup [.A3 0,{0}]]),.asg (.nm 2) {0},.M3 (.A3 1) [.asg (.nm 2) (.A0 .add [.A3 2,{1}]),.asg (.nm 3) (.Ey .pop (.A3 1) []),.asg (.nm 4) ({3,0}),.asg (.nm 5) ({3,1}),.ifs (.or (.A0 .gt [.A3 2,{40}]) (.or (.A0 .gt [.A3 5,{11}]) (.not (.call 11 [.A3 4])))) [.ret (some (.An (.bl false)))] [],.expr (.Ey .extend (.A3 1) [.comp (.nm 1) .op [.call 12 [.A3 4]] [] (.tup [.A3 1,.A0 .add [.A3 2,{1}]]) [none,none,some 5]])],.ret (some (.An (.bl true)))]
theorem jL:As[13]? =some ⟨1,6,jU⟩:=by done
noncomputable def mT:List S:=[.ret (some (.or (.A0 (.chain .le .le) [#[97],.A3 0,#[122]]) (.A0 (.chain .le .le) [#[65],.A3 0,#[90]])))]
theorem mj:As[14]? =some ⟨1,1,mT⟩:=by done
noncomputable def mQ:List S:=[.ret (some (.A0 (.chain .le .le) [#[48],.A3 0,#[57]]))]
theorem mi:As[15]? =some ⟨1,1,mQ⟩:=by done
noncomputable def iM:List S:=[.ifs (.not (.A0 (.F0 .str) [.A3 0])) [.raise 4] [],.ret (some (.make 5 [.A3 0]))]
theorem jK:As[16]? =some ⟨1,1,iM⟩:=by done
noncomputable def iL:List S:=[.asg (.nm 1) (.call 16 [.A3 0]),.asg (.nm 2) (.Al dv (.A3 1) [{0}]),.expr (.Al nG (.A3 1) []),.ifs (.not (.call 13 [.A3 2])) [.raise 4] [],.ret (some (.A3 2))]
theorem aV:As[17]? =some ⟨1,3,iL⟩:=by done
noncomputable def jT:List S:=[.ifs (.A0 .lt [.A3 1,.A0 .len [.A3 0]]) [.ret (some (.A0 .mod [.A0 .idx [.A3 0,.A3 1],.A0 .pow [{10},{30}]]))] [],.ret (some {0})]
theorem mh:As[18]? =some ⟨2,2,jT⟩:=by done
noncomputable def mP:List S:=[.asg (.nm 1) (.An (.str dq)),.asg (.nm 2) #[],.C3 (.nm 3) .Co [.A0 .mod [.A3 0,{8}]] [.asg (.nm 2) (.A0 .add [.A3 2,.A0 .idx [.A3 1,.A0 .mod [.A0 .fdiv [.A3 0,.A0 .add [{8},.A0 .mul [{3},.A3 3]]],{26}]]])],.asg (.nm 4) (.A0 .mod [.A0 .fdiv [.A3 0,{64}],.A0 .add [.A0 .len [.A3 2],{1}]]),.ret (some (.comp (.nm 1) .Co [{6}] [] (.A0 .add [.A0 .add [.A0 (.Cm false true) [.A3 5,.A3 2],.A0 .idx [.A3 4,.A0 .mod [.A0 .add [.A0 .fdiv [.A3 3,{512}],.A3 1],{26}]]],.A0 (.Cm true false) [.A3 5,.A3 2]]) [none,none,some 4,some 0,some 1,some 2]))]
theorem mf:As[19]? =some ⟨1,5,mP⟩:=by done
noncomputable def jR:List S:=[.asg (.nm 1) (.An (.str dq)),.asg (.nm 2) (.An (.str kh)),.ifs (.A0 .eq [.A0 .mod [.A3 0,{2}],{0}]) [.ret (some (.comp (.nm 1) .Co [{6}] [] (.A0 .idx [.A3 3,.A0 .mod [.A0 .add [.A0 .fdiv [.A3 2,{2}],.A3 1],{26}]]) [none,none,some 0,some 2]))] [],.asg (.nm 4) #[],.C3 (.nm 3) .Co [.A0 .mod [.A0 .fdiv [.A3 0,{2}],{7}]] [.asg (.nm 4) (.A0 .add [.A3 4,.A0 .idx [.A3 1,.A0 .mod [.A0 .fdiv [.A3 0,.A0 .add [{14},.A0 .mul [{5},.A3 3]]],{26}]]])],.asg (.nm 5) (.A0 .mod [.A0 .fdiv [.A3 0,{64}],.A0 .add [.A0 .len [.A3 4],{1}]]),.asg (.nm 6) (.A0 .add [.A0 .idx [.A3 2,.A0 .mod [.A0 .fdiv [.A3 0,{3}],{26}]],.A0 (.Cm false true) [.A3 4,.A3 5]]),.ret (some (.comp (.nm 1) .Co [{6}] [] (.A0 .add [.A0 .add [.A3 4,.A0 .idx [.A3 5,.A0 .mod [.A0 .add [.A0 .fdiv [.A3 3,{512}],.A3 1],{26}]]],.A0 (.Cm true false) [.A3 6,.A3 2]]) [none,none,some 5,some 0,some 6,some 1,some 4]))]
theorem jJ:As[20]? =some ⟨1,7,jR⟩:=by done
noncomputable def iK:List S:=[.ifs (.A0 .eq [.A3 0,.lst []]) [.ret (some {0})] [],.ret (some (.Ey .pop (.A3 0) []))]
theorem jI:As[21]? =some ⟨1,1,iK⟩:=by done
noncomputable def mO:List S:=[.ret (some (.A0 .idx [.lst [.A0 .mod [.A3 0,{10}],.A0 .sub [{0},.A0 .mod [.A3 0,.A0 .pow [{10},{60}]]],.A0 .mod [.A3 0,.A0 .pow [{10},{60}]],.A0 .sub [.A0 .sub [.A0 .pow [{10},{60}],{1}],.A0 .mod [.A3 0,{2}]]],.A0 .mod [.A3 0,{4}]]))]
theorem me:As[22]? =some ⟨1,1,mO⟩:=by done
noncomputable def dG:List S:=[.asg (.nm 4) (.call 21 [.A3 0]),.asg (.nm 5) (.A0 .mod [.A3 4,{6}]),.ifs (.or (.A0 .eq [.A3 3,{0}]) (.A0 .lt [.A3 5,{2}])) [.ret (some (.A0 .idx [.lst [.tup [.An (.str BF),.call 22 [.A0 .fdiv [.A3 4,{6}]]],.tup [.An (.str BA),.A0 .idx [.A3 1,.A0 .mod [.A0 .fdiv [.A3 4,{6}],{6}]]]],.A0 .mod [.A0 .fdiv [.A3 4,{36}],{2}]]))] [],.ifs (.A0 .lt [.A3 5,{5}]) [.asg (.nm 6) (.A0 .idx [.lst [.A0 .mod [.A0 .fdiv [.A3 4,{6}],{4}],{3},{1},{0}],.A0 .mod [.A0 .fdiv [.A3 4,{24}],{4}]]),.asg (.nm 8) (.A0 (.tuple .op) [.comp (.nm 1) .Co [.A3 6] [] (.call 23 [.A3 2,.A3 5,.A3 4,.A0 .sub [.A3 3,{1}]]) [none,none,some 0,some 3,some 2,some 1]]),.ifs (.A0 .eq [.A0 .mod [.A3 5,{2}],{0}]) [.ret (some (.tup [.An (.str Bm),.A0 .idx [.A3 2,.A0 .mod [.A0 .fdiv [.A3 4,{100}],{6}]],.A3 8]))] [],.ret (some (.tup [.An (.str BG),.A0 .idx [.A3 1,.A0 .mod [.A0 .fdiv [.A3 4,{100}],{6}]],.A3 8]))] [],.asg (.nm 9) (.call 23 [.A3 0,.A3 1,.A3 2,.A0 .sub [.A3 3,{1}]]),.asg (.nm 10) (.lst []),.C3 (.nm 7) .Co [.A0 .add [{1},.A0 .mod [.A0 .fdiv [.A3 4,{6}],{4}]]] [.asg (.nm 11) (.A0 (.Cm false true) [.A0 (.Cm true false) [.A3 1,.A0 .mod [.A0 .fdiv [.A3 4,{24}],{4}]],.A0 .mod [.A0 .add [.A0 .fdiv [.A3 4,{96}],.A3 7],{4}]]),.expr (.Ey .append (.A3 10) [.tup [.A0 .idx [.A3 2,.A0 .mod [.A0 .add [.A0 .fdiv [.A3 4,{400}],.A3 7],{6}]],.A0 (.tuple .op) [.A3 11],.call 23 [.A3 0,.A3 1,.A3 2,.A0 .sub [.A3 3,{1}]]]])],.ret (some (.tup [.An (.str Aj),.A3 9,.A0 (.tuple .op) [.A3 10]]))]
theorem dB:As[23]? =some ⟨4,12,dG⟩:=by done
noncomputable def iJ:List S:=[.ifs (.A0 (.F0 .tuple) [.A3 1]) [.ifs (.or (.not (.A0 (.F0 .tuple) [.A3 0])) (.A0 .ne [.A0 .len [.A3 0],.A0 .len [.A3 1]])) [.ret (some (.An (.bl false)))] [],.ret (some (.A0 .all [.comp (.nm 1) .Co [.A0 .len [.A3 1]] [] (.call 24 [.A0 .idx [.A3 3,.A3 1],.A0 .idx [.A3 2,.A3 1]]) [none,none,some 1,some 0]]))] [],.ifs (.A0 (.F0 .str) [.A3 1]) [.ret (some (.and (.A0 (.F0 .str) [.A3 0]) (.A0 .eq [.A3 0,.A3 1])))] [],.ret (some (.and (.A0 (.F0 .int) [.A3 0]) (.and (.not (.A0 (.F0 .bool) [.A3 0])) (.A0 .eq [.A3 0,.A3 1]))))]
theorem ma:As[24]? =some ⟨2,2,iJ⟩:=by done
noncomputable def jQ:List S:=[.ifs (.A0 .eq [{0,0},.An (.str BF)]) [.ret (some (.A0 .str [{0,1}]))] [],.ifs (.A0 .eq [{0,0},.An (.str BA)]) [.ret (some ({0,1}))] [],.ifs (.A0 .ne [{0,0},.An (.str Aj)]) [.ret (some (.A0 .add [.A0 .add [.A0 .add [{0,1},#[40]],.A0 (.join #[[44,32].toArray]) [.comp (.nm 1) .op [{0,2}] [] (.call 25 [.A3 1]) [none,none]]],#[41]]))] [],.asg (.nm 1) (.lst []),.C3 (.tup [2,3,4]) .op [{0,2}] [.expr (.Ey .append (.A3 1) [.A0 .add [.A0 .add [.A0 .add [.A0 .add [.A3 2,#[40]],.A0 (.join #[[44,32].toArray]) [.A3 3]],#[41,32]],.call 25 [.A3 4]]])],.ret (some (.A0 .add [.A0 .add [.A0 .add [.A0 .add [#[91],.call 25 [{0,1}]],#[58,32]],.A0 (.join #[[59,32].toArray]) [.A3 1]],#[93]]))]
theorem m9:As[25]? =some ⟨1,5,jQ⟩:=by done
noncomputable def ck:List S:=[.asg (.nm 2) #[40,41,44,32,59,58,91,93,45,48,49,50,97,98,122,65,89,90,32,61,9],.asg (.nm 3) (.A0 .mod [.A0 .fdiv [.A3 1,{3}],.A0 .add [.A0 .len [.A3 0],{1}]]),.asg (.nm 4) (.A0 .idx [.A3 2,.A0 .mod [.A0 .fdiv [.A3 1,{3000}],{21}]]),.ifs (.A0 .eq [.A0 .mod [.A3 1,{3}],{0}]) [.ret (some (.A0 .add [.A0 (.Cm false true) [.A3 0,.A3 3],.A0 (.Cm true false) [.A3 0,.A0 .add [.A3 3,{1}]]]))] [],.ifs (.A0 .eq [.A0 .mod [.A3 1,{3}],{1}]) [.ret (some (.A0 .add [.A0 .add [.A0 (.Cm false true) [.A3 0,.A3 3],.A3 4],.A0 (.Cm true false) [.A3 0,.A3 3]]))] [],.ret (some (.A0 .add [.A0 .add [.A0 (.Cm false true) [.A3 0,.A3 3],.A3 4],.A0 (.Cm true false) [.A3 0,.A0 .add [.A3 3,{1}]]]))]
theorem gV:As[26]? =some ⟨2,5,ck⟩:=by done
noncomputable def mN:List S:=[.ifs (.or (.not (.A0 (.F0 .str) [.A3 0])) (.not (.A0 (.chain .le .le) [{1},.A0 .len [.A3 0],{8}]))) [.ret (some (.An (.bl false)))] [],.ret (some (.A0 .all [.comp (.nm 1) .op [.A3 0] [] (.A0 (.chain .le .le) [#[97],.A3 1,#[122]]) [none,none]]))]
theorem m8:As[27]? =some ⟨1,1,mN⟩:=by done
noncomputable def jP:List S:=[.ifs (.or (.not (.A0 (.F0 .str) [.A3 0])) (.or (.not (.A0 (.chain .le .le) [{1},.A0 .len [.A3 0],{8}])) (.not (.A0 (.chain .le .le) [#[65],{0,0},#[90]])))) [.ret (some (.An (.bl false)))] [],.ret (some (.or (.A0 .eq [.A0 .len [.A3 0],{1}]) (.call 27 [.A0 (.Cm true false) [.A3 0,{1}]])))]
theorem m7:As[28]? =some ⟨1,1,jP⟩:=by done
noncomputable def mM:List S:=[.ifs (.or (.not (.A0 (.F0 .tuple) [.A3 0])) (.or (.A0 .ne [.A0 .len [.A3 0],{3}]) (.or (.not (.call 28 [{0,0}])) (.not (.A0 (.F0 .tuple) [{0,1}]))))) [.ret (some (.An (.bl false)))] [],.ifs (.or (.A0 .gt [.A0 .len [{0,1}],{3}]) (.or (.A0 .ne [.A0 .DB [{0,1}],.A0 .len [{0,1}]]) (.not (.A0 .all [.comp (.nm 1) .op [{0,1}] [] (.call 27 [.A3 1]) [none,none]])))) [.ret (some (.An (.bl false)))] [],.ret (some (.call 30 [{0,2}]))]
theorem m5:As[29]? =some ⟨1,1,mM⟩:=by done
noncomputable def YE:List S:=[.ifs (.or (.not (.A0 (.F0 .tuple) [.A3 0])) (.or (.not (.A0 (.chain .le .le) [{2},.A0 .len [.A3 0],{3}])) (.A0 .Qc [{0,0},.lst [.An (.str BF),.An (.str BA),.An (.str Bm),.An (.str BG),.An (.str Aj)]]))) [.ret (some (.An (.bl false)))] [],.ifs (.A0 .eq [{0,0},.An (.str BF)]) [.ret (some (.and (.A0 .eq [.A0 .len [.A3 0],{2}]) (.and (.A0 (.F0 .int) [{0,1}]) (.and (.not (.A0 (.F0 .bool) [{0,1}])) (.A0 .lt [.A0 .abs [{0,1}],.A0 .pow [{10},{60}]])))))] [],.ifs (.A0 .eq [{0,0},.An (.str BA)]) [.ret (some (.and (.A0 .eq [.A0 .len [.A3 0],{2}]) (.call 27 [{0,1}])))] [],.ifs (.or (.A0 .ne [.A0 .len [.A3 0],{3}]) (.not (.A0 (.F0 .tuple) [{0,2}]))) [.ret (some (.An (.bl false)))] [],.ifs (.A0 .eq [{0,0},.An (.str Aj)]) [.ret (some (.and (.call 30 [{0,1}]) (.and (.A0 (.chain .le .le) [{1},.A0 .len [{0,2}],{4}]) (.A0 .all [.comp (.nm 1) .op [{0,2}] [] (.call 29 [.A3 1]) [none,none]]))))] [],.asg (.nm 1) (.call 27 [{0,1}]),.ifs (.A0 .eq [{0,0},.An (.str Bm)]) [.asg (.nm 1) (.call 28 [{0,1}])] [],.ret (some (.and (.A3 1) (.and (.A0 .le [.A0 .len [{0,2}],{3}]) (.A0 .all [.comp (.nm 1) .op [{0,2}] [] (.call 30 [.A3 1]) [none,none]]))))]
theorem lZ:As[30]? =some ⟨1,2,YE⟩:=by done
noncomputable def mJ:List S:=[.asg (.nm 1) (.An .Az),.asg (.nm 2) (.An (.bl true)),.UA 1 17 [.A3 0] 4 2 3,.ret (some (.tup [.A3 2,.A3 1]))]
theorem lY:As[31]? =some ⟨1,4,mJ⟩:=by done
noncomputable def mI:List S:=[.asg (.nm 1) (.call 19 [.call 18 [.A3 0,{0}]]),.asg (.nm 2) (.call 20 [.call 18 [.A3 0,{1}]]),.C3 (.nm 3) .Co [{2},.A0 .add [{3},.A0 .min [.A0 .len [.A3 0],{30}]],{10}] [.asg (.nm 4) (.comp (.nm 1) .Co [{10}] [] (.call 18 [.A3 3,.A0 .add [.A3 2,.A3 1]]) [none,none,some 3,some 0]),.asg (.nm 5) (.call 23 [.A0 (.Cm true false) [.A3 4,{3}],.A3 1,.A3 2,{3}]),.asg (.nm 6) (.call 25 [.A3 5]),.C3 (.nm 7) .op [.A0 (.Cm false true) [.A3 4,{3}]] [.asg (.nm 8) (.call 26 [.A3 6,.A3 7]),.asg (.tup [9,10]) (.call 31 [.A3 8]),.ifs (.or (.not (.A3 9)) (.and (.A0 .Uy [.A3 10,.An .Az]) (.or (.not (.call 30 [.A3 10])) (.A0 .ne [.call 25 [.A3 10],.A3 8])))) [.ret (some (.An (.bl false)))] []],.ifs (.not (.call 24 [.call 17 [.A3 6],.A3 5])) [.ret (some (.An (.bl false)))] []],.asg (.nm 11) (.lst [#[],#[32],#[48,48],#[48,49],#[45,48],#[45],#[45,45,49],.A0 .mul [#[49],{61}],#[65],#[97,32,98],#[97,40],#[97,40,98],#[97,40,98,44,99,41],#[97,40,98,44,32,32,99,41],#[70,40,97,41,41]]),.asg (.nm 11) (.A0 .add [.A3 11,.lst [#[91,97,58,32,70,40,41,32,98],#[91,97,32,70,40,41,32,98,93],#[91,97,58,32,70,32,98,93],#[91,97,58,32,70,40,120,44,32,120,41,32,98,93],#[91,97,58,32,70,40,41,98,93],#[91,97,58,32,93],#[91,97,58,32,70,40,41,32,98,59,71,40,41,32,99,93]]]),.asg (.nm 11) (.A0 .add [.A3 11,.lst [#[102,40,97,44,32,98,44,32,99,44,32,100,41],#[70,40,97,44,32,98,44,32,99,44,32,100,41],#[91,97,58,32,102,40,41,32,98,93],#[91,97,58,32,70,40,88,41,32,98,93]]]),.C3 (.nm 6) .op [.A0 .add [.A3 11,.lst [.An .Az,{7},.tup [.An (.str BA),#[97]],.E4 [],.E4 [#[97]]]]] [.asg (.tup [9,10]) (.call 31 [.A3 6]),.ifs (.or (.not (.A3 9)) (.A0 .Uy [.A3 10,.An .Az])) [.ret (some (.An (.bl false)))] []],.ret (some (.An (.bl true)))]
theorem jG:As[32]? =some ⟨1,12,mI⟩:=by done
noncomputable def mH:List S:=[.Hr 0 NW (.A3 1),.Hr 0 GK {0}]
theorem lX:As[33]? =some ⟨2,2,mH⟩:=by done
noncomputable def mG:List S:=[.ret (some (.and (.A0 .lt [.A0 .id [.Aw 0 GK],.A0 .len [.Aw 0 NW]]) (.Fc 1 [.A0 .idx [.Aw 0 NW,.Aw 0 GK]])))]
theorem lW:As[34]? =some ⟨2,2,mG⟩:=by done
noncomputable def iI:List S:=[.ifs (.not (.A0 .sw [.Aw 0 NW,.A3 1,.Aw 0 GK])) [.ret (some (.An (.bl false)))] [],.Hr 0 GK (.A0 .add [.A0 .id [.Aw 0 GK],.A0 .len [.A3 1]]),.ret (some (.An (.bl true)))]
theorem jF:As[35]? =some ⟨2,2,iI⟩:=by done
noncomputable def oN:List S:=[.ifs (.not (.Al RL (.A3 0) [.A3 1])) [.raise 4] []]
theorem jE:As[36]? =some ⟨2,2,oN⟩:=by done
noncomputable def iH:List S:=[.ifs (.A0 .ne [.A0 .id [.Aw 0 GK],.A0 .len [.Aw 0 NW]]) [.raise 4] []]
theorem jB:As[37]? =some ⟨1,1,iH⟩:=by done
noncomputable def mF:List S:=[.asg (.nm 2) (.Aw 0 GK),.M3 (.Al gd (.A3 0) [.A3 1]) [.Hr 0 GK (.A0 .add [.Aw 0 GK,{1}])],.ret (some (.A0 (.Cm true true) [.Aw 0 NW,.A3 2,.Aw 0 GK]))]
theorem lV:As[38]? =some ⟨2,3,mF⟩:=by done
noncomputable def oK:List S:=[.asg (.nm 1) (.Al ai (.A3 0) [.An (.fn 14)]),.ifs (.not (.call 1 [.A3 1])) [.raise 4] [],.ret (some (.A3 1))]
theorem lU:As[39]? =some ⟨1,2,oK⟩:=by done
noncomputable def oJ:List S:=[.asg (.nm 1) (.Al ai (.A3 0) [.An (.fn 14)]),.ifs (.not (.call 3 [.A3 1])) [.raise 4] [],.ret (some (.A3 1))]
theorem lT:As[40]? =some ⟨1,2,oJ⟩:=by done
noncomputable def YD:List S:=[.asg (.nm 1) (.Al ai (.A3 0) [.An (.fn 15)]),.ifs (.or (.A0 .lt [.A0 .len [.A3 1],{1}]) (.A0 .gt [.A0 .len [.A3 1],{60}])) [.raise 4] [],.ifs (.and (.A0 .eq [{1,0},#[48]]) (.A0 .gt [.A0 .len [.A3 1],{1}])) [.raise 4] [],.ret (some (.A0 .int [.A3 1]))]
theorem gU:As[41]? =some ⟨1,2,YD⟩:=by done
noncomputable def mD:List S:=[.asg (.nm 2) (.lst []),.M3 (.not (.Al RL (.A3 0) [#[41]])) [.ifs (.A0 .eq [.A0 .len [.A3 2],{3}]) [.raise 4] [],.ifs (.A3 2) [.expr (.Al Qd (.A3 0) [#[44,32]])] [],.expr (.Ey .append (.A3 2) [.Cy 1])],.ret (some (.A0 (.tuple .op) [.A3 2]))]
theorem jz:As[42]? =some ⟨2,3,mD⟩:=by done
def oI:List S:=[.expr (.call 0 [{0}])]
theorem nO:As[43]? =some ⟨2,2,oI⟩:=by done
def oH:List S:=[.expr (.call 0 [{1}])]
theorem nN:As[44]? =some ⟨1,1,oH⟩:=by done
noncomputable def iG:List S:=[.ifs (.A0 .gt [.A3 1,{11}]) [.raise 4] [],.ifs (.Al RL (.A3 0) [#[91]]) [.ret (some (.Al Aj (.A3 0) [.A3 1]))] [],.ifs (.Al RL (.A3 0) [#[45]]) [.ret (some (.tup [.An (.str BF),.Al nH (.A3 0) []]))] [],.ifs (.Al gd (.A3 0) [.An (.fn 15)]) [.ret (some (.tup [.An (.str BF),.Al BF (.A3 0) []]))] [],.asg (.nm 2) (.Al ai (.A3 0) [.An (.fn 14)]),.ifs (.call 3 [.A3 2]) [.expr (.Al Qd (.A3 0) [#[40]]),.ret (some (.tup [.An (.str Bm),.A3 2,.Al jo (.A3 0) [.A3 1]]))] [],.ifs (.not (.call 1 [.A3 2])) [.raise 4] [],.ifs (.Al RL (.A3 0) [#[40]]) [.ret (some (.tup [.An (.str BG),.A3 2,.Al jo (.A3 0) [.A3 1]]))] [],.ret (some (.tup [.An (.str BA),.A3 2]))]
theorem jy:As[45]? =some ⟨2,3,iG⟩:=by done
noncomputable def jO:List S:=[.asg (.nm 1) (.Al BF (.A3 0) []),.ifs (.A0 .eq [.A3 1,{0}]) [.raise 4] [],.ret (some (.A0 .neg [.A3 1]))]
theorem gS:As[46]? =some ⟨1,2,jO⟩:=by done
noncomputable def oG:List S:=[.ret (some (.Dp jm 0 50 (some 1)))]
theorem lQ:As[47]? =some ⟨2,2,oG⟩:=by done
noncomputable def X4:List S:=[.asg (.nm 2) (.Al dv (.A3 0) [.A0 .add [.A3 1,{1}]]),.expr (.Al Qd (.A3 0) [#[58,32]]),.asg (.nm 3) (.lst [.Al VO (.A3 0) [.A3 1]]),.M3 (.not (.Al RL (.A3 0) [#[93]])) [.ifs (.A0 .eq [.A0 .len [.A3 3],{4}]) [.raise 4] [],.expr (.Al Qd (.A3 0) [#[59,32]]),.expr (.Ey .append (.A3 3) [.Al VO (.A3 0) [.A3 1]])],.ret (some (.tup [.An (.str Aj),.A3 2,.A0 (.tuple .op) [.A3 3]]))]
theorem aU:As[48]? =some ⟨2,4,X4⟩:=by done
noncomputable def YC:List S:=[.asg (.nm 2) (.Al nF (.A3 0) []),.expr (.Al Qd (.A3 0) [#[40]]),.asg (.nm 3) (.Dp jm 0 51 none),.ifs (.not (.call 7 [.A3 3])) [.raise 4] [],.expr (.Al Qd (.A3 0) [#[32]]),.ret (some (.tup [.A3 2,.A3 3,.Al dv (.A3 0) [.A0 .add [.A3 1,{1}]]]))]
theorem Yt:As[49]? =some ⟨2,4,YC⟩:=by done
noncomputable def oF:List S:=[.ret (some (.Al dv (.A3 0) [.A0 .add [.A3 1,{1}]]))]
theorem oC:As[50]? =some ⟨2,2,oF⟩:=by done
noncomputable def oE:List S:=[.ret (some (.Al BA (.A3 0) []))]
theorem oA:As[51]? =some ⟨1,1,oE⟩:=by done
end Lk52
namespace Iv
open PySem
variable{cf:CF}{mt:MT}
noncomputable def Ha(o:Option (P×C))(ys:List (Option C)):CR:=match o with
 |some (p,s)=>.ok (.p p) (some s::ys)
 |none=>.err 4 .Az
noncomputable def Kx(o:Option (P×C))(r:Env):Res C:=match o with
 |some (p,s)=>.ok (.p p) (some s::r)
 |none=>.err 4 .Az (none::r)
def UC(R:Res Fl)(o:Option (P×C))(r:Env):Prop:=match o with
 |some q=>R= .ok (.ret (.p q.1)) (some q.2::r)
 |none=>∃U,R= .err 4 .Az U
theorem RR{r:Env}{c:Nat}{fs:List (Str×B)}{f:Nat}{o:Option (P×C)}(hm:mt.m c m=some f)(hl:fs.lookup m=none)(e:cf f [.obj c fs]=Ha o []):ev cf mt (.Al m (.A3 0) []) (some (.obj c fs)::r)=Kx o r:=by
 rw[FK,dz];dsimp only;rw[hl,hm];show AK cf f [.A4 0] (some (.obj c fs)::r)=_;unfold AK;rw[show Ag (some (.obj c fs)::r) [.A4 0]=some [.obj c fs]from rfl];dsimp only;rw[iP #[by show([0]:List Nat).Nodup;decide,rfl],e];cases o<;>rfl
theorem ao{r:Env}{c:Nat}{fs:List (Str×B)}{f:Nat}{t:T}{h:Hd}{o:Option (P×C)}{y:Option C}(hm:mt.m c m=some f)(hl:fs.lookup m=none)(ha:Ae cf mt [t] (some (.obj c fs)::r)= .ok [h] (some (.obj c fs)::r))(hc:h.cont (some (.obj c fs)::r)=some (.p p))(e:cf f [.obj c fs,.p p]=Ha o [y]):ev cf mt (.Al m (.A3 0) [t]) (some (.obj c fs)::r)=Kx o r:=by
 rw[FK,dz];dsimp only;rw[hl,hm];dsimp only;rw[ha];show AK cf f [.A4 0,h] (some (.obj c fs)::r)=_;unfold AK
 have ec:Ag (some (.obj c fs)::r) [.A4 0,h]=some [.obj c fs,.p p]:=by
  show((h.cont _).bind λc=>_).map _=_;rw[hc];rfl
 rw[ec];have hle:BY [.A4 0,h] [.obj c fs,.p p]=[0]:=by cases h<;>rfl
 have hg:AD [.A4 0,h] [.obj c fs,.p p]=true:=by cases h<;>rfl
 dsimp only;rw[iP #[by rw[hle];decide,hg],e];unfold lend;rw[hle];cases o with
 |none=>rfl
 |some q=>cases h<;>rfl
theorem RQ{r:Env}{c:Nat}{fs:List (Str×B)}{f:Nat}{o:Option (P×C)}{y:Option C}(hm:mt.m c m=some f)(hl:fs.lookup m=none)(e:cf f [.obj c fs,.p p]=Ha o [y]):ev cf mt (.Al m (.A3 0) [.An p]) (some (.obj c fs)::r)=Kx o r:=ao (h:=.AN (.p p)) hm hl rfl rfl e
theorem Le{r:Env}{c:Nat}{fs:List (Str×B)}{f:Nat}{o:Option (P×C)}{y:Option C}(hm:mt.m c m=some f)(hl:fs.lookup m=none)(e:cf f [.obj c fs,.p p]=Ha o [y]):ev cf mt (.Al m (.A3 0) [.A3 1]) (some (.obj c fs)::some (.p p)::r)=Kx o (some (.p p)::r):=ao (h:=.A4 1) hm hl rfl rfl e
variable{ss:List S}
theorem Ez(h:tv cf mt t U= .ok false U'):execs cf mt Ai (.ifs t a []::ss) U=execs cf mt Ai ss U':=by rw[AJ,Ku,h];rfl
theorem E2(h:tv cf mt t U= .ok true U'):execs cf mt Ai (.ifs t a []::ss) U=jS cf mt ss (execs cf mt Ai a U'):=by rw[AJ,Ku,h];rfl
variable{ts:List T}
theorem Qr{b:Bool}(h:ev cf mt (.Al m o ts) U= .ok (.p (.bl b)) U'):tv cf mt (.Al m o ts) U= .ok b U':=by rw[Xi,h];rfl
theorem OI{f:Nat}{b:Bool}(h:ev cf mt (.call f ts) U= .ok (.p (.bl b)) U'):tv cf mt (.call f ts) U= .ok b U':=by rw[j9,h];rfl
theorem EN{b:Bool}(h:tv cf mt t U= .ok b U'):tv cf mt (.not t) U= .ok (!b) U':=by rw[Oz,h];rfl
theorem Dr{i:Nat}{U':Env}(h:ev cf mt t U= .ok c U'):execs cf mt Ai (.asg (.nm i) t::ss) U=execs cf mt Ai ss (U'.set i (some c)):=by rw[AJ,Kv,h];rfl
theorem Nd{i:Nat}(h:ev cf mt t U= .err 4 .Az U'):execs cf mt Ai (.asg (.nm i) t::ss) U= .err 4 .Az U':=by rw[AJ,Kv,h];rfl
theorem N5(h:ev cf mt t U= .ok c U'):execs cf mt Ai (.expr t::ss) U=execs cf mt Ai ss U':=by rw[AJ,Ii,h];rfl
theorem N3(h:ev cf mt t U= .err 4 .Az U'):execs cf mt Ai (.expr t::ss) U= .err 4 .Az U':=by rw[AJ,Ii,h];rfl
theorem DP{r:Env}{o:Option (P×C)}(h:ev cf mt t U=Kx o r):UC (execs cf mt Ai [.ret (some t)] U) o r:=by
 rw[AJ,OA,h];cases o with
 |none=>exact#[_,rfl]
 |some q=>rfl
theorem UC.jS{R:Res Fl}{o:Option (P×C)}(h:UC R o r):UC (jS cf mt ss R) o r:=by
 cases o with
 |none=>obtain⟨U,h⟩:=h;exact#[U,by rw[h];rfl]
 |some q=>have h:R=_:=h;rw[h];rfl
theorem UC.of{R R':Res Fl}{o:Option (P×C)}(e:R=R')(h:UC R' o r):UC R o r:=e▸h
theorem Yu{r:Env}{o:Option (P×C)}(h:ev cf mt t U=Kx o r):ev cf mt (.tup [.An x,t]) U=Kx (o.map λu=>(.tup [x,u.1],u.2)) r:=by
 rw[LW,CU,Hf];show W4 (Ux x (jD cf mt [] (ev cf mt t U)))=_;rw[h];cases o<;>rfl
theorem gY{r:Env}{o:Option (P×C)}(hv:A8 U 2=some (.p v))(h:ev cf mt t U=Kx o r):ev cf mt (.tup [.An x,.A3 2,t]) U=Kx (o.map λu=>(.tup [x,v,u.1],u.2)) r:=by
 rw[Ij,CU,Hf];show W4 (Ux x (jD cf mt [t] (jV 2 U (A8 U 2))))=_;rw[hv];show W4 (Ux x (Ux v (jD cf mt [] (ev cf mt t U))))=_;rw[h];cases o<;>rfl
end Iv
namespace Lk52
open Iv PySem
variable{cf:CF}
variable{np nl:Nat}{body:List S}{args:List C}{U0:Iv.Env}{outs:List (Option C)}
theorem Af{k f:Nat}(hf:As[f]? =some #[np,nl,body])(hl:args.length=np)(h0:args.map some++List.replicate (nl-np) none=U0)(e:k<<<body>>>U0= .ok (.ret c) U)(ho:CM #[np,nl,body] U=outs): ~~~(k+1) f args= .ok c outs:=by
 subst h0 ho;exact T3 hf hl e
theorem RG{k f:Nat}(hf:As[f]? =some #[np,nl,body])(hl:args.length=np)(h0:args.map some++List.replicate (nl-np) none=U0)(e:k<<<body>>>U0= .ok .nx U)(ho:CM #[np,nl,body] U=outs): ~~~(k+1) f args= .ok (.p .Az) outs:=by
 subst h0 ho;exact WQ hf hl e
theorem AW{k f x:Nat}(hf:As[f]? =some #[np,nl,body])(hl:args.length=np)(h0:args.map some++List.replicate (nl-np) none=U0)(e:k<<<body>>>U0= .err x p U): ~~~(k+1) f args= .err x p:=by
 subst h0;show(match As[f]? with|some fi=>Dx (~~~k) mt Ai fi args|none=>.A2)=_;rw[hf];show Dx (~~~k) mt Ai #[np,nl,body] args=_;unfold Dx;rw[iP hl,e];rfl
theorem KQ{k f:Nat}{o:Option (Iv.P×C)}{ys:List (Option C)}(hf:As[f]? =some #[np,nl,body])(hl:args.length=np)(h0:args.map some++List.replicate (nl-np) none=U0)(e:UC (k<<<body>>>U0) o r)(ho:∀s,CM #[np,nl,body] (some s::r)=some s::ys): ~~~(k+1) f args=Ha o ys:=by
 cases o with
 |none=>obtain⟨U,e⟩:=e;exact AW hf hl h0 e
 |some q=>exact Af hf hl h0 e (ho q.2)
theorem nI:mt.rs=true:=rfl
noncomputable def rd(x:Str)(n:Int):List (Str×B):=[(NW,.p (.str x)),(GK,.p (.int n))]
theorem FC{c:Nat}(hc:c%1000=5){m:Str}{f:Nat}(h:tm.lookup (5,m)=some f):mt.m c m=some f:=by
 show tm.lookup (c%1000,m)=_;rw[hc];exact h
theorem Lv{c:Nat}{r:Iv.Env}:BD (some (.obj c (rd x n))::r) 0 NW=some (.p (.str x)):=rfl
theorem Ka{c:Nat}{r:Iv.Env}:BD (some (.obj c (rd x n))::r) 0 GK=some (.p (.int n)):=rfl
theorem XW{c:Nat}(hc:c%1000=5){r:Iv.Env}:IH mt 0 GK (.p (.int m)) (some (.obj c (rd x n))::r)= .ok .nx (some (.obj c (rd x m))::r):=by
 have:mt.f c GK=true:=by show tl.contains (c%1000,_)=true;rw[hc];rfl
 show(if(mt.f c GK&&decide ((rd x n).length<900))=true then _ else _)=_;rw[this];rfl
end Lk52
namespace Iv
open PySem
variable{cf:CF}{mt:MT}
theorem BS{f:Nat}{hs:List Hd}{cs:List C}{c:C}{outs:List (Option C)}(ec:Ag U hs=some cs)(hc:∀c∈cs,c.cp=true)(e:cf f cs= .ok c outs)(ho:outs.length=cs.length):AK cf f hs U= .ok c U:=by
 have hl:∀{hs:List Hd} {cs:List C},(∀c∈cs,c.cp=true)->BY hs cs=[]:=by
  intro hs
  induction hs with
  |nil=>intro cs _;rfl
  |cons h hs ih=>
    intro cs hc;cases cs with
    |nil=>rfl
    |cons c cs=>
      rw[Em,hc c mS,ih λc hc'=>hc c (mC hc')];rfl
 have hg:∀{hs:List Hd} {cs:List C},(∀c∈cs,c.cp=true)->AD hs cs=true:=by
  intro hs cs hc;unfold AD;rw[all_eq_true];intro q hq;rw[hc q.2 (of_mem_zip hq).2];rfl
 have hb:∀{hs:List Hd} {cs:List C} {outs:List (Option C)} {U' U0:Env},Ag U0 hs=some cs->(∀c∈cs,c.cp=true)->outs.length=cs.length->back U' hs cs outs=some U':=by
  intro hs
  induction hs with
  |nil=>intro cs outs U' U0 ec _ _;cases ec;unfold back;rfl
  |cons h hs ih=>
    intro cs outs U' U0 ec hc ho;unfold Ag at ec;obtain⟨c,e1,e2⟩:=oB ec;obtain⟨ds,e3,rfl⟩:=oM e2;cases outs with
    |nil=>cases ho
    |cons o outs=>
      have h1:=hc c mS;have r:=ih (U':=U') e3 (λc hc'=>hc c (mC hc')) (by simpa using ho);cases h with
      |AN d=>unfold back;exact r
      |A4 i=>unfold back;rw[h1];exact r
      |Aw i f=>unfold back;rw[h1];exact r
 unfold AK;rw[ec];dsimp only;have hle:lend U hs cs=U:=by unfold lend;rw[hl hc];rfl
 rw[hl hc,hg hc,iP #[List.nodup_nil,rfl],e,hle];dsimp only;rw[hb ec hc ho];rfl
variable{F:P->P}
theorem Jh{cond:Env->Res Bool}{elt:Env->Res C}{β:P->Env}(hset:∀x,Ew g x β0=some (β x))(hset2:∀y x,Ew g x (β y)=some (β x))(hc:∀U,cond U= .ok true U):
 ∀(xs acc:List P),(∀x∈xs,elt (β x)= .ok (.p (F x)) (β x))->∀β1,(β1=β0\/∃y,β1=β y)->∃β2,(β2=β0\/∃y,β2=β y)/\Cw g [] cond elt xs acc β1= .ok (acc++xs.map F) β2
 |[],acc,_,β1,h=>#[β1,h,by rw[map_nil,append_nil];rfl]
 | x ::xs,acc,he,β1,h=>by
   obtain⟨β2,q1,q2⟩:=Jh hset hset2 hc xs (acc++[F x]) (λy hy=>he y (mC hy)) (β x) (.inr #[x,rfl]);refine#[β2,q1,?_]
   have hs:Ew g x β1=some (β x):=by
    rcases h with rfl|⟨y,rfl⟩
    .exact hset x
    .exact hset2 y x
   show(if holds [] β1 then(Res.of (Ew g x β1) β1).bind λβ1 _=>(cond β1).bind λb β2=>if b then(elt β2).bind λc β3=>match c with
    |.p y=>Cw g [] cond elt xs (acc++[y]) β3
    |_=>.A2
   else Cw g [] cond elt xs acc β2
   else .A2)=_
   rw[hs]
   show((cond (β x)).bind λb β2=>if b then(elt β2).bind λc β3=>match c with
    |.p y=>Cw g [] cond elt xs (acc++[y]) β3
    |_=>.A2
   else Cw g [] cond elt xs acc β2)=_
   rw[hc,Res.A5,iP rfl,he x mS,Res.A5];show Cw g [] cond elt xs (acc++[F x]) (β x)=_;rw[q2,map_cons,append_assoc];rfl
theorem Av(i j:Int):DM (.int i) (.int j)=some (decide (i=j)):=rfl
theorem eq_str(i j:Str):DM (.str i) (.str j)=some (decide (i=j)):=rfl
theorem EB{f:Nat}{t:T}{h:Hd}{y:Option C}(ha:Ae cf mt [t] U= .ok [h] U)(hc:h.cont U=some (.p p))(e:cf f [.p p]= .ok z [y]):ev cf mt (.call f [t]) U= .ok z U:=by
 rw[Bs,ha];exact BS (cs:=[.p p]) (by show((h.cont U).bind λc=>_)=_;rw[hc];rfl) (λc hc=>by rw[mE hc];rfl) e rfl
theorem GF{f:Nat}{y:Option C}{r:Env}(e:cf f [.p p]= .ok z [y]):ev cf mt (.call f [.A3 0]) (some (.p p)::r)= .ok z (some (.p p)::r):=EB (h:=.A4 0) rfl rfl e
theorem Ov{f:Nat}{y:Option C}{a:Option C}{r:Env}(e:cf f [.p p]= .ok z [y]):ev cf mt (.call f [.A3 1]) (a::some (.p p)::r)= .ok z (a::some (.p p)::r):=EB (h:=.A4 1) rfl rfl e
theorem T6{f:Nat}{y:Option C}{a b:Option C}{r:Env}(e:cf f [.p p]= .ok z [y]):ev cf mt (.call f [.A3 2]) (a::b::some (.p p)::r)= .ok z (a::b::some (.p p)::r):=EB (h:=.A4 2) rfl rfl e
theorem DL{f:Nat}{ts:List T}{y:Option C}(ht:ev cf mt (.A0 o ts) U= .ok (.p p) U)(e:cf f [.p p]= .ok z [y]):ev cf mt (.call f [.A0 o ts]) U= .ok z U:=
 EB (h:=.AN (.p p)) (by show(BP (.A0 o ts) (ev cf mt (.A0 o ts)) U).bind _=_;rw[show BP (.A0 o ts) (ev cf mt (.A0 o ts)) U=jH (ev cf mt (.A0 o ts) U)from rfl,ht];rfl) rfl e
theorem E7{kd:IK}{t elt:T}{h:Hd}{c:C}{xs:List P}{r:Env}{fr:List (Option Nat)}(hk:kd.ok=true)(ha:Ae cf mt [t] U= .ok [h] U)(hc:h.cont U=some c)(hgf:AD [h] [c]=true)(hgu:Bh [h] [c]=[])(hs:B5 kd [c]=some xs)(hl:xs.length<=big)(Ao:FQ (.nm 1) fr=true)(hbi:BL fr U=none::none::r)(hout:∀y,AQ (D1 fr U) fr (none::y::r)=U)
 (he:∀q∈xs,ev cf mt elt (none::some (.p q)::r)= .ok (.p (F q)) (none::some (.p q)::r)):
 ev cf mt (.comp (.nm 1) kd [t] [] elt fr) U= .ok (.lst (xs.map F)) U:=by
 rw[Kb];show(if kd.ok=true then(Ae cf mt [t] U).bind _ else _)=_;rw[iP hk,ha,Res.A5];obtain⟨β2,q1,q2⟩:=Jh (g:=.nm 1) (cond:=HZ cf mt []) (elt:=ev cf mt elt) (F:=F) (β:=λq=>none::some (.p q)::r) (β0:=none::none::r) (λ_=>rfl) (λ_ _=>rfl) HY xs [] he (none::none::r) (.inl rfl);have hco:Ag U [h]=some [c]:=by show((h.cont U).bind λc=>_)=_;rw[hc];rfl
 unfold Jj;rw[hco];dsimp only;rw[hs];dsimp only;have hbg:BU fr [h] [c]=[]:=by unfold BU;rw[hgu];rfl
 rw[hgf,Ao,dZ hl,hbg,hbi,q2,nil_append];rcases q1 with rfl|⟨y,rfl⟩
 .exact congrArg (Res.ok _) (hout none)
 .exact congrArg (Res.ok _) (hout _)
theorem Ib{t elt:T}{h:Hd}{c:C}{xs:List P}(ha:Ae cf mt [t] U= .ok [h] U)(hc:h.cont U=some c)(hcp:c.cp=true)(hs:QW c=some xs)(hl:xs.length<=big)(he:∀q∈xs,ev cf mt elt [none,sP q]= .ok (.p (F q)) [none,sP q]):
 ev cf mt (.comp (.nm 1) .op [t] [] elt [none,none]) U= .ok (.lst (xs.map F)) U:=E7 rfl ha hc (by unfold AD;simp[hcp]) (by unfold Bh;simp[hcp]) hs hl rfl rfl (λ_=>rfl) he
theorem LQ{F:P->Bool}:∀{xs:List P},F9 (xs.map λq=>.bl (F q))=some (xs.map F)
 |[]=>rfl
 | x::xs=>by
   show(F9 (xs.map λq=>.bl (F q))).map _=_;rw[LQ];rfl
theorem all_map{xs:List P}{F:P->Bool}:Ih (.b (.lst (xs.map λq=>.bl (F q))))=some (.p (.bl (xs.all F))):=by
 show(F9 (xs.map λq=>.bl (F q))).map _=_;rw[LQ (xs:=xs)];show some (C.p (.bl ((xs.map F).all id)))=_;rw[List.all_map];rfl
abbrev tx(l:List Nat):Str:=#[l.toArray]
theorem Bn(l:List Nat):(tx l).length=l.length:=by show l.toArray.size=_;simp
theorem CN{l:List Nat}(h:l.length<=big):JZ (.b (.p (.str (tx l))))=some (.p (.int l.length)):=by
 show(if(tx l).length<=big then some (C.p (.int ((tx l).length:Nat)))else none)=_;rw[Bn,iP h]
theorem YO(a b:List Nat):tx a++tx b=tx (a++b):=by
 show(#[a.toArray++b.toArray]:Str)=_;simp
theorem B4{a b:List Nat}(h:a.length+b.length<=big):LS (.b (.p (.str (tx a)))) (.b (.p (.str (tx b))))=some (.p (.str (tx (a++b)))):=by
 show(if(tx a).length+(tx b).length<=big then some (C.p (.str (tx a++tx b)))else none)=_;rw[Bn,Bn,iP h,YO]
theorem Ye(a b:Nat):gx (.str (tx [a])) (.str (tx [b]))=some (decide (a<=b)):=by
 show some (decide ([a].toArray.toList<=[b].toArray.toList))=_;refine congrArg some (decide_eq_decide.mpr ?_);show[a]<=[b]↔_;rw[List.cons_le_cons_iff];simp
 lia
theorem between(a b c:Nat):C5 .le .le (.b (.p (.str (tx [a])))) (.b (.p (.str (tx [c])))) (.b (.p (.str (tx [b]))))=some (.p (.bl (decide (a<=c)&&decide (c<=b)))):=by
 show(gx (.str (tx [a])) (.str (tx [c]))).bind _=_;rw[Ye];show(if decide (a<=c)=true then(gx (.str (tx [c])) (.str (tx [b]))).map _ else _)=_;rw[Ye];cases decide (a<=c)<;>rfl
theorem FR(a b c:Int):C5 .le .le (.b (.p (.int a))) (.b (.p (.int c))) (.b (.p (.int b)))=some (.p (.bl (decide (a<=c)&&decide (c<=b)))):=by
 have e1:∀x y:Int,Cj .le (.b (.p (.int x))) (.b (.p (.int y)))=some (decide (x<=y)):=λ_ _=>rfl
 unfold C5;rw[e1,e1];cases decide (a<=c)<;>rfl
end Iv
local macro_rules
|`(‹$x›)=>`(sP (.str (Iv.tx $x)))
namespace Lk52
open Iv PySem
variable{k:Nat}
def low(c:Nat):Bool:=decide (97<=c)&&decide (c<=122)
def Cr(c:Nat):Bool:=decide (65<=c)&&decide (c<=90)
def DH(c:Nat):Bool:=decide (48<=c)&&decide (c<=57)
def DA(c:Nat):Bool:=low c||Cr c
theorem FH{c:Nat}: ~~~(k+1) 14 [.p (sign c)]= .ok (.p (.bl (DA c))) [sP (sign c)]:=by
 have e:k<<<mT>>>[sP (sign c)]= .ok (.ret (.p (.bl (DA c)))) [sP (sign c)]:=by
  have h1:=between 97 122 c;have h2:=between 65 90 c;unfold mT sign DA low Cr;cases hl:(decide (97<=c)&&decide (c<=122))with
  |true=>rw[hl]at h1;simp! [h1,ZM]
  |false=>rw[hl]at h1;simp! [h1,h2,ZM]
 exact Af mj rfl rfl e (by done)
theorem FI{c:Nat}: ~~~(k+1) 15 [.p (sign c)]= .ok (.p (.bl (DH c))) [sP (sign c)]:=by
 have e:k<<<mQ>>>[sP (sign c)]= .ok (.ret (.p (.bl (DH c)))) [sP (sign c)]:=by
  have h1:=between 48 57 c;unfold mQ sign DH;simp! [h1]
 exact Af mi rfl rfl e (by done)
theorem Gi{cf:CF}{t:T}{h:Hd}{l:List Nat}(ha:Ae cf mt [t] U= .ok [h] U)(hc:h.cont U=some (.p (.str (tx l))))(hl:l.length<=big)(h7:∀c∈l,c<128):
 ev cf mt (.A0 .all [.comp (.nm 1) .op [t] [] (.A0 (.chain .le .le) [#[97],.A3 1,#[122]]) [none,none]]) U= .ok (.p (.bl (l.all low))) U:=by
 have hq:QW (.p (.str (tx l)))=some (l.map sign):=by
  show(if(tx l).length<=big/\l.toArray.all (λc=>decide (c<128))=true then some (l.map sign)else none)=_;rw[Bn,iP #[hl,by simp;exact h7]]
 have hm:=Ib (cf:=cf) (mt:=mt) (elt:=.A0 (.chain .le .le) [#[97],.A3 1,#[122]]) (F:=λq=>match q with| .str x=>.bl (low (x.cps.toList.headD 0))|q=>.bl false) ha hc rfl hq (by simpa using hl) (λq hq=>by
  obtain⟨c,_,rfl⟩:=mem_map.mp hq;have h1:=between 97 122 c;show ev cf mt _ [none,sP (sign c)]= .ok (.p (.bl (low c))) [none,sP (sign c)];unfold sign low
  simp! [h1])
 have hmm:(l.map sign).map (λq=>match q with| .str x=>Iv.P.bl (low (x.cps.toList.headD 0))|q=>.bl false)=(l.map sign).map λq=>.bl ((λq=>match q with| .str x=>low (x.cps.toList.headD 0)|q=>false) q):=by
  rw[map_map,map_map];rfl
 rw[hmm]at hm;rw[Du,Bb,Dt,hm];show Res.of (Ih (.b (.lst _))) U=_;rw[all_map,List.all_map];rfl
def DU(l:List Nat):Bool:=decide (1<=l.length)&&decide (l.length<=8)&&l.all low
noncomputable def F5(l:List Nat):Bool:=match l with
 |[]=>false
 |c::r=>decide (r.length<=7)&&Cr c&&r.all low
theorem CO{l:List Nat}(h7:∀c∈l,c<128)(hb:l.length<=big): ~~~(k+1) 1 [.p (.str (tx l))]= .ok (.p (.bl (DU l))) [‹l›]:=by
 have e:k<<<b1>>>[‹l›]= .ok (.ret (.p (.bl (DU l)))) [‹l›]:=by
  have hl:=CN hb;have hbl:=Gi (cf:= ~~~k) (t:=.A3 0) (h:=.A4 0) (U:=[‹l›]) rfl rfl hb h7;unfold b1 DU
  by_cases h1:(l.length:Int)<1
  .have:¬1<=l.length:=by lia
   simp! [hl,h1,this]
  .have h1':1<=l.length:=by lia
   by_cases h2:(8:Int)<l.length
   .have:¬l.length<=8:=by lia
    simp! [hl,h1,h2,h1',this]
   .have h2':l.length<=8:=by lia
    simp! [hl,h1,h2,h1',h2',↓hbl]
 exact Af f1 rfl rfl e (by done)
end Lk52
namespace Iv
open PySem
theorem Oh{c:Nat}{r:List Nat}(h:r.length<=70000):CI (.b (.p (.str (tx (c::r))))) (some 1) none=some (.p (.str (tx r))):=by
 show(D7 (tx (c::r)) (some 1) none).map _=_;unfold D7;dsimp only;rw[iP #[by decide,by rw[Bn,lC];unfold big;lia]];rfl
theorem PF{l:List Nat}{k c:Nat}(h:l[k]? =some c)(hl:l.length<=big):CP (.b (.p (.str (tx l)))) (.b (.p (.int (k:Int))))=some (.p (sign c)):=by
 show(if(tx l).length<=big then(Ln (tx l).length (k:Int)).bind λk=>((tx l).cps.toList[k]?).map λc=>C.p (sign c)else none)=_;rw[Bn,iP hl,MQ (List.getElem?_eq_some_iff.mp h).1];show(l[k]?).map _=_;rw[h];rfl
theorem Rh:E1 P5 (.b (.p (.int 10))) (.b (.p (.int 60)))=some (.p (.int (10^60))):=rfl
theorem fG:E1 P5 (.b (.p (.int 10))) (.b (.p (.int 30)))=some (.p (.int (10^30))):=rfl
end Iv
namespace Lk52
open Iv PySem
variable{k:Nat}
theorem DD{l:List Nat}(h7:∀c∈l,c<128)(hb:l.length<=70000): ~~~(k+1) 3 [.p (.str (tx l))]= .ok (.p (.bl (F5 l))) [‹l›]:=by
 have e:k<<<b3>>>[‹l›]= .ok (.ret (.p (.bl (F5 l)))) [‹l›]:=by
  have hl:=CN (l:=l) (by unfold big;lia);cases l with
  |nil=>
    have h1:((([]:List Nat).length:Nat):Int)<1:=by decide
    unfold b3;simp! [hl,h1];rfl
  |cons c r=>
    rw[lC]at hb;have h1:¬(r.length:Int)+1<1:=by lia
    have hi:=PF (l:=c::r) (k:=0) rfl (by rw[lC];unfold big;lia);have hi:CP (.b (.p (.str (tx (c::r))))) (.b (.p (.int 0)))=some (.p (sign c)):=hi;have hc:=Oh (c:=c) (r:=r) (by lia);have hch:=between 65 90 c;have ht:Ae (~~~k) mt [.A0 (.Cm true false) [.A3 0,{1}]] [‹c::r›]= .ok [.AN (.p (.str (tx r)))] [‹c::r›]:=by simp! [hc]
    have hbl:=Gi (cf:= ~~~k) ht rfl (by unfold big;lia) (λd hd=>h7 d (mC hd));unfold b3
    by_cases h2:(8:Int)<(r.length:Int)+1
    .have:¬r.length<=7:=by lia
     have hfm:F5 (c::r)=false:=by simp[F5,this]
     rw[hfm];simp! [hl,h1,h2]
    .have h2':r.length<=7:=by lia
     have hch':C5 .le .le (.b (.p (.str (tx [65])))) (.b (.p (sign c))) (.b (.p (.str (tx [90]))))=some (.p (.bl (Cr c))):=hch;cases hcap:Cr c with
     |false=>
       have hfm:F5 (c::r)=false:=by simp[F5,hcap]
       rw[hcap]at hch';rw[hfm];simp! [hl,h1,h2,hi,hch',C7]
     |true=>
       have hfm:F5 (c::r)=r.all low:=by simp[F5,hcap,h2']
       rw[hcap]at hch';rw[hfm];simp! [hl,h1,h2,hi,hch',C7,↓hbl]
 exact Af f3 rfl rfl e (by done)
theorem Lp : ~~~(k+1) 2 [.p (.int i)]= .ok (.p (.bl true)) [sP (.int i)]:=by
 have e:k<<<b2>>>[sP (.int i)]= .ok (.ret (.p (.bl true))) [sP (.int i)]:=by
  unfold b2;simp! [C7,Pe]
 exact Af f2 rfl rfl e (by done)
theorem K6{i:Int}(h:i.natAbs<10^60): ~~~(k+2) 4 [.p (.int i)]= .ok (.p (.bl true)) [sP (.int i)]:=by
 have hc:=GF (cf:= ~~~(k+1)) (mt:=mt) (r:=[]) (Lp (k:=k) (i:=i));have ha:F3 TK (.b (.p (.int i)))=some (.p (.int (if i<0 then -i else i))):=rfl;have hlt:(if i<0 then -i else i)<10^60:=by split<;>lia
 have e:(k+1)<<<b4>>>[sP (.int i)]= .ok (.ret (.p (.bl true))) [sP (.int i)]:=by
  unfold b4;simp! [↓hc,ha,Rh,C7];exact hlt
 exact Af f4 rfl rfl e (by done)
theorem G9{ps:List Iv.P}: ~~~(k+1) 5 [.p (.tup ps)]= .ok (.p (.bl (decide (ps.length<=3)))) [sP (.tup ps)]:=by
 have e:k<<<b5>>>[sP (.tup ps)]= .ok (.ret (.p (.bl (decide (ps.length<=3))))) [sP (.tup ps)]:=by
  have:decide ((ps.length:Int)<=3)=decide (ps.length<=3):=decide_eq_decide.mpr (by lia);unfold b5;simp! [C7,this]
 exact Af f5 rfl rfl e (by done)
theorem S8{ps:List Iv.P}(h1:1<=ps.length)(h4:ps.length<=4): ~~~(k+1) 8 [.p (.tup ps)]= .ok (.p (.bl true)) [sP (.tup ps)]:=by
 have e:k<<<b8>>>[sP (.tup ps)]= .ok (.ret (.p (.bl true))) [sP (.tup ps)]:=by
  have hc:C5 .le .le (.b (.p (.int 1))) (.b (.p (.int ps.length))) (.b (.p (.int 4)))=some (.p (.bl true)):=by
   rw[FR,dZ (by lia),dZ (by lia)];rfl
  unfold b8;simp! [C7,hc]
 exact Af f8 rfl rfl e (by done)
theorem Cd{ps:List Iv.P}: ~~~(k+1) 9 [.p (.tup (.str x::ps))]= .ok (.p (.bl true)) [sP (.tup (.str x::ps))]:=by
 have e:k<<<b9>>>[sP (.tup (.str x::ps))]= .ok (.ret (.p (.bl true))) [sP (.tup (.str x::ps))]:=by
  have h0:(0:Int)<(ps.length:Int)+1:=by lia
  unfold b9;simp! [C7,h0]
 exact Af f9 rfl rfl e (by done)
theorem AO{l:List Nat}(h:DU l=true):1<=l.length/\l.length<=8/\(∀c∈l,low c=true)/\∀c∈l,c<128:=by
 unfold DU at h;simp only[bA,decide_eq_true_eq,all_eq_true]at h;refine#[h.1.1,h.1.2,h.2,λc hc=>?_];have:=h.2 c hc;unfold low at this;simp only[bA,decide_eq_true_eq]at this
 lia
theorem BH{l:List Nat}(h:F5 l=true):∃c r,l=c::r/\r.length<=7/\Cr c=true/\(∀d∈r,low d=true)/\∀d∈l,d<128:=by
 cases l with
 |nil=>cases h
 |cons c r=>
   unfold F5 at h;simp only[bA,decide_eq_true_eq,all_eq_true]at h;refine#[c,r,rfl,h.1.1,h.1.2,h.2,λd hd=>?_];rcases mK hd with z|z
   .have:=h.1.2;rw[z];unfold Cr at this;simp only[bA,decide_eq_true_eq]at this
    lia
   .have:=h.2 d z;unfold low at this;simp only[bA,decide_eq_true_eq]at this
    lia
abbrev A9(ls:List (List Nat)):List Iv.P:=ls.map λl=>.str (tx l)
variable{ls:List (List Nat)}
theorem K7(h3:ls.length<=3)(hn:∀l∈ls,DU l=true): ~~~(k+2) 6 [.p (.tup (A9 ls)),.p (.fn 1)]= .ok (.p (.bl true)) [sP (.tup (A9 ls)),sP (.fn 1)]:=by
 have hf:=GF (cf:= ~~~(k+1)) (mt:=mt) (r:=[sP (.fn 1)]) (G9 (k:=k) (ps:=A9 ls))
 have hb:(k+1)|||(.comp (.nm 1) .op [.A3 0] [] (.Fc 2 [.A3 1]) [none,none,some 1])&&&[sP (.tup (A9 ls)),sP (.fn 1)]= .ok (.lst ((A9 ls).map λ_=>.bl true)) [sP (.tup (A9 ls)),sP (.fn 1)]:=by
  refine E7 (h:=.A4 0) (c:=.p (.tup (A9 ls))) (xs:=A9 ls) (r:=[sP (.fn 1)]) rfl rfl rfl rfl rfl rfl (by simp;unfold big;lia) rfl rfl (λ_=>rfl) λq hq=>?_
  obtain⟨l,hl,rfl⟩:=mem_map.mp hq;obtain⟨_,n3,_,n2⟩:=AO (hn l hl);have e1:=CO (k:=k) n2 (by unfold big;lia);rw[hn l hl]at e1;rw[LX];exact BS (hs:=[.A4 1]) (U:=[none,‹l›,sP (.fn 1)]) (cs:=[.p (.str (tx l))]) rfl (λc hc=>by rw[mE hc];rfl) e1 rfl
 have ha:Ih (.b (.lst ((A9 ls).map λ_=>.bl true)))=some (.p (.bl true)):=by
  rw[all_map (F:=λ_=>true)];simp
 have e:(k+1)<<<b6>>>[sP (.tup (A9 ls)),sP (.fn 1)]= .ok (.ret (.p (.bl true))) [sP (.tup (A9 ls)),sP (.fn 1)]:=by
  have h3':(A9 ls).length<=3:=by simpa using h3
  rw[dZ h3']at hf
  have hbc:(k+1)|||(.A0 .all [.comp (.nm 1) .op [.A3 0] [] (.Fc 2 [.A3 1]) [none,none,some 1]])&&&[sP (.tup (A9 ls)),sP (.fn 1)]= .ok (.p (.bl true)) [sP (.tup (A9 ls)),sP (.fn 1)]:=by
   rw[Du,Bb,Dt,hb];show Res.of (Ih (.b (.lst _))) _=_;rw[ha];rfl
  unfold b6;simp! [↓hf,↓hbc,C7]
 exact Af f6 rfl rfl e (by done)
theorem Dw:∀ls:List (List Nat),Bw (A9 ls)=some (ls.map tx)
 |[]=>rfl
 | l::ls=>by
   show(Bw (A9 ls)).map _=_;rw[Dw ls];rfl
theorem M6{a b:List Nat}(h:tx a=tx b):a=b:=by
 injection h with h
 exact List.toArray_inj h
theorem G5:∀l:List Str,AB l<=l.length/\(AB l=l.length↔l.Nodup)
 |[]=>#[lR,by simp[AB]]
 | x ::l=>by
   obtain⟨h1,h2⟩:=G5 l;rw[nodup_cons,lC];unfold AB
   by_cases h:x∈l
   .rw[iP (by simpa using h)];exact#[by lia,λz=>by lia,λz=>absurd h z.1]
   .rw[iN (by simpa using h)];exact#[by lia,λz=>#[h,h2.mp (by lia)],λz=>by rw[h2.mpr z.2]]
structure UB(ls:List (List Nat)):Prop where
 len:ls.length<=3
 nm:∀l∈ls,DU l=true
 nd:ls.Nodup
theorem FG(h3:ls.length<=3)(hn:∀l∈ls,DU l=true): ~~~(k+3) 7 [.p (.tup (A9 ls))]= .ok (.p (.bl (decide ls.Nodup))) [sP (.tup (A9 ls))]:=by
 have hc:(k+2)|||(.call 6 [.A3 0,.An (.fn 1)])&&&[sP (.tup (A9 ls))]= .ok (.p (.bl true)) [sP (.tup (A9 ls))]:=by
  rw[Bs];exact BS (hs:=[.A4 0,.AN (.p (.fn 1))]) (U:=[sP (.tup (A9 ls))]) (cs:=[.p (.tup (A9 ls)),.p (.fn 1)]) rfl (λc hc=>by rcases mK hc with z|z;(· rw[z];rfl);(· rw[mE z];rfl)) (K7 (k:=k) h3 hn) rfl
 have hs:En (.b (.p (.tup (A9 ls))))=some (.p (.int (AB (ls.map tx):Nat))):=by
  show((Bw (A9 ls)).bind λxs=>if xs.length<4000 then some (C.p (.int (AB xs)))else none)=_;rw[Dw];show(if(ls.map tx).length<4000 then some (C.p (.int (AB (ls.map tx))))else none)=_;rw[lM,iP (by lia)]
 have hd:decide (((AB (ls.map tx):Nat):Int)=(ls.length:Int))=decide ls.Nodup:=decide_eq_decide.mpr (by
  have h:=(G5 (ls.map tx)).2;rw[lM]at h;refine#[λz=>?_,λz=>?_]
  .exact(pairwise_map.mp (h.mp (by lia))).imp λhab q=>hab (by rw[q])
  .rw[h.mpr (pairwise_map.mpr (z.imp λhab q=>hab (M6 q)))])
 have e:(k+2)<<<b7>>>[sP (.tup (A9 ls))]= .ok (.ret (.p (.bl (decide ls.Nodup)))) [sP (.tup (A9 ls))]:=by
  unfold b7;simp! [↓hc,hs,C7,Av,hd]
 exact Af f7 rfl rfl e (by done)
noncomputable def Bp(l:List Nat)(ls:List (List Nat))(q:Iv.P):Iv.P:=.tup [.str (tx l),.tup (A9 ls),q]
inductive Ex:Nat->Iv.P->Prop where
 |num {n:Nat} (i:Int) (h:i.natAbs<10^60):Ex (n+1) (.tup [.str BF,.int i])
 |Pm {n:Nat} (l:List Nat) (h:DU l=true):Ex (n+1) (.tup [.str BA,.str (tx l)])
 |Ga {n:Nat} (l:List Nat) (ps:List Iv.P) (h:F5 l=true) (h3:ps.length<=3) (hp:∀q∈ps,Ex n q):Ex (n+1) (.tup [.str Bm,.str (tx l),.tup ps])
 |call {n:Nat} (l:List Nat) (ps:List Iv.P) (h:DU l=true) (h3:ps.length<=3) (hp:∀q∈ps,Ex n q):Ex (n+1) (.tup [.str BG,.str (tx l),.tup ps])
 |case {n:Nat} (q:Iv.P) (as:List (List Nat×List (List Nat)×Iv.P)) (hq:Ex n q) (h1:1<=as.length) (h4:as.length<=4) (ha:∀a∈as,F5 a.1=true/\UB a.2.1) (hp:∀a∈as,Ex n a.2.2):Ex (n+1) (.tup [.str Aj,q,.tup (as.map λa=>Bp a.1 a.2.1 a.2.2)])
theorem MZ{l:List Nat}(h:F5 l=true)(hn:UB ls): ~~~(k+4) 10 [.p (Bp l ls q)]= .ok (.p (.bl true)) [sP (Bp l ls q)]:=by
 obtain⟨c,r,hc,h7,_,_,hl⟩:=BH h;have e1: ~~~(k+3) 3 [.p (.str (tx l))]= .ok (.p (.bl true)) [‹l›]:=h▸DD (k:=k+2) hl (by rw[hc,lC];lia);have e2:=FG (k:=k) hn.len hn.nm;rw[dZ hn.nd]at e2;have hc1:(k+3)|||(.call 3 [{0,0}])&&&[sP (Bp l ls q)]= .ok (.p (.bl true)) [sP (Bp l ls q)]:=DL (by unfold Bp;simp! []) e1;have hc2:(k+3)|||(.call 7 [{0,1}])&&&[sP (Bp l ls q)]= .ok (.p (.bl true)) [sP (Bp l ls q)]:=DL (by unfold Bp;simp! []) e2
 have e:(k+3)<<<mU>>>[sP (Bp l ls q)]= .ok (.ret (.p (.bl true))) [sP (Bp l ls q)]:=by
  unfold mU;unfold Bp at hc1 hc2 ⊢;simp! [↓hc1,↓hc2,C7,Av]
 exact Af mr rfl rfl e (by done)
theorem Ce(a b:List Nat):DM (.str (tx a)) (.str (tx b))=some (decide (a=b)):=by
 rw[eq_str];exact congrArg some (decide_eq_decide.mpr #[M6,λz=>by rw[z]])
variable{n:Nat}
theorem Lr(h:Ex n p): ~~~(k+5) 11 [.p p]= .ok (.p (.bl true)) [sP p]:=by
 suffices e:∃y,(k+4)<<<cq>>>[sP p,none]= .ok (.ret (.p (.bl true))) [sP p,y]by
  obtain⟨y,e⟩:=e;exact Af mq rfl rfl e (by done)
 cases h with
 |num i hi=>
   have h9:=GF (cf:= ~~~(k+4)) (mt:=mt) (r:=[none]) (Cd (k:=k+3) (x:=BF) (ps:=[.int i]));have h4:(k+4)|||(.call 4 [{0,1}])&&&[sP (.tup [.str BF,.int i]),sP (.str BF)]= .ok (.p (.bl true)) [sP (.tup [.str BF,.int i]),sP (.str BF)]:=DL (by simp! []) (K6 (k:=k+2) hi);refine#[some (.p (.str BF)),?_];unfold cq;simp! [↓h9,↓h4,C7,Av,Ce]
 |Pm l hl=>
   obtain⟨l1,l8,_,l7⟩:=AO hl;have h9:=GF (cf:= ~~~(k+4)) (mt:=mt) (r:=[none]) (Cd (k:=k+3) (x:=BA) (ps:=[.str (tx l)]));have h4:(k+4)|||(.call 1 [{0,1}])&&&[sP (.tup [.str BA,.str (tx l)]),sP (.str BA)]= .ok (.p (.bl true)) [sP (.tup [.str BA,.str (tx l)]),sP (.str BA)]:=DL (by simp! []) (hl▸CO (k:=k+3) l7 (by unfold big;lia));refine#[some (.p (.str BA)),?_];unfold cq;simp! [↓h9,↓h4,C7,Av,Ce]
 |Ga l ps hl h3 _=>
   obtain⟨c,r,hc,r7,_,_,l7⟩:=BH hl;have h9:=GF (cf:= ~~~(k+4)) (mt:=mt) (r:=[none]) (Cd (k:=k+3) (x:=Bm) (ps:=[.str (tx l),.tup ps]));have h4:(k+4)|||(.call 3 [{0,1}])&&&[sP (.tup [.str Bm,.str (tx l),.tup ps]),sP (.str Bm)]= .ok (.p (.bl true)) [sP (.tup [.str Bm,.str (tx l),.tup ps]),sP (.str Bm)]:=DL (by simp! []) (hl▸DD (k:=k+3) l7 (by rw[hc,lC];lia));have h5:(k+4)|||(.call 5 [{0,2}])&&&[sP (.tup [.str Bm,.str (tx l),.tup ps]),sP (.str Bm)]= .ok (.p (.bl true)) [sP (.tup [.str Bm,.str (tx l),.tup ps]),sP (.str Bm)]:=DL (by simp! []) (dZ h3▸G9 (k:=k+3) (ps:=ps));refine#[some (.p (.str Bm)),?_];unfold cq;simp! [↓h9,↓h4,↓h5,C7,Av,Ce]
 |call l ps hl h3 _=>
   obtain⟨l1,l8,_,l7⟩:=AO hl;have h9:=GF (cf:= ~~~(k+4)) (mt:=mt) (r:=[none]) (Cd (k:=k+3) (x:=BG) (ps:=[.str (tx l),.tup ps]));have h4:(k+4)|||(.call 1 [{0,1}])&&&[sP (.tup [.str BG,.str (tx l),.tup ps]),sP (.str BG)]= .ok (.p (.bl true)) [sP (.tup [.str BG,.str (tx l),.tup ps]),sP (.str BG)]:=DL (by simp! []) (hl▸CO (k:=k+3) l7 (by unfold big;lia));have h5:(k+4)|||(.call 5 [{0,2}])&&&[sP (.tup [.str BG,.str (tx l),.tup ps]),sP (.str BG)]= .ok (.p (.bl true)) [sP (.tup [.str BG,.str (tx l),.tup ps]),sP (.str BG)]:=DL (by simp! []) (dZ h3▸G9 (k:=k+3) (ps:=ps));refine#[some (.p (.str BG)),?_];unfold cq;simp! [↓h9,↓h4,↓h5,C7,Av,Ce]
 |case q as hq h1 h4 ha hp=>
   generalize hP:as.map (λa=>Bp a.1 a.2.1 a.2.2)=ps;have hl:ps.length=as.length:=by rw[<-hP,lM]
   have h9:=GF (cf:= ~~~(k+4)) (mt:=mt) (r:=[none]) (Cd (k:=k+3) (x:=Aj) (ps:=[q,.tup ps]));have h8:(k+4)|||(.call 8 [{0,2}])&&&[sP (.tup [.str Aj,q,.tup ps]),sP (.str Aj)]= .ok (.p (.bl true)) [sP (.tup [.str Aj,q,.tup ps]),sP (.str Aj)]:=DL (by simp! []) (S8 (k:=k+3) (ps:=ps) (by lia) (by lia));have ht:Ae (~~~(k+4)) mt [{0,2}] [sP (.tup [.str Aj,q,.tup ps]),sP (.str Aj)]= .ok [.AN (.p (.tup ps))] [sP (.tup [.str Aj,q,.tup ps]),sP (.str Aj)]:=by simp! []
   have hb:=Ib (cf:= ~~~(k+4)) (mt:=mt) (elt:=.call 10 [.A3 1]) (F:=λ_=>.bl true) ht rfl rfl rfl (by unfold big;lia) (λx hx=>by
    rw[<-hP]at hx;obtain⟨a,hm,rfl⟩:=mem_map.mp hx
    exact Ov (MZ (k:=k) (ha a hm).1 (ha a hm).2))
   have hbc:(k+4)|||(.A0 .all [.comp (.nm 1) .op [{0,2}] [] (.call 10 [.A3 1]) [none,none]])&&&[sP (.tup [.str Aj,q,.tup ps]),sP (.str Aj)]= .ok (.p (.bl true)) [sP (.tup [.str Aj,q,.tup ps]),sP (.str Aj)]:=by
    rw[Du,Bb,Dt,hb];show Res.of (Ih (.b (.lst _))) _=_;rw[all_map (F:=λ_=>true)];simp
   refine#[some (.p (.str Aj)),?_];unfold cq;simp! [↓h9,↓h8,↓hbc,C7,Av,Ce]
noncomputable def AZ:Iv.P->List Iv.P
 |.tup [_,.str _,.tup ps]=>ps
 | .tup [_,q,.tup as]=>q::as.map λa=>match a with
   |.tup [_,_,x]=>x
   |a=>a
 |_=>[]
theorem EY{s:Iv.P}{q:Iv.P}{as:List (List Nat×List (List Nat)×Iv.P)}(hq:∀x,q≠.str x):AZ (.tup [s,q,.tup (as.map λa=>Bp a.1 a.2.1 a.2.2)])=q::as.map λa=>a.2.2:=by
 have:AZ (.tup [s,q,.tup (as.map λa=>Bp a.1 a.2.1 a.2.2)])=q::(as.map λa=>Bp a.1 a.2.1 a.2.2).map λa=>match a with
  |.tup [_,_,x]=>x
  |a=>a:=by
  cases q with
  |str x=>exact absurd rfl (hq x)
  |_=>rfl
 rw[this,map_map];rfl
theorem Ex.Y9(h:Ex n p):∀x,p≠.str x:=by cases h<;>exact λx z=>by cases z
theorem RA(h:Ex n p): ~~~(k+1) 12 [.p p]= .ok (.lst (AZ p)) [sP p]:=by
 suffices e:k<<<cn>>>[sP p]= .ok (.ret (.lst (AZ p))) [sP p]from Af mn rfl rfl e (by done)
 cases h with
 |num i hi=>
   show _=Res.ok (Fl.ret (.lst [])) _;unfold cn;simp! [Ce]
 |Pm l hl=>
   show _=Res.ok (Fl.ret (.lst [])) _;unfold cn;simp! [Ce]
 |Ga l ps hl h3 _=>
   show _=Res.ok (Fl.ret (.lst ps)) _;unfold cn;simp! [Ce,OU]
 |call l ps hl h3 _=>
   show _=Res.ok (Fl.ret (.lst ps)) _;unfold cn;simp! [Ce,OU]
 |case q as hq h1 h4 ha hp=>
   rw[EY hq.Y9];generalize hP:as.map (λa=>Bp a.1 a.2.1 a.2.2)=ps;have hl:ps.length=as.length:=by rw[<-hP,lM]
   have ht:Ae (~~~k) mt [{0,2}] [sP (.tup [.str Aj,q,.tup ps])]= .ok [.AN (.p (.tup ps))] [sP (.tup [.str Aj,q,.tup ps])]:=by simp! []
   have hb:=Ib (cf:= ~~~k) (mt:=mt) (elt:={1,2}) (F:=λa=>match a with| .tup [_,_,x]=>x|a=>a) ht rfl rfl rfl (by unfold big;lia) (λx hx=>by
    rw[<-hP]at hx;obtain⟨a,hm,rfl⟩:=mem_map.mp hx;show ev _ _ _ [none,sP (Bp a.1 a.2.1 a.2.2)]= .ok (.p a.2.2) _;unfold Bp
    simp! [])
   have hm:ps.map (λa=>match a with| .tup [_,_,x]=>x|a=>a)=as.map λa=>a.2.2:=by rw[<-hP,map_map];rfl
   rw[hm]at hb
   have had:LS (.b (.lst [q])) (.b (.lst (as.map λa=>a.2.2)))=some (.lst (q::as.map λa=>a.2.2)):=by
    show(Ky ([q]++as.map λa=>a.2.2)).map _=_;unfold Ky;rw[iP (by simp;unfold big;lia)];rfl
   unfold cn;simp! [Ce,↓hb,had]
noncomputable def YM:List S:=[.asg (.nm 2) (.A0 .add [.A3 2,{1}]),.asg (.nm 3) (.Ey .pop (.A3 1) []),.asg (.nm 4) ({3,0}),.asg (.nm 5) ({3,1}),.ifs (.or (.A0 .gt [.A3 2,{40}]) (.or (.A0 .gt [.A3 5,{11}]) (.not (.call 11 [.A3 4])))) [.ret (some (.An (.bl false)))] [],.expr (.Ey .extend (.A3 1) [.comp (.nm 1) .op [.call 12 [.A3 4]] [] (.tup [.A3 1,.A0 .add [.A3 2,{1}]]) [none,none,some 5]])]
theorem To:jU=[.asg (.nm 1) (.lst [.tup [.A3 0,{0}]]),.asg (.nm 2) {0},.M3 (.A3 1) YM,.ret (some (.An (.bl true)))]:=rfl
def HN(a:Nat)(p:Iv.P):Iv.P:=.tup [p,.int a]
noncomputable def sz:Nat->Iv.P->Nat
 |0,_=>0
 |n+1,p=>1+((AZ p).map (sz n)).sum
theorem Ex.parts(h:Ex (n+1) p):(∀q∈AZ p,Ex n q)/\(AZ p).length<=5:=by
 cases h with
 |num i hi=>exact#[λq hq=>(by cases hq),by show 0<=5;lia]
 |Pm l hl=>exact#[λq hq=>(by cases hq),by show 0<=5;lia]
 |Ga l ps hl h3 hp=>exact#[hp,by show ps.length<=5;lia]
 |call l ps hl h3 hp=>exact#[hp,by show ps.length<=5;lia]
 |case q as hq h1 h4 ha hp=>
   rw[EY hq.Y9];refine#[λx hx=>?_,by simp;lia];rcases mK hx with z|z
   .rw[z];exact hq
   .obtain⟨a,hm,rfl⟩:=mem_map.mp z;exact hp a hm
variable{p0 y3 y4 y5:Option C}{ws:List Iv.P}
theorem Wo{a nodes:Nat}(h:Ex (n+1) p)(ha:a<=11)(hn:nodes<40)(hw:ws.length<=1000):
 (k+5)<<<YM>>>[p0,sL (ws++[HN a p]),sP (.int nodes),y3,y4,y5]= .ok .nx [p0,sL (ws++(AZ p).map (HN (a+1))),sP (.int ((nodes:Int)+1)),sP (HN a p),sP p,sP (.int a)]:=by
 obtain⟨h1,h2⟩:=h.parts;generalize hU:([p0,sL ws,sP (.int ((nodes:Int)+1)),sP (HN a p),sP p,sP (.int a)]:Iv.Env)=U
 have hc:(k+5)|||(.call 11 [.A3 4])&&&U= .ok (.p (.bl true)) U:=by
  subst hU;exact EB (h:=.A4 4) rfl rfl (Lr (k:=k) h)
 have hb:(k+5)|||(.comp (.nm 1) .op [.call 12 [.A3 4]] [] (.tup [.A3 1,.A0 .add [.A3 2,{1}]]) [none,none,some 5])&&&U= .ok (.lst ((AZ p).map (HN (a+1)))) U:=by
  subst hU;have hd:(k+5)|||(.call 12 [.A3 4])&&&[p0,sL ws,sP (.int ((nodes:Int)+1)),sP (HN a p),sP p,sP (.int a)]= .ok (.lst (AZ p)) [p0,sL ws,sP (.int ((nodes:Int)+1)),sP (HN a p),sP p,sP (.int a)]:=EB (h:=.A4 4) rfl rfl (RA (k:=k+4) h);refine E7 (h:=.AN (.lst (AZ p))) (c:=.lst (AZ p)) (r:=[sP (.int a)]) rfl (by simp! [↓hd]) rfl rfl rfl rfl (by unfold big;lia) rfl rfl (λ_=>rfl) λq hq=>?_
  unfold HN;simp! []
 have hx:ws.length+(AZ p).length<=big:=by unfold big;lia
 have h40:¬(40:Int)<(nodes:Int)+1:=by lia
 have h11:¬(11:Int)<(a:Int):=by lia
 unfold YM;subst hU;unfold HN at hc hb ⊢;simp! [MC,FE,↓hc,↓hb,h40,h11,hx]
abbrev Wt:=Nat×Nat×Iv.P
def Qa(ws:List Wt):Nat:=(ws.map λw=>sz w.1 w.2.2).sum
theorem Ex.pos(h:Ex n p):∃m,n=m+1:=by cases h<;>exact#[_,rfl]
theorem Jx(a b:List Wt):Qa (a++b)=Qa a+Qa b:=by unfold Qa;rw[map_append,List.sum_append]
theorem PR{p:Iv.P}:
 k<<<YM>>>[p0,sL (ws++[.tup [p,.int a]]),sP (.int 40),y3,y4,y5]= .ok (.ret (.p (.bl false))) [p0,sL ws,sP (.int 41),sP (.tup [p,.int a]),sP p,sP (.int a)]:=by
 unfold YM;simp! [MC]
theorem Ws:∀(m nodes:Nat) (ws:List Wt) (y3 y4 y5:Option C),nodes+m=40->(∀w∈ws,Ex w.1 w.2.2/\w.2.1+w.1<=12)->ws.length<=5*nodes+1->
 ∃U,Ai (tv (~~~(k+5)) mt (.A3 1)) (execs (~~~(k+5)) mt Ai YM) [p0,sL (ws.map λw=>HN w.2.1 w.2.2),sP (.int nodes),y3,y4,y5]=if nodes+Qa ws<=40 then .ok .nx (p0::U)else .ok (.ret (.p (.bl false))) (p0::U):=by
 intro m
 induction m with
 |zero=>
   intro nodes ws y3 y4 y5 hm hw hl;rcases List.eq_nil_or_concat ws with rfl|⟨ws',w,rfl⟩
   .refine#[[sL [],sP (.int nodes),y3,y4,y5],?_];rw[BQ,iP (by show nodes+0<=40;lia)];rfl
   .obtain⟨n,a,p⟩:=w;rw[List.concat_eq_append]at hw ⊢;obtain⟨n',rfl⟩:=(hw (n,a,p) (by simp)).1.pos;have h1:Qa [(n'+1,a,p)]=1+((AZ p).map (sz n')).sum:=rfl;have h40:nodes=40:=by lia
    subst h40;refine#[[sL (ws'.map λw=>HN w.2.1 w.2.2),sP (.int 41),sP (HN a p),sP p,sP (.int a)],?_];rw[iN (by rw[Jx,h1];lia),map_append,BQ];generalize ws'.map (λw=>HN w.2.1 w.2.2)=vs;have hc:tv (~~~(k+5)) mt (.A3 1) [p0,sL (vs++[HN a p]),sP (.int 40),y3,y4,y5]= .ok true [p0,sL (vs++[HN a p]),sP (.int 40),y3,y4,y5]:=by simp! []
    show(tv _ _ _ [p0,sL (vs++[HN a p]),sP (.int 40),y3,y4,y5]).bind _=_;rw[hc,Res.A5,iP rfl];unfold HN;rw[PR];rfl
 |succ m ih=>
   intro nodes ws y3 y4 y5 hm hw hl;rcases List.eq_nil_or_concat ws with rfl|⟨ws',w,rfl⟩
   .refine#[[sL [],sP (.int nodes),y3,y4,y5],?_];rw[BQ,iP (by show nodes+0<=40;lia)];rfl
   .obtain⟨n,a,p⟩:=w;rw[List.concat_eq_append]at hw hl ⊢;rw[lA,lS]at hl;obtain⟨hx,hb⟩:=hw (n,a,p) (by simp);obtain⟨n',rfl⟩:=hx.pos;obtain⟨hp1,hp2⟩:=hx.parts;have hb:a+(n'+1)<=12:=hb;have e1:Qa ((AZ p).map λq=>(n',a+1,q))=((AZ p).map (sz n')).sum:=by unfold Qa;rw[map_map];rfl
    obtain⟨U,e⟩:=ih (nodes+1) (ws'++(AZ p).map λq=>(n',a+1,q)) (some (.p (HN a p))) (some (.p p)) (some (.p (.int a))) (by lia) (λw hw2=>by
     rcases mZ hw2 with z|z
     .exact hw w (mL z)
     .obtain⟨q,hq,rfl⟩:=mem_map.mp z
      exact#[hp1 q hq,by show a+1+n'<=12;lia]) (by rw[lA,lM];lia)
    refine#[U,?_];have ht:=Wo (k:=k) (n:=n') (a:=a) (nodes:=nodes) (p:=p) (p0:=p0) (y3:=y3) (y4:=y4) (y5:=y5) (ws:=ws'.map λw=>HN w.2.1 w.2.2) hx (by lia) (by lia) (by rw[lM];lia);have h1:Qa [(n'+1,a,p)]=1+((AZ p).map (sz n')).sum:=rfl;rw[map_append,map_map,Jx,e1]at e;rw[map_append,BQ,Jx,h1];generalize ws'.map (λw=>HN w.2.1 w.2.2)=vs at ht e ⊢;have hc:tv (~~~(k+5)) mt (.A3 1) [p0,sL (vs++[HN a p]),sP (.int nodes),y3,y4,y5]= .ok true [p0,sL (vs++[HN a p]),sP (.int nodes),y3,y4,y5]:=by simp! []
    show(tv _ _ _ [p0,sL (vs++[HN a p]),sP (.int nodes),y3,y4,y5]).bind _=_;rw[hc,Res.A5,iP rfl,ht,Res.A5,show nodes+(Qa ws'+(1+((AZ p).map (sz n')).sum))=nodes+1+(Qa ws'+((AZ p).map (sz n')).sum)by lia];rw[show((nodes+1:Nat):Int)=(nodes:Int)+1 by lia]at e;exact e
theorem MS(h:Ex n p)(hn:n<=12): ~~~(k+6) 13 [.p p]= .ok (.p (.bl (decide (sz n p<=40)))) [sP p]:=by
 obtain⟨U,e⟩:=Ws (k:=k) (p0:=some (.p p)) 40 0 [(n,0,p)] none none none rfl (λw hw=>by rw[mE hw];exact#[h,by show 0+n<=12;lia]) (by simp);rw[show 0+Qa [(n,0,p)]=sz n p by show 0+(sz n p+0)=_;lia]at e;have e:exec (~~~(k+5)) mt Ai (.M3 (.A3 1) YM) [sP p,sL [.tup [p,.int 0]],sP (.int 0),none,none,none]=_:=e
 by_cases hs:sz n p<=40
 .rw[iP hs]at e;rw[dZ hs]
  suffices e2:(k+5)<<<jU>>>[sP p,none,none,none,none,none]= .ok (.ret (.p (.bl true))) (some (.p p)::U)from Af jL rfl rfl e2 rfl
  rw[To];simp! [↓e]
 .rw[iN hs]at e;rw[dF hs]
  suffices e2:(k+5)<<<jU>>>[sP p,none,none,none,none,none]= .ok (.ret (.p (.bl false))) (some (.p p)::U)from Af jL rfl rfl e2 rfl
  rw[To];simp! [↓e]
end Lk52
namespace Iv
open PySem
def dg(n:Nat):List Nat:=(Nat.toDigits 10 n).map Char.toNat
variable{n:Nat}
theorem Oe(h:n<10):dg n=[48+n]:=by
 unfold dg;rw[Nat.toDigits_of_lt_base h];show[n.digitChar.toNat]=_;have:∀m<10,m.digitChar.toNat=48+m:=by decide
 rw[this n h]
theorem Of(h:10<=n):dg n=dg (n/10)++[48+n%10]:=by
 unfold dg;rw[Nat.toDigits_of_base_le (by decide) h,map_append];show _++[(n%10).digitChar.toNat]=_;have:∀m<10,m.digitChar.toNat=48+m:=by decide
 rw[this _ (Nat.mod_lt _ (by decide))]
theorem SN{m:Nat}(hm:0<m)(h:n<10^m):(dg n).length<=m:=by
 unfold dg;rw[lM];exact(Nat.length_toDigits_le_iff (by decide) hm).mpr h
theorem N7(n:Nat):∀c∈dg n,48<=c/\c<=57:=by
 induction n using Nat.strongRecOn with
 |ind n ih=>
   intro c hc
   by_cases h:n<10
   .rw[Oe h]at hc;rw[mE hc]
    lia
   .rw[Of (by lia)]at hc;rcases mZ hc with z|z
    .exact ih (n/10) (by lia) c z
    .rw[mE z];have:=Nat.mod_lt n (show 10>0 by decide)
     lia
theorem Ge(l:List Nat)(c:Nat):BO (l++[c])=BO l*10+(c-48):=by
 unfold BO;rw[foldl_append];rfl
theorem bo(n:Nat):BO (dg n)=n:=by
 induction n using Nat.strongRecOn with
 |ind n ih=>
   by_cases h:n<10
   .rw[Oe h];show 0*10+(48+n-48)=n
    lia
   .rw[Of (by lia),Ge,ih (n/10) (by lia)];have:=Nat.mod_lt n (show 10>0 by decide)
    lia
theorem Kc(n:Nat):∃c r,dg n=c::r/\(c=48->n=0/\r=[]):=by
 induction n using Nat.strongRecOn with
 |ind n ih=>
   by_cases h:n<10
   .exact⟨48+n,[],Oe h,λz=>#[by lia,rfl]⟩
   .obtain⟨c,r,e,hc⟩:=ih (n/10) (by lia);refine#[c,r++[48+n%10],by rw[Of (by lia),e];rfl,λz=>?_];have:=(hc z).1
    lia
def Qf(i:Int):List Nat:=if i<0 then 45::dg i.natAbs else dg i.natAbs
theorem Nt(n:Nat):Str.ofString (toString n)=tx (dg n):=by
 rw[Str.ofString_eq_toList];show(#[_]:Str)=#[_];unfold dg;rw[show(toString n:String)=n.repr from rfl,Nat.toList_repr]
theorem str_int(i:Int):Str.ofString (toString i)=tx (Qf i):=by
 unfold Qf;cases i with
 |ofNat n=>
   rw[iN (by exact Int.not_lt.mpr (Int.natCast_nonneg n))];exact Nt n
 |negSucc n=>
   rw[iP (Int.negSucc_lt_zero n)];show Str.ofString ("-"++toString (n+1))=tx (45::dg (n+1));have:=Nt (n+1);rw[Str.ofString_eq_toList]at this ⊢;rw[String.toList_append,map_append]
   have h2:((toString (n+1)).toList.map Char.toNat)=dg (n+1):=by
    injection this with this
    exact List.toArray_inj this
   rw[h2];rfl
theorem Z3{i:Int}(h:i.natAbs<10^60):F3 QF (.b (.p (.int i)))=some (.p (.str (tx (Qf i)))):=by
 show(if i.natAbs.log2<1920 then some (P.str (Str.ofString (toString i)))else none).map (λk=>C.p k)=_
 have h2 :i.natAbs.log2<1920:=by
  by_cases h0:i.natAbs=0
  .rw[h0];decide
  .rw [Nat.log2_lt h0]
   exact Nat.lt_of_lt_of_le h (by
    calc (10:Nat)^60<=16^60:=Nat.pow_le_pow_left (by decide) 60
     _=2^240:=by rw[show(16:Nat)=2^4 from rfl,<-Nat.pow_mul]
     _<=2^1920:=Nat.pow_le_pow_right (by decide) (by decide))
 rw[iP h2,str_int];rfl
theorem W7{i:Int}(h:i.natAbs<10^60):(Qf i).length<=61:=by
 have:=SN (by decide) h;unfold Qf;split
 .rw[lC];lia
 .lia
end Iv
namespace Iv
open PySem
noncomputable def jn(sep:List Nat):List (List Nat)->List Nat
 |[]=>[]
 |x::r=>x++(r.map λy=>sep++y).flatten
theorem J2(sep:List Nat):∀(xs:List (List Nat)) (a:List Nat),(xs.map tx).foldl (λacc (p:Str)=>acc++(tx sep).cps++p.cps) a.toArray=(a++(xs.map λy=>sep++y).flatten).toArray
 |[],a=>by simp
 | x::xs,a=>by
   rw[map_cons,foldl_cons];have:a.toArray++(tx sep).cps++(tx x).cps=(a++sep++x).toArray:=by simp
   rw[this,J2 sep xs (a++sep++x),map_cons,List.flatten_cons];simp
theorem S4(sep:List Nat)(ls:List (List Nat)):Lm (tx sep) (ls.map tx)=tx (jn sep ls):=by
 cases ls with
 |nil=>rfl
 |cons x r=>
   show(#[(r.map tx).foldl (λacc p=>acc++(tx sep).cps++p.cps) (tx x).cps]:Str)=_;have:=J2 sep r x;exact congrArg Str.mk this
theorem sum_bound{m:Nat}:∀{ls:List (List Nat)},(∀l∈ls,l.length<=m)->(ls.map List.length).sum<=ls.length*m
 |[],_=>by simp
 | l::ls,h=>by
   have h1:=h l mS;have h2:=sum_bound λx hx=>h x (mC hx)
   rw[map_cons,sum_cons,lC,Nat.add_mul]
   lia
variable{sep:List Nat}{ls:List (List Nat)}
theorem K5{m:Nat}(h:∀l∈ls,l.length<=m):(jn sep ls).length<=ls.length*(m+sep.length):=by
 cases ls with
 |nil=>simp[jn]
 |cons x r=>
   have h1:=h x mS
   have h2:((r.map λy=>sep++y).flatten).length<=r.length*(m+sep.length):=by
    rw[List.length_flatten,map_map];have:(List.map (List.length ∘ λy=>sep++y) r).sum=((r.map λy=>sep++y).map List.length).sum:=by rw[map_map]
    rw[this]
    have:=sum_bound (m:=m+sep.length) (ls:=r.map λy=>sep++y) (λl hl=>by
     obtain⟨y,hy,rfl⟩:=mem_map.mp hl;have:=h y (mC hy)
     rw[lA];lia)
    rw[lM]at this;exact this
   unfold jn;rw[lA,lC,Nat.add_mul]
   lia
theorem ME(ls:List (List Nat)):(ls.map tx).map (·.length)=ls.map List.length:=by
 rw[map_map];exact map_congr_left λl _=>Bn l
theorem S5{x:List Nat}(h:x∈ls):x.length<=(jn sep ls).length:=by
 cases ls with
 |nil=>cases h
 |cons y r=>
   unfold jn;rw[lA];rcases mK h with z|z
   .rw[z];lia
   .have h1:(sep++x).length<=((r.map λy=>sep++y).flatten).length:=(List.sublist_flatten_of_mem (mem_map_of_mem z)).length_le;rw[lA]at h1
    lia
end Iv
namespace Lk52
open Iv PySem
variable{ls:List (List Nat)}
theorem CG{sep:List Nat}{m:Nat}(h:∀l∈ls,l.length<=m)(hb:ls.length*(m+sep.length)<=big):HM (tx sep) (.b (.lst (A9 ls)))=some (.p (.str (tx (jn sep ls))))/\HM (tx sep) (.b (.p (.tup (A9 ls))))=some (.p (.str (tx (jn sep ls)))):=by
 have key:(some (A9 ls)).bind (λx=>Bw x)=some (ls.map tx):=Dw ls;have h2:=sum_bound h
 have hc:((ls.map tx).map (·.length)).sum+(ls.map tx).length*(tx sep).length<=big:=by
  rw[ME,lM,Bn];rw[Nat.mul_add]at hb
  lia
 have fin:(if((ls.map tx).map (·.length)).sum+(ls.map tx).length*(tx sep).length<=big then some (C.p (.str (Lm (tx sep) (ls.map tx))))else none)=some (.p (.str (tx (jn sep ls)))):=by
  rw[iP hc,S4]
 refine#[?_,?_]
 .show((some (A9 ls)).bind Bw).bind _=_;rw[key];exact fin
 .show((some (A9 ls)).bind Bw).bind _=_;rw[key];exact fin
noncomputable def Hq(l:List Nat)(ls:List (List Nat))(t:List Nat):List Nat:=l++[40]++jn [44,32] ls++[41,32]++t
noncomputable def sh:Nat->Iv.P->List Nat
 |0,_=>[]
 | n + 1,p=>match p with
   |.tup [_,.int i]=>Qf i
   |.tup [_,.str x]=>x.cps.toList
   |.tup [_,.str x,.tup ps]=>x.cps.toList++[40]++jn [44,32] (ps.map (sh n))++[41]
   | .tup [_,q,.tup as]=>[91]++sh n q++[58,32]++jn [59,32] (as.map λa=>match a with
     |.tup [.str f,.tup ns,x]=>Hq f.cps.toList (ns.map λy=>match y with| .str z=>z.cps.toList|_=>[]) (sh n x)
     |_=>[])++[93]
   |_=>[]
variable{n:Nat}
theorem FZ{s:Iv.P} :sh (n+1) (.tup [s,.int i])=Qf i:=rfl
theorem JE{s:Iv.P}{l:List Nat}:sh (n+1) (.tup [s,.str (tx l)])=l:=rfl
theorem ES{s:Iv.P}{l:List Nat}{ps:List Iv.P}:sh (n+1) (.tup [s,.str (tx l),.tup ps])=l++[40]++jn [44,32] (ps.map (sh n))++[41]:=rfl
theorem Fn{s q:Iv.P}{as:List (List Nat×List (List Nat)×Iv.P)}(hq:∀x,q≠.str x):sh (n+1) (.tup [s,q,.tup (as.map λa=>Bp a.1 a.2.1 a.2.2)])=[91]++sh n q++[58,32]++jn [59,32] (as.map λa=>Hq a.1 a.2.1 (sh n a.2.2))++[93]:=by
 have:sh (n+1) (.tup [s,q,.tup (as.map λa=>Bp a.1 a.2.1 a.2.2)])=[91]++sh n q++[58,32]++jn [59,32] ((as.map λa=>Bp a.1 a.2.1 a.2.2).map λa=>match a with
     |.tup [.str f,.tup ns,x]=>Hq f.cps.toList (ns.map λy=>match y with| .str z=>z.cps.toList|_=>[]) (sh n x)
     |_=>[])++[93]:=by
  cases q with
  |str x=>exact absurd rfl (hq x)
  |_=>rfl
 rw[this,map_map]
 congr 2
 refine congrArg (jn [59,32]) (map_congr_left λa _=>?_);show Hq a.1 ((A9 a.2.1).map λy=>match y with| .str z=>z.cps.toList|_=>[]) (sh n a.2.2)=_;rw[map_map]
 congr 1
 exact map_id'' (λl=>rfl) a.2.1
theorem NS(h:UB ls):(jn [44,32] ls).length<=30:=by
 have:=K5 (sep:=[44,32]) (m:=8) (ls:=ls) λl hl=>(AO (h.nm l hl)).2.1
 have h3:=h.len;have:ls.length*(8+[44,32].length)<=3*10:=Nat.mul_le_mul_right _ h3
 lia
theorem V2{l:List Nat}{t:List Nat}(h:F5 l=true)(hn:UB ls):(Hq l ls t).length<=41+t.length:=by
 obtain⟨c,r,e,h7,_⟩:=BH h;have:=NS hn;unfold Hq;rw[e];simp only[lA,lC,length_nil]
 lia
theorem Ho:∀{n:Nat} {p:Iv.P},Ex n p->(sh n p).length+44<=22*5^n
 | n+1,_,.num i h=>by
   rw[FZ];have:=W7 h;have:5<=5^(n+1):=by rw[Nat.pow_succ];have:=Nat.pow_pos (n:=n) (show 0<5 by decide);lia
   lia
 | n+1,_,.Pm l h=>by
   rw[JE];have:=(AO h).2.1;have:5<=5^(n+1):=by rw[Nat.pow_succ];have:=Nat.pow_pos (n:=n) (show 0<5 by decide);lia
   lia
 | n + 1,_,.Ga l ps h h3 hp=>by
   obtain⟨c,r,e,h7,_⟩:=BH h
   have h1:=K5 (sep:=[44,32]) (m:=22*5^n-44) (ls:=ps.map (sh n)) (λx hx=>by
    obtain⟨q,hq,rfl⟩:=mem_map.mp hx;have:=Ho (hp q hq)
    lia)
   rw[lM]at h1;have h2:ps.length*(22*5^n-44+[44,32].length)<=3*(22*5^n-44+2):=Nat.mul_le_mul_right _ h3;have h5:=Nat.pow_pos (n:=n) (show 0<5 by decide);rw[ES,e];simp only[lA,lC,length_nil,Nat.pow_succ]at *
   lia
 | n + 1,_,.call l ps h h3 hp=>by
   have h8:=(AO h).2.1
   have h1:=K5 (sep:=[44,32]) (m:=22*5^n-44) (ls:=ps.map (sh n)) (λx hx=>by
    obtain⟨q,hq,rfl⟩:=mem_map.mp hx;have:=Ho (hp q hq)
    lia)
   rw[lM]at h1;have h2:ps.length*(22*5^n-44+[44,32].length)<=3*(22*5^n-44+2):=Nat.mul_le_mul_right _ h3;have h5:=Nat.pow_pos (n:=n) (show 0<5 by decide);rw[ES];simp only[lA,lC,length_nil,Nat.pow_succ]at *
   lia
 | n + 1,_,.case q as hq h1 h4 ha hp=>by
   have hb:=Ho hq
   have h2:=K5 (sep:=[59,32]) (m:=22*5^n-3) (ls:=as.map λa=>Hq a.1 a.2.1 (sh n a.2.2)) (λx hx=>by
    obtain⟨a,hm,rfl⟩:=mem_map.mp hx;have:=Ho (hp a hm);have:=V2 (t:=sh n a.2.2) (ha a hm).1 (ha a hm).2
    lia)
   rw[lM]at h2;have h3:as.length*(22*5^n-3+[59,32].length)<=4*(22*5^n-3+2):=Nat.mul_le_mul_right _ h4;have h5:=Nat.pow_pos (n:=n) (show 0<5 by decide);rw[Fn hq.Y9];simp only[lA,lC,length_nil,Nat.pow_succ]at *
   lia
theorem eN(h:Ex n p)(hn:n<=4):(sh n p).length<=13750:=by
 have h1:=Ho h;have h2:5^n<=5^4:=Nat.pow_le_pow_right (by decide) hn;have:(5:Nat)^4=625:=by decide
 lia
variable{k:Nat}
noncomputable def UG:List S:=[.expr (.Ey .append (.A3 1) [.A0 .add [.A0 .add [.A0 .add [.A0 .add [.A3 2,#[40]],.A0 (.join #[[44,32].toArray]) [.A3 3]],#[41,32]],.call 25 [.A3 4]]])]
theorem Ko:jQ=[.ifs (.A0 .eq [{0,0},.An (.str BF)]) [.ret (some (.A0 .str [{0,1}]))] [],.ifs (.A0 .eq [{0,0},.An (.str BA)]) [.ret (some ({0,1}))] [],.ifs (.A0 .ne [{0,0},.An (.str Aj)]) [.ret (some (.A0 .add [.A0 .add [.A0 .add [{0,1},#[40]],.A0 (.join #[[44,32].toArray]) [.comp (.nm 1) .op [{0,2}] [] (.call 25 [.A3 1]) [none,none]]],#[41]]))] [],.asg (.nm 1) (.lst []),.C3 (.tup [2,3,4]) .op [{0,2}] UG,.ret (some (.A0 .add [.A0 .add [.A0 .add [.A0 .add [#[91],.call 25 [{0,1}]],#[58,32]],.A0 (.join #[[59,32].toArray]) [.A3 1]],#[93]]))]:=rfl
variable{cf:CF}{p0:Option C}
theorem UH{l t:List Nat}{acc:List Iv.P}(h:F5 l=true)(hn:UB ls)(hc:cf 25 [.p q]= .ok (.p (.str (tx t))) [sP q])(ht:t.length<=20000)(ha:acc.length<=100):
 execs cf mt Ai UG [p0,sL acc,‹l›,sP (.tup (A9 ls)),sP q]= .ok .nx [p0,sL (acc++[.str (tx (Hq l ls t))]),‹l›,sP (.tup (A9 ls)),sP q]:=by
 obtain⟨c,r,e,h7,_⟩:=BH h;have hl:l.length<=8:=by rw[e,lC];lia
 have hj:=(CG (sep:=[44,32]) (m:=8) (ls:=ls) (λx hx=>(AO (hn.nm x hx)).2.1) (by have:=hn.len;have:ls.length*(8+[44,32].length)<=3*10:=Nat.mul_le_mul_right _ this;unfold big;lia)).2;have hjl:=NS hn;have a1:=B4 (a:=l) (b:=[40]) (by unfold big;simp;lia);have a2:=B4 (a:=l++[40]) (b:=jn [44,32] ls) (by unfold big;simp;lia);have a3:=B4 (a:=l++[40]++jn [44,32] ls) (b:=[41,32]) (by unfold big;simp;lia);have a4:=B4 (a:=l++[40]++jn [44,32] ls++[41,32]) (b:=t) (by unfold big;simp;lia);have hd:ev cf mt (.call 25 [.A3 4]) [p0,sL acc,‹l›,sP (.tup (A9 ls)),sP q]= .ok (.p (.str (tx t))) [p0,sL acc,‹l›,sP (.tup (A9 ls)),sP q]:=EB (h:=.A4 4) rfl rfl hc;have hb:acc.length<big:=by unfold big;lia
 unfold UG Hq;generalize hX:l++[40]=X1 at a1 a2 a3 a4 ⊢;generalize hY:X1++jn [44,32] ls=X2 at a2 a3 a4 ⊢;generalize hZ:X2++[41,32]=X3 at a3 a4 ⊢;simp! [a1,a2,a3,a4,hj,↓hd,D3,hb]
theorem GP:∀(as:List (List Nat×List (List Nat)×Iv.P)) (acc:List Iv.P) (y2 y3 y4:Option C),(∀a∈as,F5 a.1=true/\UB a.2.1/\cf 25 [.p a.2.2]= .ok (.p (.str (tx (sh n a.2.2)))) [sP a.2.2]/\(sh n a.2.2).length<=20000)->acc.length+as.length<=100->
 ∃z2 z3 z4,forL (.tup [2,3,4]) [] (execs cf mt Ai UG) (as.map λa=>Bp a.1 a.2.1 a.2.2) [p0,sL acc,y2,y3,y4]= .ok .nx [p0,sL (acc++A9 (as.map λa=>Hq a.1 a.2.1 (sh n a.2.2))),z2,z3,z4]
 |[],acc,y2,y3,y4,_,_=>#[y2,y3,y4,by show _=Res.ok Fl.nx [p0,sL (acc++[]),y2,y3,y4];rw[append_nil];rfl]
 | a ::as,acc,y2,y3,y4,h,hl=>by
   rw[lC]at hl;obtain⟨h1,h2,h3,h4⟩:=h a mS;have ht:=UH (p0:=p0) (acc:=acc) h1 h2 h3 h4 (by lia);obtain⟨z2,z3,z4,e⟩:=GP as (acc++[.str (tx (Hq a.1 a.2.1 (sh n a.2.2)))]) (some (.p (.str (tx a.1)))) (some (.p (.tup (A9 a.2.1)))) (some (.p a.2.2)) (λx hx=>h x (mC hx)) (by rw[lA,lS];lia);refine#[z2,z3,z4,?_];rw[map_cons]
   show((execs cf mt Ai UG [p0,sL acc,‹a.1›,sP (.tup (A9 a.2.1)),sP a.2.2]).bind λf U=>match f with
    |.nx=>forL (.tup [2,3,4]) [] (execs cf mt Ai UG) (as.map λa=>Bp a.1 a.2.1 a.2.2) U
    |.cnt=>forL (.tup [2,3,4]) [] (execs cf mt Ai UG) (as.map λa=>Bp a.1 a.2.1 a.2.2) U
    |.brk=>.ok .nx U
    |.ret r=>.ok (.ret r) U)=_
   rw[ht,Res.A5];show forL (.tup [2,3,4]) [] (execs cf mt Ai UG) (as.map λa=>Bp a.1 a.2.1 a.2.2) _=_;rw[e,append_assoc];rfl
theorem UM{ps:List Iv.P}:ps.map (λq=>Iv.P.str (tx (sh n q)))=A9 (ps.map (sh n)):=by show _=(ps.map (sh n)).map _;rw[map_map];rfl
theorem Gy:∀(n:Nat) {p:Iv.P},Ex n p->(sh n p).length<=20000->~~~(k+n) 25 [.p p]= .ok (.p (.str (tx (sh n p)))) [sP p]:=by
 intro n
 induction n with
 |zero=>intro p h _;cases h
 |succ n ih=>
   intro p h hL
   suffices e:∃y1 y2 y3 y4,(k+n)<<<jQ>>>[sP p,none,none,none,none]= .ok (.ret (.p (.str (tx (sh (n+1) p))))) [sP p,y1,y2,y3,y4]by
    obtain⟨y1,y2,y3,y4,e⟩:=e;exact Af m9 rfl rfl e (by done)
   have app:∀(s l:List Nat) (ps:List Iv.P),ps.length<=3->(∀q∈ps,Ex n q)->(l++[40]++jn [44,32] (ps.map (sh n))++[41]).length<=20000->tx s≠BF->tx s≠BA->tx s≠Aj->∃y1 y2 y3 y4,(k+n)<<<jQ>>>[sP (.tup [.str (tx s),.str (tx l),.tup ps]),none,none,none,none]= .ok (.ret (.p (.str (tx (l++[40]++jn [44,32] (ps.map (sh n))++[41]))))) [sP (.tup [.str (tx s),.str (tx l),.tup ps]),y1,y2,y3,y4]:=by
    intro s l ps h3 hp hL n1 n2 n3;simp only[lA,lS]at hL;have hs:∀x∈ps.map (sh n),x.length<=20000:=λx hx=>by have:=S5 (sep:=[44,32]) hx;lia
    have hm:ps.length*(20000+[44,32].length)<=3*20002:=Nat.mul_le_mul_right _ h3;have hj:=(CG (sep:=[44,32]) (m:=20000) (ls:=ps.map (sh n)) hs (by rw[lM];unfold big;lia)).1;have ht:Ae (~~~(k+n)) mt [{0,2}] [sP (.tup [.str (tx s),.str (tx l),.tup ps]),none,none,none,none]= .ok [.AN (.p (.tup ps))] [sP (.tup [.str (tx s),.str (tx l),.tup ps]),none,none,none,none]:=by simp! []
    have hb:=Ib (cf:= ~~~(k+n)) (mt:=mt) (elt:=.call 25 [.A3 1]) (F:=λq=>.str (tx (sh n q))) ht rfl rfl rfl (by unfold big;lia) (λq hq=>Ov (ih (hp q hq) (hs _ (mem_map_of_mem hq))));rw[UM]at hb;have a1:=B4 (a:=l) (b:=[40]) (by unfold big;simp;lia);have a2:=B4 (a:=l++[40]) (b:=jn [44,32] (ps.map (sh n))) (by unfold big;simp;lia);have a3:=B4 (a:=l++[40]++jn [44,32] (ps.map (sh n))) (b:=[41]) (by unfold big;simp;lia);have m1:DM (.str (tx s)) (.str BF)=some false:=by rw[eq_str];simp[n1]
    have m2:DM (.str (tx s)) (.str BA)=some false:=by rw[eq_str];simp[n2]
    have m3:DM (.str (tx s)) (.str Aj)=some false:=by rw[eq_str];simp[n3]
    refine#[none,none,none,none,?_];rw[Ko];generalize hX:l++[40]=X1 at a1 a2 a3 ⊢;generalize hJ:jn [44,32] (ps.map (sh n))=J at hj a2 a3 ⊢;generalize hS:A9 (ps.map (sh n))=tsx at hb hj;generalize hY:X1++J=X2 at a2 a3 ⊢;simp! [m1,m2,m3,a1,a2,a3,hj,↓hb]
   cases h with
   |num i hi=>
     refine#[none,none,none,none,?_];rw[FZ,Ko];simp! [Ce,Z3 hi]
   |Pm l hl=>
     refine#[none,none,none,none,?_];rw[JE,Ko];simp! [Ce]
   |Ga l ps hl h3 hp=>exact app [102,111,114,109] l ps h3 hp hL (by decide) (by decide) (by decide)
   |call l ps hl h3 hp=>exact app [99,97,108,108] l ps h3 hp hL (by decide) (by decide) (by decide)
   |case q as hq h1 h4 ha hp=>
     rw[Fn hq.Y9]at hL ⊢;simp only[lA,lC,length_nil]at hL;have hs:∀x∈as.map (λa=>Hq a.1 a.2.1 (sh n a.2.2)),x.length<=20000:=λx hx=>by have:=S5 (sep:=[59,32]) hx;lia
     have hs2:∀a∈as,(sh n a.2.2).length<=20000:=λa hm=>by
      have:=hs _ (mem_map_of_mem hm);unfold Hq at this;simp only[lA]at this
      lia
     have hm:as.length*(20000+[59,32].length)<=4*20002:=Nat.mul_le_mul_right _ h4;have hj:=(CG (sep:=[59,32]) (m:=20000) hs (by rw[lM];unfold big;lia)).1;obtain⟨z2,z3,z4,ef⟩:=GP (cf:= ~~~(k+n)) (n:=n) (p0:=some (.p (.tup [.str Aj,q,.tup (as.map λa=>Bp a.1 a.2.1 a.2.2)]))) as [] none none none (λa hm=>#[(ha a hm).1,(ha a hm).2,ih (hp a hm) (hs2 a hm),hs2 a hm]) (by simp;lia);rw[nil_append]at ef;generalize hP:as.map (λa=>Bp a.1 a.2.1 a.2.2)=ps at ef ⊢;have hpl:ps.length=as.length:=by rw[<-hP,lM]
     have hd:∀y,(k+n)|||(.call 25 [{0,1}])&&&[sP (.tup [.str Aj,q,.tup ps]),y,z2,z3,z4]= .ok (.p (.str (tx (sh n q)))) [sP (.tup [.str Aj,q,.tup ps]),y,z2,z3,z4]:=λy=>DL (by simp! []) (ih hq (by lia))
     have a1:=B4 (a:=[91]) (b:=sh n q) (by unfold big;simp;lia);have a2:=B4 (a:=[91]++sh n q) (b:=[58,32]) (by unfold big;simp;lia);have a3:=B4 (a:=[91]++sh n q++[58,32]) (b:=jn [59,32] (as.map λa=>Hq a.1 a.2.1 (sh n a.2.2))) (by unfold big;simp;lia);have a4:=B4 (a:=[91]++sh n q++[58,32]++jn [59,32] (as.map λa=>Hq a.1 a.2.1 (sh n a.2.2))) (b:=[93]) (by unfold big;simp;lia);generalize hJ:jn [59,32] (as.map λa=>Hq a.1 a.2.1 (sh n a.2.2))=J at hj a3 a4 ⊢;generalize hX:[91]++sh n q=X1 at a1 a2 a3 a4 ⊢;generalize hY:X1++[58,32]=X2 at a2 a3 a4 ⊢;generalize hZ:X2++J=X3 at a3 a4 ⊢;generalize hS:A9 (as.map λa=>Hq a.1 a.2.1 (sh n a.2.2))=tsx at ef hj
     have hfor:exec (~~~(k+n)) mt Ai (.C3 (.tup [2,3,4]) .op [{0,2}] UG) [sP (.tup [.str Aj,q,.tup ps]),sL [],none,none,none]= .ok .nx [sP (.tup [.str Aj,q,.tup ps]),sL tsx,z2,z3,z4]:=by
      have ht:Ae (~~~(k+n)) mt [{0,2}] [sP (.tup [.str Aj,q,.tup ps]),sL [],none,none,none]= .ok [.AN (.p (.tup ps))] [sP (.tup [.str Aj,q,.tup ps]),sL [],none,none,none]:=by simp! []
      rw[HW];show(if IK.op.ok=true then(Ae _ _ _ _).bind _ else _)=_;rw[iP (show IK.op.ok=true from rfl),ht,Res.A5];exact ef
     refine#[some (.lst tsx),z2,z3,z4,?_];rw[Ko];simp! [Ce,↓hfor,a1,a2,a3,a4,hj,↓hd]
variable{c:Nat}{a r:List Nat}
abbrev St(c:Nat)(a r:List Nat):C:=.obj c (rd (tx (a++r)) a.length)
theorem XS{s:List Nat}:du (.p (.str (tx (a++r)))) (.p (.str (tx s))) (.p (.int a.length))=some (.p (.bl (decide (r.take s.length=s)))):=by
 show(if(0:Int)<=(a.length:Int)/\(a.length:Int)<=((tx (a++r)).length:Nat)then some (C.p (.bl (decide (((tx (a++r)).cps.toList.drop (a.length:Int).toNat).take (tx s).length=(tx s).cps.toList))))else none)=_;rw[iP #[by lia,by rw[Bn,lA];lia],Bn];show some (C.p (.bl (decide (((a++r).drop a.length).take s.length=s))))=_;rw[drop_left]
theorem TN{s:List Nat}:C.obj c (rd (tx (a++(s++r))) ((a.length:Int)+(tx s).length))=St c (a++s) r:=by
 have h1:a++(s++r)=a++s++r:=by simp
 have h2:(a.length:Int)+(tx s).length=((a++s).length:Nat):=by rw[Bn,lA];lia
 rw[h1,h2]
theorem KC{k c:Nat}(hc:c%1000=5){y:Str}{b:Bool}(hs:du (.p (.str x)) (.p (.str y)) (.p (.int n))=some (.p (.bl b)))(hy:y.length<=big):
 ~~~(k+1) 35 [.obj c (rd x n),.p (.str y)]= .ok (.p (.bl b)) [some (.obj c (rd x (if b then n+y.length else n))),sP (.str y)]:=by
 have hl:JZ (.p (.str y))=some (.p (.int y.length)):=by
  show(if y.length<=big then _ else _)=_;rw[iP hy]
 cases b with
 |false=>
   have e:k<<<iI>>>[some (.obj c (rd x n)),sP (.str y)]= .ok (.ret (.p (.bl false))) [some (.obj c (rd x n)),sP (.str y)]:=by
    unfold iI;simp! [Lv,Ka,hs]
   exact Af jF rfl rfl e (by done)
 |true=>
   have e:k<<<iI>>>[some (.obj c (rd x n)),sP (.str y)]= .ok (.ret (.p (.bl true))) [some (.obj c (rd x (n+y.length))),sP (.str y)]:=by
    unfold iI;simp! [Lv,Ka,hs,hl,XW hc]
   exact Af jF rfl rfl e (by done)
theorem Nl(hc:c%1000=5){s:List Nat}(hs:s.length<=1000): ~~~(k+1) 35 [St c a (s++r),.p (.str (tx s))]= .ok (.p (.bl true)) [some (St c (a++s) r),‹s›]:=by
 have h:=KC (k:=k) hc (x:=tx (a++(s++r))) (y:=tx s) (n:=a.length) (b:=true) (by rw[XS,take_left,dZ rfl]) (by rw[Bn];unfold big;lia);rw[iP rfl,TN]at h;exact h
theorem Nm(hc:c%1000=5){s:List Nat}(hs:s.length<=1000)(hn:r.take s.length≠s): ~~~(k+1) 35 [St c a r,.p (.str (tx s))]= .ok (.p (.bl false)) [some (St c a r),‹s›]:=
 KC (k:=k) hc (b:=false) (by rw[XS,dF hn]) (by rw[Bn];unfold big;lia)
variable{ch:Nat}
theorem Qw(h:∀d r',r=d::r'->d≠ch):r.take 1≠[ch]:=by
 cases r with
 |nil=>intro z;cases z
 |cons d r'=>intro z;have:=h d r' rfl;simp at z;exact this z
theorem GW(hc:c%1000=5):mt.m c RL=some 35:=FC hc (by done)
theorem HG(hc:c%1000=5):mt.m c gd=some 34:=FC hc (by done)
theorem gq(hc:c%1000=5):mt.m c ai=some 38:=FC hc (by done)
theorem ar(hc:c%1000=5):mt.m c Qd=some 36:=FC hc (by done)
abbrev Rr:=Option (Iv.P×List Nat×List Nat)
noncomputable def up(c:Nat)(a:List Nat)(u:Iv.P×List Nat×List Nat):Iv.P×C:=(u.1,St c (a++u.2.1) u.2.2)
theorem Mb{y:Iv.Env}(hc:c%1000=5):tv (~~~(k+1)) mt (.Al RL (.A3 0) [.An (.str (tx [ch]))]) (some (St c a (ch::r))::y)= .ok true (some (St c (a++[ch]) r)::y):=
 Qr (RQ (o:=some (.bl true,St c (a++[ch]) r)) (GW hc) rfl (Nl (k:=k) (a:=a) (r:=r) (s:=[ch]) hc (by show 1<=1000;decide)))
theorem Mc{y:Iv.Env}(hc:c%1000=5)(h:r.head?≠some ch):tv (~~~(k+1)) mt (.Al RL (.A3 0) [.An (.str (tx [ch]))]) (some (St c a r)::y)= .ok false (some (St c a r)::y):=
 Qr (RQ (o:=some (.bl false,St c a r)) (GW hc) rfl (Nm (k:=k) (a:=a) (r:=r) (s:=[ch]) hc (by show 1<=1000;decide) (Qw λd r' e z=>h (by rw[e,z];rfl))))
noncomputable def JJ(s r:List Nat):Rr:=if r.take s.length=s then some (.Az,s,r.drop s.length)else none
theorem IZ{s:List Nat}{y:Iv.Env}(hc:c % 1000=5)(hs:s.length<=1000):(k + 2)|||(.Al Qd (.A3 0) [.An (.str (tx s))])&&&(some (St c a r)::y)=Kx ((JJ s r).map (up c a)) y:=by
 refine RQ (y:=some (.p (.str (tx s)))) (ar hc) rfl ?_;unfold JJ
 by_cases h:r.take s.length=s
 .have e0 : r = s ++ r.drop s.length := by conv=>rhs;lhs;rw[<-h]
                                           exact(List.take_append_drop _ r).symm
  rw[iP h];generalize r.drop s.length=r1 at e0;subst e0;have h1:=Qr (Le (cf:= ~~~(k+1)) (mt:=mt) (r:=[]) (o:=some (.bl true,St c (a++s) r1)) (GW hc) rfl (Nl (k:=k) (a:=a) (r:=r1) hc hs));exact RG jE rfl rfl (Ez (EN h1)) (by done)
 .rw[iN h];have h1:=Qr (Le (cf:= ~~~(k+1)) (mt:=mt) (r:=[]) (o:=some (.bl false,St c a r)) (GW hc) rfl (Nm (k:=k) (a:=a) (r:=r) hc hs h));exact AW jE rfl rfl (E2 (EN h1))
theorem Lc(hb:a.length<=big): ~~~(k+1) 37 [St c a []]= .ok (.p .Az) [some (St c a [])]:=by
 have hl:=CN (l:=a++[]) (by simpa using hb);have e0:(a++[]).length=a.length:=by simp
 rw[e0]at hl
 have e:k<<<iH>>>[some (St c a [])]= .ok .nx [some (St c a [])]:=by
  unfold iH St;generalize tx (a++[])=x at hl ⊢;simp! [Lv,Ka,hl,Av]
 exact RG jB rfl rfl e (by done)
def ahead(pred:Nat->Bool):List Nat->Bool
 |[]=>false
 |ch::_=>pred ch
variable{pred:Nat->Bool}
theorem Gk{f:Nat}(hf:f<33)(hp:∀ch,~~~(k+1) f [.p (sign ch)]= .ok (.p (.bl (pred ch))) [sP (sign ch)])(hb:a.length+r.length<=70000): ~~~(k+2) 34 [St c a r,.p (.fn f)]= .ok (.p (.bl (ahead pred r))) [some (St c a r),sP (.fn f)]:=by
 have hbl:(a++r).length<=big:=by rw[lA];unfold big;lia
 have hl:=CN hbl;rw[lA]at hl
 have e:(k+1)<<<mG>>>[some (St c a r),sP (.fn f)]= .ok (.ret (.p (.bl (ahead pred r)))) [some (St c a r),sP (.fn f)]:=by
  unfold mG St;cases r with
  |nil=>
    have h0:¬(a.length:Int)<((a.length+([]:List Nat).length:Nat):Int):=by simp
    generalize tx (a++[])=x at hl ⊢;show _=Res.ok (Fl.ret (.p (.bl false))) _;simp! [Lv,Ka,hl,h0,C7]
  |cons ch r'=>
    have h0:(a.length:Int)<((a.length+(ch::r').length:Nat):Int):=by rw[lC];lia
    have hi:=PF (l:=a++ch::r') (k:=a.length) (c:=ch) (by rw[List.getElem?_append_right (lR)];simp) hbl;have htf:mt.tf f=true:=dZ hf;show _=Res.ok (Fl.ret (.p (.bl (pred ch)))) _;generalize hX:tx (a++ch::r')=x at hl hi ⊢;have ha:Ae (~~~(k+1)) mt [.A0 .idx [.Aw 0 NW,.Aw 0 GK]] [some (.obj c (rd x a.length)),sP (.fn f)]= .ok [.AN (.p (sign ch))] [some (.obj c (rd x a.length)),sP (.fn f)]:=by simp! [Lv,Ka,hi]
    have hap:(k+1)|||(.Fc 1 [.A0 .idx [.Aw 0 NW,.Aw 0 GK]])&&&[some (.obj c (rd x a.length)),sP (.fn f)]= .ok (.p (.bl (pred ch))) [some (.obj c (rd x a.length)),sP (.fn f)]:=by
     rw[LX,dy];show(if mt.tf f=true then(Ae _ _ _ _).bind _ else _)=_;rw[iP htf,ha,Res.A5];exact BS (hs:=[.AN (.p (sign ch))]) (cs:=[.p (sign ch)]) rfl (λc hc=>by rw[mE hc];rfl) (hp ch) rfl
    generalize a.length+(ch::r').length=m at hl h0;simp! [Lv,Ka,hl,h0,C7,↓hap]
 exact Af lW rfl rfl e (by done)
noncomputable def jc:List S:=[.Hr 0 GK (.A0 .add [.Aw 0 GK,{1}])]
noncomputable def XQ:T:=.Al gd (.A3 0) [.A3 1]
theorem cb:mF=[.asg (.nm 2) (.Aw 0 GK),.M3 XQ jc,.ret (some (.A0 (.Cm true true) [.Aw 0 NW,.A3 2,.Aw 0 GK]))]:=rfl
theorem cD:C.obj c (rd (tx (a++ch::r)) ((a.length:Int)+1))=St c (a++[ch]) r:=by
 have h:=TN (c:=c) (a:=a) (r:=r) (s:=[ch]);rw[Bn]at h;exact h
theorem LR{f:Nat}{y:Option C}(hc:c%1000=5)(hf:f<33)(hp:∀ch,~~~(k+1) f [.p (sign ch)]= .ok (.p (.bl (pred ch))) [sP (sign ch)])(hr:ahead pred r=false):∀(w a:List Nat),(∀ch∈w,pred ch=true)->a.length+(w++r).length<=70000->
 Ai (tv (~~~(k+2)) mt XQ) (execs (~~~(k+2)) mt Ai jc) [some (St c a (w++r)),sP (.fn f),y]= .ok .nx [some (St c (a++w) r),sP (.fn f),y]
 | [],a,_,hb=>by
   have h:=Gk (k:=k) (c:=c) (a:=a) (r:=r) hf hp hb;rw[hr]at h;have h1:(k+2)|||XQ&&&[some (St c a r),sP (.fn f),y]=_:=Le (o:=some (.bl _,_)) (HG hc) rfl h;rw[append_nil];show Ai _ _ [some (St c a r),sP (.fn f),y]=_;rw[BQ]
   have h2:tv (~~~(k+2)) mt XQ [some (St c a r),sP (.fn f),y]= .ok false [some (St c a r),sP (.fn f),y]:=by
    unfold XQ at h1 ⊢;rw[Xi,h1];rfl
   rw[h2];rfl
 | ch::w,a,hw,hb=>by
   have h:=Gk (k:=k) (c:=c) (a:=a) (r:=ch::w++r) hf hp hb;have e0:ahead pred (ch::w++r)=true:=hw ch mS;rw[e0]at h;have h1:(k+2)|||XQ&&&[some (St c a (ch::w++r)),sP (.fn f),y]=_:=Le (o:=some (.bl _,_)) (HG hc) rfl h
   have h2:tv (~~~(k+2)) mt XQ [some (St c a (ch::w++r)),sP (.fn f),y]= .ok true [some (St c a (ch::w++r)),sP (.fn f),y]:=by
    unfold XQ at h1 ⊢;rw[Xi,h1];rfl
   have h3:(k+2)<<<jc>>>[some (St c a (ch::w++r)),sP (.fn f),y]= .ok .nx [some (St c (a++[ch]) (w++r)),sP (.fn f),y]:=by
    rw[<-cD];show execs _ _ _ _ [some (.obj c (rd (tx (a++ch::(w++r))) a.length)),sP (.fn f),y]=_;generalize tx (a++ch::(w++r))=x;unfold jc;simp! [Ka,XW hc,FU]
   rw[BQ,h2,Res.A5,iP rfl,h3,Res.A5];have ih:=LR (y:=y) hc hf hp hr w (a++[ch]) (λd hd=>hw d (mC hd)) (by rw[lA,lS];rw[cons_append,lC]at hb;lia);rw[append_assoc]at ih;exact ih
theorem WD{w:List Nat}(hb:(a++w++r).length<=big):CI (.b (.p (.str (tx (a++w++r))))) (some (a.length:Int)) (some ((a++w).length:Nat))=some (.p (.str (tx w))):=by
 show(D7 (tx (a++w++r)) (some (a.length:Int)) (some ((a++w).length:Nat))).map _=_;unfold D7;dsimp only;rw[iP #[by lia,by rw[lA];lia,by rw[Bn,show(a++w++r).length=(a++w).length+r.length from lA];lia,by rw[Bn];exact hb]];show some (C.p (.str #[(((a++w++r).drop a.length).take ((((a++w).length:Nat):Int)-(a.length:Int)).toNat).toArray]))=_;have h1:((((a++w).length:Nat):Int)-(a.length:Int)).toNat=w.length:=by rw[lA];lia
 rw[h1,append_assoc,drop_left,take_left]
theorem cB{f:Nat}{w:List Nat}(hc:c%1000=5)(hf:f<33)(hp:∀ch,~~~(k+1) f [.p (sign ch)]= .ok (.p (.bl (pred ch))) [sP (sign ch)])(hr:ahead pred r=false)(hw:∀ch∈w,pred ch=true)(hb:a.length+(w++r).length<=70000):
 ~~~(k+3) 38 [St c a (w++r),.p (.fn f)]= .ok (.p (.str (tx w))) [some (St c (a++w) r),sP (.fn f)]:=by
 have h1:=LR (k:=k) (y:=some (.p (.int a.length))) hc hf hp hr w a hw hb;have h2:=WD (a:=a) (w:=w) (r:=r) (by rw[append_assoc,lA];unfold big;lia)
 have e:(k+2)<<<mF>>>[some (St c a (w++r)),sP (.fn f),none]= .ok (.ret (.p (.str (tx w)))) [some (St c (a++w) r),sP (.fn f),sP (.int a.length)]:=by
  rw[cb];have e1:exec (~~~(k+2)) mt Ai (.asg (.nm 2) (.Aw 0 GK)) [some (St c a (w++r)),sP (.fn f),none]= .ok .nx [some (St c a (w++r)),sP (.fn f),sP (.int a.length)]:=rfl
  have e2:exec (~~~(k+2)) mt Ai (.ret (some (.A0 (.Cm true true) [.Aw 0 NW,.A3 2,.Aw 0 GK]))) [some (St c (a++w) r),sP (.fn f),sP (.int a.length)]= .ok (.ret (.p (.str (tx w)))) [some (St c (a++w) r),sP (.fn f),sP (.int a.length)]:=by
   show exec _ _ _ _ [some (.obj c (rd (tx (a++w++r)) ((a++w).length:Nat))),sP (.fn f),sP (.int a.length)]= .ok _ [some (.obj c (rd (tx (a++w++r)) ((a++w).length:Nat))),sP (.fn f),sP (.int a.length)];generalize hX:tx (a++w++r)=x at h2 ⊢;generalize (a++w).length=m at h2 ⊢;simp! [Lv,Ka,h2]
  rw[AJ,e1,Hb,AJ,Kt,h1,Hb,AJ,e2];rfl
 exact Af lV rfl rfl e (by done)
theorem DE(pred:Nat->Bool):∀r:List Nat,(∀ch∈r.takeWhile pred,pred ch=true)/\ahead pred (r.dropWhile pred)=false/\r.takeWhile pred++r.dropWhile pred=r
 |[]=>#[(λ_ h=>by cases h),rfl,rfl]
 | x::r=>by
   obtain⟨h1,h2,h3⟩:=DE pred r;rw[List.takeWhile_cons,List.dropWhile_cons];cases hx:pred x with
   |true=>exact#[λch hch=>(mK hch).elim (λz=>z▸hx) (h1 ch),h2,by simp only[if_true];exact congrArg (x::·) h3]
   |false=>exact#[(λch hch=>by cases hch),hx,rfl]
theorem TJ{f:Nat}{y:Iv.Env}(hc:c%1000=5)(hf:f<33)(hp:∀ch,~~~(k+1) f [.p (sign ch)]= .ok (.p (.bl (pred ch))) [sP (sign ch)])(hb:a.length+r.length<=70000):
 (k+3)|||(.Al ai (.A3 0) [.An (.fn f)])&&&(some (St c a r)::y)= .ok (.p (.str (tx (r.takeWhile pred)))) (some (St c (a++r.takeWhile pred) (r.dropWhile pred))::y):=by
 obtain⟨h1,h2,h3⟩:=DE pred r;have h:=cB (k:=k) (a:=a) hc hf hp h2 h1 (by rw[h3];exact hb);rw[h3]at h;exact RQ (o:=some (_,_)) (gq hc) rfl h
theorem iF{f:Nat}{y:Iv.Env}(hc:c%1000=5)(hf:f<33)(hp:∀ch,~~~(k+1) f [.p (sign ch)]= .ok (.p (.bl (pred ch))) [sP (sign ch)])(hb:a.length+r.length<=70000):
 tv (~~~(k+2)) mt (.Al gd (.A3 0) [.An (.fn f)]) (some (St c a r)::y)= .ok (ahead pred r) (some (St c a r)::y):=Qr (RQ (o:=some (.bl _,_)) (HG hc) rfl (Gk (k:=k) hf hp hb))
theorem aw(h:DA ch=true):ch<128:=by
 unfold DA low Cr at h;simp only[Bool.or_eq_true,bA,decide_eq_true_eq]at h
 lia
theorem XG(ch:Nat)(h:ch∈r.takeWhile DA):ch<128:=aw ((DE DA r).1 ch h)
theorem M7(hb:a.length+r.length<=70000):(r.takeWhile pred).length<=70000:=by
 have:=(List.takeWhile_sublist (p:=pred) (l:=r)).length_le
 lia
theorem aq(hc:c%1000=5):mt.m c BA=some 39:=FC hc (by done)
theorem VS(hc:c%1000=5):mt.m c nF=some 40:=FC hc (by done)
theorem Lf(hc:c%1000=5):mt.m c BF=some 41:=FC hc (by done)
theorem Yc(hc:c%1000=5):mt.m c jm=some 42:=FC hc (by done)
theorem RT(hc:c%1000=5):mt.m c dv=some 45:=FC hc (by done)
theorem VT(hc:c%1000=5):mt.m c nH=some 46:=FC hc (by done)
theorem av(hc:c%1000=5):mt.m c jo=some 47:=FC hc (by done)
theorem au(hc:c%1000=5):mt.m c Aj=some 48:=FC hc (by done)
theorem Yd(hc:c%1000=5):mt.m c VO=some 49:=FC hc (by done)
noncomputable def rW(B:List Nat->Bool)(r:List Nat):Rr:=if B (r.takeWhile DA)then some (.str (tx (r.takeWhile DA)),r.takeWhile DA,r.dropWhile DA)else none
theorem Ni{B:List Nat->Bool}{f m:Nat}{b:List S}(hf:As[m]? =some ⟨1,2,b⟩)(hbd:b=[.asg (.nm 1) (.Al ai (.A3 0) [.An (.fn 14)]),.ifs (.not (.call f [.A3 1])) [.raise 4] [],.ret (some (.A3 1))])(hB:∀l:List Nat,(∀c∈l,c<128)->l.length<=70000->~~~(k+3) f [.p (.str (tx l))]= .ok (.p (.bl (B l))) [‹l›])(hc:c%1000=5)(hb:a.length+r.length<=70000):
 ~~~(k+4) m [St c a r]=Ha ((rW B r).map (up c a)) []:=by
 subst hbd;have h1:=TJ (k:=k) (a:=a) (r:=r) (y:=[none]) hc (by decide) (λch=>FH) hb;have h2:=EN (OI (Ov (cf:= ~~~(k+3)) (mt:=mt) (a:=some (St c (a++r.takeWhile DA) (r.dropWhile DA))) (r:=[]) (hB (r.takeWhile DA) XG (M7 hb))));unfold rW;cases hn:B (r.takeWhile DA)with
 |true=>
   rw[hn]at h2;exact Af hf rfl rfl ((Dr h1).trans (Ez h2)) rfl
 |false=>
   rw[hn]at h2;exact AW hf rfl rfl ((Dr h1).trans (E2 h2))
theorem VN(hc:c%1000=5)(hb:a.length+r.length<=70000): ~~~(k+4) 39 [St c a r]=Ha ((rW DU r).map (up c a)) []:=Ni lU rfl (λl h7 hl=>CO h7 (by unfold big;lia)) hc hb
theorem Sy(hc:c%1000=5)(hb:a.length+r.length<=70000): ~~~(k+4) 40 [St c a r]=Ha ((rW F5 r).map (up c a)) []:=Ni lT rfl (λl h7 hl=>DD h7 hl) hc hb
noncomputable def okN(w:List Nat):Bool:=decide (1<=w.length)&&decide (w.length<=60)&&!(decide (w.head? =some 48)&&decide (1<w.length))
noncomputable def Uw(r:List Nat):Option (Nat×List Nat×List Nat):=if okN (r.takeWhile DH)then some (BO (r.takeWhile DH),r.takeWhile DH,r.dropWhile DH)else none
noncomputable def R6(r:List Nat):Rr:=(Uw r).map λu=>(.int u.1,u.2)
noncomputable def Vk(r:List Nat):Rr:=(Uw r).bind λu=>if u.1=0 then none else some (.int (-(u.1:Int)),u.2)
theorem IV(hc:c%1000=5)(hb:a.length+r.length<=70000): ~~~(k+4) 41 [St c a r]=Ha ((R6 r).map (up c a)) []:=by
 have h1:=TJ (k:=k) (a:=a) (r:=r) (y:=[none]) hc (by decide) (λch=>FI) hb;obtain⟨hw,_,_⟩:=DE DH r;have hwb:=M7 (pred:=DH) hb;unfold R6 Uw;generalize r.takeWhile DH=w at h1 hw hwb ⊢;have hlen:=CN (l:=w) (by unfold big;lia);show _=Ha ((Option.map _ (if okN w=true then some (BO w,w,r.dropWhile DH)else none)).map (up c a)) [];generalize r.dropWhile DH=r1 at h1 ⊢;have hd:=Dr (i:=1) (ss:=YD.tail) h1;have hd:(k+3)<<<YD>>>[some (St c a r),none]=(k+3)<<<YD.tail>>>[some (St c (a++w) r1),‹w›]:=hd
 by_cases hl:1<=w.length/\w.length<=60
 .obtain⟨d,s,e0⟩:∃d s,w=d::s:=by
   cases w with
   |nil=>exact absurd hl.1 (by decide)
   |cons d s=>exact#[d,s,rfl]
  have hi:CP (.b (.p (.str (tx w)))) (.b (.p (.int 0)))=some (.p (.str (tx [d]))):=PF (l:=w) (k:=0) (c:=d) (by rw[e0];rfl) (by unfold big;lia)
  have m1:DM (.str (tx [d])) (.str (tx [48]))=some (decide (d=48)):=by
   rw[Ce];exact congrArg some (decide_eq_decide.mpr (by simp))
  have hint:Se (.b (.p (.str (tx w))))=some (.p (.int (BO w:Nat))):=by
   show(if(w.toArray.toList.all (λc=>decide (48<=c/\c<=57))&&decide (0<(tx w).length/\(tx w).length<=640))=true then some (C.p (.int (BO w.toArray.toList:Nat)))else none)=_
   rw[Bn,iP (by
     rw[bA]
     refine#[all_eq_true.mpr λc hc=>dZ (by have:=hw c hc;unfold DH at this;simpa using this),dZ #[by lia,by lia]])]
  have g1:¬(w.length:Int)<1:=by lia
  have g2:¬(60:Int)<(w.length:Nat):=by lia
  have Ao:okN w= !(decide (d=48)&&decide (1<w.length)):=by
   unfold okN;rw[dZ hl.1,dZ hl.2,e0];simp
  have g3:decide ((1:Int)<(w.length:Nat))=decide (1<w.length):=decide_eq_decide.mpr (by lia)
  have e1:exec (~~~(k+3)) mt Ai (.ifs (.or (.A0 .lt [.A0 .len [.A3 1],{1}]) (.A0 .gt [.A0 .len [.A3 1],{60}])) [.raise 4] []) [some (St c (a++w) r1),‹w›]= .ok .nx [some (St c (a++w) r1),‹w›]:=by
   generalize St c (a++w) r1=o;generalize w.length=m at hlen g1 g2;generalize tx w=x at hlen ⊢;simp! [hlen,g1,g2]
  have e2:tv (~~~(k+3)) mt (.and (.A0 .eq [{1,0},#[48]]) (.A0 .gt [.A0 .len [.A3 1],{1}])) [some (St c (a++w) r1),‹w›]= .ok (decide (d=48)&&decide (1<w.length)) [some (St c (a++w) r1),‹w›]:=by
   rw[<-g3];generalize St c (a++w) r1=o;generalize w.length=m at hlen;generalize tx w=x at hlen hi ⊢;cases hd48:decide (d=48)<;>(rw[hd48]at m1;simp! [hlen,hi,m1])
  have hd2:(k+3)<<<YD>>>[some (St c a r),none]=(k+3)<<<YD.tail.tail>>>[some (St c (a++w) r1),‹w›]:=hd.trans (by show execs _ _ _ (_::YD.tail.tail) _=_;rw[AJ,e1];rfl);rw[Ao];cases hz:(decide (d=48)&&decide (1<w.length))with
  |true=>
    rw[hz]at e2;exact AW gU rfl rfl (hd2.trans (E2 e2))
  |false=>
    rw[hz]at e2;refine Af (c:=.p (.int (BO w:Nat))) (U:=[some (St c (a++w) r1),‹w›]) gU rfl rfl (hd2.trans ((Ez e2).trans ?_)) rfl;generalize St c (a++w) r1=o;generalize (BO w:Nat)=v at hint ⊢;generalize tx w=x at hint ⊢;simp! [hint]
 .have Ao:okN w=false:=by
   unfold okN
   by_cases h1:1<=w.length
   .rw[dF (λz=>hl #[h1,z])];simp
   .rw[dF h1];rfl
  have e1:(k+3)<<<YD.tail>>>[some (St c (a++w) r1),‹w›]= .err 4 .Az [some (St c (a++w) r1),‹w›]:=by
   refine E2 (t:=.or (.A0 .lt [.A0 .len [.A3 1],{1}]) (.A0 .gt [.A0 .len [.A3 1],{60}])) (U':=[some (St c (a++w) r1),‹w›]) ?_
   by_cases g1:(w.length:Int)<1
   .generalize St c (a++w) r1=o;generalize w.length=m at hlen g1;generalize tx w=x at hlen ⊢;simp! [hlen,g1]
   .have g2:(60:Int)<(w.length:Nat):=by lia
    generalize St c (a++w) r1=o;generalize w.length=m at hlen g1 g2;generalize tx w=x at hlen ⊢;simp! [hlen,g1,g2]
  rw[Ao];exact AW gU rfl rfl (hd.trans e1)
theorem below_at(hc:c%1000=5)(hb:a.length+r.length<=70000): ~~~(k+5) 46 [St c a r]=Ha ((Vk r).map (up c a)) []:=by
 have h1:=RR (cf:= ~~~(k+4)) (mt:=mt) (r:=[none]) (Lf hc) rfl (IV (k:=k) (a:=a) hc hb);unfold R6 at h1;unfold Vk;cases e:Uw r with
 |none=>rw[e]at h1;exact AW gS rfl rfl (Nd h1)
 |some u=>
   obtain⟨v,w,r1⟩:=u;rw[e]at h1;have hd:(k+4)<<<jO>>>[some (St c a r),none]=(k+4)<<<jO.tail>>>[some (St c (a++w) r1),sP (.int v)]:=Dr h1
   by_cases hv:v=0
   .have h0:DM (.int (v:Int)) (.int 0)=some true:=by rw[Av];exact congrArg some (dZ (by lia))
    rw[Option.bind_some,iP hv];refine AW (U:=[some (St c (a++w) r1),sP (.int v)]) gS rfl rfl (hd.trans (E2 (t:=.A0 .eq [.A3 1,{0}]) (U':=[some (St c (a++w) r1),sP (.int v)]) ?_));generalize St c (a++w) r1=o;simp! [h0]
   .have h0:DM (.int (v:Int)) (.int 0)=some false:=by rw[Av];exact congrArg some (dF (by lia))
    rw[Option.bind_some,iN hv];refine Af (c:=.p (.int (-(v:Int)))) (U:=[some (St c (a++w) r1),sP (.int v)]) gS rfl rfl (hd.trans ?_) rfl;generalize St c (a++w) r1=o;unfold jO;simp! [h0]
end Lk52
namespace Iv
open PySem
variable{cf:CF}{mt:MT}
noncomputable def Kk(n:Nat):List C:=match n/1048576 with
 |0=>[]
 |v+1=>[.p (.int v)]
def PZ(n:Nat):List (Option C):=(Kk n).map some
variable{n:Nat}
theorem T2(h:n/1048576=0):Kk n=[]/\Kj n=[]:=by unfold Kk Kj;rw[h];exact#[rfl,rfl]
theorem T1{v:Nat}(h:n/1048576=v+1):Kk n=[.p (.int v)]/\Kj n=[.AN (.p (.int v))]:=by unfold Kk Kj;rw[h];exact#[rfl,rfl]
theorem iQ{c:Nat}{fs:List (Str×B)}{o:Option (P×C)}{r:Env}(hn:CW<=n)(hc:1000<=c)(e:cf (Gh n) (.obj c fs::Kk n)=Ha o (PZ n)):ev cf mt (.Cy 1) (some (.obj c fs)::some (.p (.fn n))::r)=Kx o (some (.p (.fn n))::r):=by
 rw[LA,dy,dz];dsimp only;rw[iN (by lia)];unfold AK;cases hm:n/1048576 with
 |zero=>
   obtain⟨h1,h2⟩:=T2 hm;unfold PZ at e;rw[h1]at e;rw[h2,show Ag (some (.obj c fs)::some (.p (.fn n))::r) [.A4 0]=some [.obj c fs]from rfl];dsimp only;rw[iP #[by show([0]:List Nat).Nodup;decide,rfl],e];cases o<;>rfl
 |succ v=>
   obtain⟨h1,h2⟩:=T1 hm;unfold PZ at e;rw[h1]at e;rw[h2,show Ag (some (.obj c fs)::some (.p (.fn n))::r) [.A4 0,.AN (.p (.int v))]=some [.obj c fs,.p (.int v)]from rfl];dsimp only;rw[iP #[by show([0]:List Nat).Nodup;decide,rfl],e];cases o<;>rfl
theorem FA:∀{ps:List Iv.P},(∀q∈ps,BX q=true)->Gu ps=true
 |[],_=>rfl
 | p::ps,h=>by
   show(BX p&&Gu ps)=true;rw[h p mS,FA λq hq=>h q (mC hq)];rfl
end Iv
namespace Lk52
open Iv PySem
variable{k c:Nat}{a r:List Nat}
variable{cf:CF}
theorem Ya{f l:Nat}{Cr cv:Option Nat}{R:Rr}{y:Iv.Env}{z:Option C}(hcap:Ou (some (St c a r)::y) Cr=some cv)(hm:mt.m c m=some f)(hl:(rd (tx (a++r)) a.length).lookup m=none)(e:cf f [St (tag c) a r,.p (.fn (F7 l cv))]=Ha (R.map (up (tag c) a)) [z])(hR:∀u,R=some u->BX u.1=true):
 ev cf mt (.Dp m 0 l Cr) (some (St c a r)::y)=Kx (R.map (up c a)) y:=by
 rw[Lz];unfold HF;rw[dz,hcap];dsimp only;rw[hl,hm];dsimp only;rw[iP (show C8 (rd (tx (a++r)) a.length)=true from rfl),e];cases R with
 |none=>rfl
 |some u=>
   show(if tag c=tag c/\BX u.1=true/\_ then _ else _)=_;rw[iP #[rfl,hR u rfl,rfl]];rfl
theorem Qx{c:Nat}(hc:c%1000=5):tag c%1000=5/\1000<=tag c:=by
 unfold tag;split
 .refine#[?_,?_]<;>lia
 .exact#[hc,by lia]
noncomputable def JI(j:Nat)(r:List Nat):Rr:=if j=2 then some (.Az,[],r)else JJ [44,32] r
noncomputable def rF(g:List Nat->Rr):Nat->List Nat->Option (List Iv.P×List Nat×List Nat)
 |0,r=>if r.head? =some 41 then some ([],[41],r.tail)else none
 |j+1,r=>if r.head? =some 41 then some ([],[41],r.tail)else(JI j r).bind λq=>(g q.2.2).bind λs=>(rF g j s.2.2).map λu=>(s.1::u.1,q.2.1++s.2.1++u.2.1,u.2.2)
def Vi(g:List Nat->Rr)(r:List Nat):Rr:=(rF g 3 r).map λu=>(.tup u.1,u.2)
def Cg(g:List Nat->Rr):Prop:=∀r u,g r=some u->r=u.2.1++u.2.2/\BX u.1=true
theorem B6{s:List Nat}{u:Iv.P×List Nat×List Nat}(h:JJ s r=some u):r=u.2.1++u.2.2/\u.2.1=s:=by
 unfold JJ at h;split at h
 .rename_i h1;cases h;exact#[(List.take_append_drop s.length r).symm.trans (by rw[h1]),rfl]
 .cases h
variable{j:Nat}
theorem KU{u:Iv.P×List Nat×List Nat}(h:JI j r=some u):r=u.2.1++u.2.2:=by
 unfold JI at h;split at h
 .cases h;rfl
 .exact(B6 h).1
variable{ch:Nat}
theorem BK(h:r.head? =some ch):r=ch::r.tail:=by
 cases r with
 |nil=>cases h
 |cons x r=>cases h;rfl
theorem G3{g:List Nat->Rr}(hg:Cg g):∀{j:Nat} {r:List Nat} {u:List Iv.P×List Nat×List Nat},rF g j r=some u->r=u.2.1++u.2.2/\(∀q∈u.1,BX q=true)/\u.1.length<=j:=by
 intro j
 induction j with
 |zero=>
   intro r u h;unfold rF at h;split at h
   .rename_i h1;cases h;exact#[BK h1,(λq hq=>nomatch hq),lR]
   .cases h
 |succ j ih=>
   intro r u h;unfold rF at h;split at h
   .rename_i h1;cases h;exact#[BK h1,(λq hq=>nomatch hq),Nat.zero_le _]
   .obtain⟨q,h1,h⟩:=oB h;obtain⟨s,h2,h⟩:=oB h;obtain⟨v,h3,h⟩:=oM h;cases h;obtain⟨g1,g2⟩:=hg _ _ h2;obtain⟨i1,i2,i3⟩:=ih h3;refine#[by rw[KU h1,g1,i1];simp,λx hx=>?_,Nat.succ_le_succ i3];rcases mK hx with z|z
    .rw[z];exact g2
    .exact i2 x z
theorem JK{g:List Nat->Rr}(hg:Cg g):Cg (Vi g):=λr u h=>by
 obtain⟨v,h1,rfl⟩:=oM h;obtain⟨h2,h3,_⟩:=G3 hg h1;exact#[h2,FA h3]
def FV(cf:CF)(c n:Nat)(g:List Nat->Rr):Prop:=∀a r,a.length+r.length<=70000->cf (Gh n) (St c a r::Kk n)=Ha ((g r).map (up c a)) (PZ n)
noncomputable def dt:List S:=[.ifs (.A0 .eq [.A0 .len [.A3 2],{3}]) [.raise 4] [],.ifs (.A3 2) [.expr (.Al Qd (.A3 0) [#[44,32]])] [],.expr (.Ey .append (.A3 2) [.Cy 1])]
noncomputable def ji:T:=.not (.Al RL (.A3 0) [#[41]])
theorem bZ:mD=[.asg (.nm 2) (.lst []),.M3 ji dt,.ret (some (.A0 (.tuple .op) [.A3 2]))]:=rfl
theorem UE(h:tv cf mt t U= .ok false U'):Ai (tv cf mt t) (execs cf mt Ai b) U= .ok .nx U':=by rw[BQ,h];rfl
theorem OD(h:tv cf mt t U= .ok true U')(e:execs cf mt Ai b U'= .err 4 .Az U2):Ai (tv cf mt t) (execs cf mt Ai b) U= .err 4 .Az U2:=by rw[BQ,h,Res.A5,iP rfl,e];rfl
theorem dN(h:tv cf mt t U= .ok true U')(e:execs cf mt Ai b U'= .ok .nx U2):Ai (tv cf mt t) (execs cf mt Ai b) U=Ai (tv cf mt t) (execs cf mt Ai b) U2:=by
 conv=>lhs;rw[BQ,h,Res.A5,iP rfl,e]
 rfl
variable{n:Nat}
theorem Z8{ps:List Iv.P}{ss:List S}(hc:c%1000=5)(hj:ps.length+j=2):(k+2)<<<(.ifs (.A3 2) [.expr (.Al Qd (.A3 0) [#[44,32]])] []::ss)>>>[some (St c a r),sP (.fn n),sL ps]=match JI j r with
 |some u=>(k+2)<<<ss>>>[some (St c (a++u.2.1) u.2.2),sP (.fn n),sL ps]
 |none=>.err 4 .Az [none,sP (.fn n),sL ps]:=by
 unfold JI
 by_cases h2:j=2
 .have hp:ps=[]:=by cases ps with|nil=>rfl|cons _ _=>rw[lC]at hj;lia
  subst hp;rw[iP h2];dsimp only;rw[append_nil];exact Ez rfl
 .rw[iN h2];obtain⟨p,ps',rfl⟩:∃p ps',ps=p::ps':=by cases ps with|nil=>rw[length_nil]at hj;lia|cons p ps'=>exact#[p,ps',rfl]
  have h:=IZ (k:=k) (a:=a) (r:=r) (s:=[44,32]) (y:=[sP (.fn n),sL (p::ps')]) hc (by decide);rw[E2 (t:=.A3 2) (U':=[some (St c a r),sP (.fn n),sL (p::ps')]) rfl];cases e:JJ [44,32] r with
  |none=>rw[e]at h;rw[N3 h];rfl
  |some u=>rw[e]at h;rw[N5 h];rfl
theorem SA{g:List Nat->Rr}(hc:c%1000=5)(hc2:1000<=c)(hn:CW<=n)(hg:FV (~~~(k+2)) c n g)(hcg:Cg g):∀(j:Nat) (ps:List Iv.P) (a r:List Nat),ps.length+j=3->a.length+r.length<=70000->
 match rF g j r with
 |some u=>Ai (tv (~~~(k+2)) mt ji) (execs (~~~(k+2)) mt Ai dt) [some (St c a r),sP (.fn n),sL ps]= .ok .nx [some (St c (a++u.2.1) u.2.2),sP (.fn n),sL (ps++u.1)]
 |none=>∃U,Ai (tv (~~~(k+2)) mt ji) (execs (~~~(k+2)) mt Ai dt) [some (St c a r),sP (.fn n),sL ps]= .err 4 .Az U:=by
 intro j
 induction j with
 |zero=>
   intro ps a r hl hb;unfold rF
   by_cases h:r.head? =some 41
   .rw[iP h,BK h];dsimp only;rw[append_nil];exact UE (EN (Mb (k:=k+1) hc))
   .rw[iN h];have h3:DM (.int (ps.length:Int)) (.int 3)=some true:=by rw[Av];exact congrArg some (dZ (by lia))
    refine#[[some (St c a r),sP (.fn n),sL ps],OD (EN (Mc (k:=k+1) hc h)) (E2 ?_)];generalize St c a r=o;simp! [h3]
 |succ j ih=>
   intro ps a r hl hb;unfold rF
   by_cases h:r.head? =some 41
   .rw[iP h,BK h];dsimp only;rw[append_nil];exact UE (EN (Mb (k:=k+1) hc))
   .rw [iN h];have h3:DM (.int (ps.length:Int)) (.int 3)=some false:=by rw[Av];exact congrArg some (dF (by lia))
    have ht:=EN (Mc (k:=k+1) (a:=a) (y:=[sP (.fn n),sL ps]) hc h)
    have e0:(k+2)<<<dt>>>[some (St c a r),sP (.fn n),sL ps]=(k+2)<<<dt.tail>>>[some (St c a r),sP (.fn n),sL ps]:=Ez (by
     generalize St c a r=o
     simp! [h3])
    have turn:=e0.trans (Z8 (k:=k) (a:=a) (r:=r) (n:=n) (ps:=ps) (j:=j) (ss:=[.expr (.Ey .append (.A3 2) [.Cy 1])]) hc (by lia));cases es:JI j r with
    |none=>rw[es]at turn;exact#[_,OD ht turn]
    |some q=>
      obtain⟨_,s,r1⟩:=q;rw[es]at turn;have er:=KU es;have hb1:(a++s).length+r1.length<=70000:=by rw[er]at hb;simp only[lA]at hb ⊢;lia
      have hx:=iQ (mt:=mt) (r:=[sL ps]) hn hc2 (hg (a++s) r1 hb1);rw[Option.bind_some];dsimp only at turn ⊢;cases eg:g r1 with
      |none=>
        rw[eg]at hx;refine#[[none,sP (.fn n),sL ps],OD ht (turn.trans ?_)];have hx:(k+2)|||(.Cy 1)&&&[some (St c (a++s) r1),sP (.fn n),sL ps]= .err 4 .Az [none,sP (.fn n),sL ps]:=hx;generalize St c (a++s) r1=o at hx ⊢;simp! [↓hx]
      |some u=>
        obtain⟨p,w,r2⟩:=u;rw[eg]at hx;have er1:=(hcg _ _ eg).1;have hx:(k+2)|||(.Cy 1)&&&[some (St c (a++s) r1),sP (.fn n),sL ps]= .ok (.p p) [some (St c (a++s++w) r2),sP (.fn n),sL ps]:=hx;have h0:ps.length<big:=by unfold big;lia
        have e:(k+2)<<<[.expr (.Ey .append (.A3 2) [.Cy 1])]>>>[some (St c (a++s) r1),sP (.fn n),sL ps]= .ok .nx [some (St c (a++s++w) r2),sP (.fn n),sL (ps++[p])]:=by
         generalize St c (a++s) r1=o at hx ⊢;generalize St c (a++s++w) r2=o2 at hx ⊢;simp! [↓hx,D3,h0]
        have ih:=ih (ps++[p]) (a++s++w) r2 (by rw[lA,lS];lia) (by rw[er1]at hb1;simp only[lA]at hb1 ⊢;lia);have st:=dN ht (turn.trans e);rw[Option.bind_some];dsimp only;cases ef:rF g j r2 with
        |none=>
          rw[ef]at ih;obtain⟨U,ih⟩:=ih;exact#[U,st.trans ih]
        |some v=>
          rw[ef]at ih;refine(st.trans ih).trans ?_;simp
theorem SD{g:List Nat->Rr}(hc:c%1000=5)(hc2:1000<=c)(hn:CW<=n)(hg:FV (~~~(k+2)) c n g)(hcg:Cg g)(hb:a.length+r.length<=70000):
 ~~~(k+3) 42 [St c a r,.p (.fn n)]=Ha ((Vi g r).map (up c a)) [sP (.fn n)]:=by
 have h:=SA (k:=k) hc hc2 hn hg hcg 3 [] a r rfl hb
 have e0:∀R,Ai (tv (~~~(k+2)) mt ji) (execs (~~~(k+2)) mt Ai dt) [some (St c a r),sP (.fn n),sL []]=R->(k+2)<<<mD>>>[some (St c a r),sP (.fn n),none]=jS (~~~(k+2)) mt [.ret (some (.A0 (.tuple .op) [.A3 2]))] R:=λR e=>by
  rw[bZ,Dr (c:=.lst []) (U':=[some (St c a r),sP (.fn n),none]) rfl];show execs _ _ _ (_::_) [some (St c a r),sP (.fn n),sL []]=_;rw[AJ,Kt,e]
 unfold Vi;cases ef:rF g 3 r with
 |none=>
   rw[ef]at h;obtain⟨U,h⟩:=h;exact AW jz rfl rfl (e0 _ h)
 |some v=>
   rw[ef]at h;refine Af (c:=.p (.tup v.1)) (U:=[some (St c (a++v.2.1) v.2.2),sP (.fn n),sL v.1]) jz rfl rfl ((e0 _ h).trans ?_) rfl;rfl
def sgn:Iv.P->List Nat
 |.str x=>x.cps.toList
 |_=>[]
theorem Fo(ls:List (List Nat)):(A9 ls).map sgn=ls:=by
 unfold A9;rw[map_map];exact map_id'' (λ_=>rfl) ls
noncomputable def EU(g:List Nat->Rr)(r:List Nat):Rr:=(rW F5 r).bind λq=>(JJ [40] q.2.2).bind λq2=>(rF (rW DU) 3 q2.2.2).bind λu=>if(u.1.map sgn).Nodup then(JJ [32] u.2.2).bind λq3=>(g q3.2.2).map λv=>(.tup [q.1,.tup u.1,v.1],q.2.1++q2.2.1++u.2.1++q3.2.1++v.2.1,v.2.2)else none
noncomputable def M4(h:List Nat->Rr):Nat->List Nat->Option (List Iv.P×List Nat×List Nat)
 |0,r=>if r.head? =some 93 then some ([],[93],r.tail)else none
 |j+1,r=>if r.head? =some 93 then some ([],[93],r.tail)else(JJ [59,32] r).bind λq=>(h q.2.2).bind λs=>(M4 h j s.2.2).map λu=>(s.1::u.1,q.2.1++s.2.1++u.2.1,u.2.2)
def L0(g:List Nat->Rr)(r:List Nat):Rr:=(g r).bind λq=>(JJ [58,32] q.2.2).bind λq2=>(EU g q2.2.2).bind λs=>(M4 (EU g) 3 s.2.2).map λu=>(.tup [.str Aj,q.1,.tup (s.1::u.1)],q.2.1++q2.2.1++s.2.1++u.2.1,u.2.2)
noncomputable def iE(ch:Nat)(R:Rr):Rr:=R.map λu=>(u.1,ch::u.2.1,u.2.2)
noncomputable def Qy(s:Str)(R:Rr):Rr:=R.map λu=>(.tup [.str s,u.1],u.2)
def JM(s:Str)(g:List Nat->Rr)(w r:List Nat):Rr:=(JJ [40] r).bind λq=>(Vi g q.2.2).map λu=>(.tup [.str s,.str (tx w),u.1],w++q.2.1++u.2.1,u.2.2)
def Fx(g:List Nat->Rr)(w r:List Nat):Rr:=if F5 w then JM Bm g w r else if DU w then(if r.head? =some 40 then JM BG g w r else some (.tup [.str BA,.str (tx w)],w,r))else none
def rE:Nat->List Nat->Rr
 |0,_=>none
 |n+1,r=>if r.head? =some 91 then iE 91 (L0 (rE n) r.tail)else if r.head? =some 45 then Qy BF (iE 45 (Vk r.tail))else if ahead DH r then Qy BF (R6 r)else Fx (rE n) (r.takeWhile DA) (r.dropWhile DA)
theorem DQ{B:List Nat->Bool}:Cg (rW B):=λr u h=>by
 unfold rW at h;split at h
 .cases h;exact#[(DE DA r).2.2.symm,rfl]
 .cases h
theorem NG{u:Nat×List Nat×List Nat}(h:Uw r=some u):r=u.2.1++u.2.2:=by
 unfold Uw at h;split at h
 .cases h;exact(DE DH r).2.2.symm
 .cases h
theorem Fy{g:List Nat->Rr}(hg:Cg g):Cg (EU g):=λr u h=>by
 obtain⟨q,h1,h⟩:=oB h;obtain⟨q2,h2,h⟩:=oB h;obtain⟨v,h3,h⟩:=oB h;split at h
 .obtain⟨q3,h4,h⟩:=oB h;obtain⟨x,h5,rfl⟩:=oM h;obtain⟨a1,a2⟩:=DQ _ _ h1;obtain⟨b1,b2,_⟩:=G3 DQ h3;obtain⟨c1,c2⟩:=hg _ _ h5;refine#[by rw[a1,(B6 h2).1,b1,(B6 h4).1,c1];simp,?_];show(BX q.1&&(Gu v.1&&(BX x.1&&true)))=true;rw[a2,FA b2,c2];rfl
 .cases h
theorem Vl{h:List Nat->Rr}(hg:Cg h):∀{j:Nat} {r:List Nat} {u:List Iv.P×List Nat×List Nat},M4 h j r=some u->r=u.2.1++u.2.2/\∀q∈u.1,BX q=true:=by
 intro j
 induction j with
 |zero=>
   intro r u h;unfold M4 at h;split at h
   .rename_i h1;cases h;exact#[BK h1,(λq hq=>nomatch hq)]
   .cases h
 |succ j ih=>
   intro r u h;unfold M4 at h;split at h
   .rename_i h1;cases h;exact#[BK h1,(λq hq=>nomatch hq)]
   .obtain⟨q,h1,h⟩:=oB h;obtain⟨s,h2,h⟩:=oB h;obtain⟨v,h3,h⟩:=oM h;cases h;obtain⟨g1,g2⟩:=hg _ _ h2;obtain⟨i1,i2⟩:=ih h3;refine#[by rw[(B6 h1).1,g1,i1];simp,λx hx=>?_];rcases mK hx with z|z
    .rw[z];exact g2
    .exact i2 x z
theorem P1{g:List Nat->Rr}(hg:Cg g):Cg (L0 g):=λr u h=>by
 obtain⟨q,h1,h⟩:=oB h;obtain⟨q2,h2,h⟩:=oB h;obtain⟨s,h3,h⟩:=oB h;obtain⟨v,h4,rfl⟩:=oM h;obtain⟨a1,a2⟩:=hg _ _ h1;obtain⟨b1,b2⟩:=Fy hg _ _ h3;obtain⟨c1,c2⟩:=Vl (Fy hg) h4;refine#[by rw[a1,(B6 h2).1,b1,c1];simp,?_];show(true&&(BX q.1&&((BX s.1&&Gu v.1)&&true)))=true;rw[a2,b2,FA c2];rfl
theorem Ow{R:Rr}{u:Iv.P×List Nat×List Nat}(h0:r.head? =some ch)(hR:∀u,R=some u->r.tail=u.2.1++u.2.2/\BX u.1=true)(h:iE ch R=some u):r=u.2.1++u.2.2/\BX u.1=true:=by
 obtain⟨v,h1,rfl⟩:=oM h;obtain⟨h2,h3⟩:=hR v h1;exact#[(BK h0).trans (by rw[h2];rfl),h3]
theorem KD{R:Rr}{u:Iv.P×List Nat×List Nat}(hR:∀u,R=some u->r=u.2.1++u.2.2/\BX u.1=true)(h:Qy s R=some u):r=u.2.1++u.2.2/\BX u.1=true:=by
 obtain⟨v,h1,rfl⟩:=oM h;obtain⟨h2,h3⟩:=hR v h1;exact#[h2,by show(true&&(BX v.1&&true))=true;rw[h3];rfl]
theorem L5{g:List Nat->Rr}{w:List Nat}{u:Iv.P×List Nat×List Nat}(hg:Cg g)(h:JM s g w r=some u):w++r=u.2.1++u.2.2/\BX u.1=true:=by
 obtain⟨q,h1,h⟩:=oB h;obtain⟨v,h2,rfl⟩:=oM h;obtain⟨h3,h4⟩:=JK hg _ _ h2;refine#[by rw[(B6 h1).1,h3];simp,?_];show(true&&(true&&(BX v.1&&true)))=true;rw[h4];rfl
theorem P0{g:List Nat->Rr}{w:List Nat}{u:Iv.P×List Nat×List Nat}(hg:Cg g)(h:Fx g w r=some u):w++r=u.2.1++u.2.2/\BX u.1=true:=by
 unfold Fx at h;split at h
 .exact L5 hg h
 .split at h
  .split at h
   .exact L5 hg h
   .cases h;exact#[rfl,rfl]
  .cases h
theorem D8:∀n,Cg (rE n)
 |0=>λr u h=>by cases h
 | n + 1 =>λr u h=>by
   unfold rE at h;split at h
   .rename_i h0;exact Ow h0 (λv hv=>P1 (D8 n) _ _ hv) h
   .split at h
    .rename_i h0;refine KD (λv hv=>Ow h0 (λx hx=>?_) hv) h;obtain⟨y,h1,h2⟩:=oB hx;split at h2
     .cases h2
     .cases h2;exact#[NG h1,rfl]
    .split at h
     .refine KD (λx hx=>?_) h;obtain⟨y,h1,rfl⟩:=oM hx;exact#[NG h1,rfl]
     .obtain⟨h1,h2⟩:=P0 (D8 n) h;exact#[(DE DA r).2.2.symm.trans h1,h2]
end Lk52
namespace Iv
open PySem
variable{cf:CF}{mt:MT}
theorem gX{r:Env}{o:Option (P×C)}(hv:A8 U 2=some (.p v))(hx:A8 U 3=some (.p x))(h:ev cf mt t U=Kx o r):ev cf mt (.tup [.A3 2,.A3 3,t]) U=Kx (o.map λu=>(.tup [v,x,u.1],u.2)) r:=by
 rw[Ij,CU,OB,hv];show W4 (Ux v (jD cf mt [t] (jV 3 U (A8 U 3))))=_;rw[hx];show W4 (Ux v (Ux x (jD cf mt [] (ev cf mt t U))))=_;rw[h];cases o<;>rfl
theorem hO{q:P×C}(h:ev cf mt t U=Kx (some q) r):ev cf mt (.lst [t]) U= .ok (.lst [q.1]) (some q.2::r):=by
 rw[Ik,CU,h];rfl
theorem hG{r:Env}(h:ev cf mt t U=Kx none r):ev cf mt (.lst [t]) U= .err 4 .Az (none::r):=by
 rw[Ik,CU,h];rfl
end Iv
namespace Lk52
open Iv PySem
variable{k c:Nat}{a r:List Nat}
theorem WO{l:Nat}(h:l<1000):Kk (F7 l none)=[]:=(T2 (by rw[Ki];lia)).1
theorem WN{l v:Nat}(h:l<1000):Kk (F7 l (some v))=[.p (.int v)]:=(T1 (by rw[Kh];lia)).1
abbrev Ci(i:Int):Option C:=some (.p (.int i))
noncomputable abbrev ny:T:=.Al dv (.A3 0) [.A0 .add [.A3 1,{1}]]
def Q7(k n:Nat):Prop:=∀(c above:Nat) (a r:List Nat),c%1000=5->above+n=12->a.length+r.length<=70000->~~~k 45 [St c a r,.p (.int above)]=Ha ((rE n r).map (up c a)) [Ci above]
variable{n:Nat}
theorem SK{above:Nat}{y:Iv.Env}(ih:Q7 k n)(hc:c%1000=5)(ha:above+1+n=12)(hb:a.length+r.length<=70000):k|||ny&&&(some (St c a r)::Ci above::y)=Kx ((rE n r).map (up c a)) (Ci above::y):=
 ao (h:=.AN (.p (.int ((above+1:Nat):Int)))) (RT hc) rfl (by
  generalize rd (tx (a++r)) (a.length:Int)=f0
  simp! []) rfl (ih c (above+1) a r hc ha hb)
theorem X8{above:Nat}(ih:Q7 (k+1) n)(hc:c%1000=5)(ha:above+1+n=12)(hb:a.length+r.length<=70000): ~~~(k+4) 47 [St c a r,.p (.int above)]=Ha ((Vi (rE n) r).map (up c a)) [Ci above]:=by
 obtain⟨t1,t2⟩:=Qx hc
 have hl:FV (~~~(k+2)) (tag c) (F7 50 (some above)) (rE n):=λa r hb=>by
  unfold PZ;rw[SV (by decide),WN (by decide)];exact KQ oC rfl rfl (DP (SK (k:=k+1) ih t1 ha hb)) (λs=>rfl)
 refine KQ lQ rfl rfl (DP (Ya (cv:=some above) ?_ (Yc hc) rfl (SD (k:=k) t1 t2 (SW _) hl (D8 n) hb) λu h=>(JK (D8 n) _ _ h).2)) (λs=>rfl);show(if 0<=(above:Int)/\(above:Int)<1000 then some (some (above:Int).toNat)else none)=_;rw[iP (by lia)];rfl
theorem RK{y:Iv.Env}(hc:c%1000=5)(hb:a.length+r.length<=70000):(k+6)|||(.Dp jm 0 51 none)&&&(some (St c a r)::y)=Kx ((Vi (rW DU) r).map (up c a)) y:=by
 obtain⟨t1,t2⟩:=Qx hc
 have hl:FV (~~~(k+5)) (tag c) (F7 51 none) (rW DU):=λa r hb=>by
  unfold PZ;rw[SV (by decide),WO (by decide)];exact KQ oA rfl rfl (DP (RR (aq t1) rfl (VN (k:=k) t1 hb))) (λs=>rfl)
 exact Ya (cv:=none) rfl (Yc hc) rfl (SD (k:=k+3) t1 t2 (SW _) hl DQ hb) λu h=>(JK DQ _ _ h).2
theorem R7:∀{j:Nat} {r:List Nat} {u:List Iv.P×List Nat×List Nat},rF (rW DU) j r=some u->∃ls,u.1=A9 ls/\∀l∈ls,DU l=true:=by
 intro j
 induction j with
 |zero=>
   intro r u h;unfold rF at h;split at h
   .cases h;exact#[[],rfl,(λl hl=>nomatch hl)]
   .cases h
 |succ j ih=>
   intro r u h;unfold rF at h;split at h
   .cases h;exact#[[],rfl,(λl hl=>nomatch hl)]
   .obtain⟨q,h1,h⟩:=oB h;obtain⟨s,h2,h⟩:=oB h;obtain⟨v,h3,h⟩:=oM h;cases h;obtain⟨ls,e,hl⟩:=ih h3;unfold rW at h2;split at h2
    .rename_i hn;cases h2;refine#[_::ls,by rw[e];rfl,λl hm=>?_];rcases mK hm with z|z
     .rw[z];exact hn
     .exact hl l z
    .cases h2
theorem Qp{u:List Iv.P×List Nat×List Nat}(h:rF (rW DU) 3 r=some u): ~~~(k+3) 7 [.p (.tup u.1)]= .ok (.p (.bl (decide (u.1.map sgn).Nodup))) [sP (.tup u.1)]:=by
 obtain⟨ls,e,hl⟩:=R7 h;have h3:=(G3 DQ h).2.2;rw[e]at h3 ⊢;rw[FG (by simpa using h3) hl,Fo]
theorem br{R:Rr}{f:Iv.P×C->Iv.P×C}{g:Iv.P×List Nat×List Nat->Iv.P×List Nat×List Nat}{a':List Nat}{ys:List (Option C)}(h:∀u,f (up c a' u)=up c a (g u)):Ha ((R.map (up c a')).map f) ys=Ha ((R.map g).map (up c a)) ys:=by
 cases R with
 |none=>rfl
 |some u=>show Ha (some (f (up c a' u))) ys=_;rw[h];rfl
theorem Tw{above:Nat}(ih:Q7 (k+6) n)(hc:c%1000=5)(ha:above+1+n=12)(hb:a.length+r.length<=70000): ~~~(k+7) 49 [St c a r,.p (.int above)]=Ha ((EU (rE n) r).map (up c a)) [Ci above]:=by
 have s1:=RR (cf:= ~~~(k+6)) (mt:=mt) (r:=[Ci above,none,none]) (VS hc) rfl (Sy (k:=k+2) (a:=a) hc hb);unfold EU;cases e1:rW F5 r with
 |none=>rw[e1]at s1;exact AW Yt rfl rfl (Nd s1)
 |some q=>
   obtain⟨x,w1,r1⟩:=q;rw[e1]at s1;have d1:(k+6)<<<YC>>>[some (St c a r),Ci above,none,none]=(k+6)<<<YC.tail>>>[some (St c (a++w1) r1),Ci above,sP x,none]:=Dr s1;have l1:=(DQ _ _ e1).1;have s2:=IZ (k:=k+4) (a:=a++w1) (r:=r1) (s:=[40]) (y:=[Ci above,sP x,none]) hc (by decide);rw[Option.bind_some];dsimp only at l1 ⊢;cases e2:JJ [40] r1 with
   |none=>rw[e2]at s2;exact AW Yt rfl rfl (d1.trans (N3 s2))
   |some q=>
     obtain⟨_,w2,r2⟩:=q;rw[e2]at s2;have d2:=d1.trans (N5 (ss:=YC.tail.tail) s2);have d2:(k+6)<<<YC>>>[some (St c a r),Ci above,none,none]=(k+6)<<<YC.tail.tail>>>[some (St c (a++w1++w2) r2),Ci above,sP x,none]:=d2;have l2:=(B6 e2).1;dsimp only at l2;have hb2:(a++w1++w2).length+r2.length<=70000:=by rw[l1,l2]at hb;simp only[lA]at hb ⊢;lia
     have s3:=RK (k:=k) (a:=a++w1++w2) (r:=r2) (y:=[Ci above,sP x,none]) hc hb2;unfold Vi at s3;rw[Option.bind_some];dsimp only;cases e3:rF (rW DU) 3 r2 with
     |none=>rw[e3]at s3;exact AW Yt rfl rfl (d2.trans (Nd s3))
     |some u=>
       have l3:=(G3 DQ e3).1;have hu:=Qp (k:=k+3) e3;obtain⟨qs,w3,r3⟩:=u;rw[e3]at s3;have d3:(k+6)<<<YC>>>[some (St c a r),Ci above,none,none]=(k+6)<<<YC.tail.tail.tail>>>[some (St c (a++w1++w2++w3) r3),Ci above,sP x,sP (.tup qs)]:=d2.trans (Dr s3);dsimp only at l3 hu;have s4:=EN (OI (EB (cf:= ~~~(k+6)) (mt:=mt) (t:=.A3 3) (h:=.A4 3) (U:=[some (St c (a++w1++w2++w3) r3),Ci above,sP x,sP (.tup qs)]) rfl rfl hu));rw[Option.bind_some];dsimp only
       by_cases hn:(qs.map sgn).Nodup
       .rw[dZ hn]at s4;rw[iP hn];have d4:=d3.trans (Ez s4);have s5:=IZ (k:=k+4) (a:=a++w1++w2++w3) (r:=r3) (s:=[32]) (y:=[Ci above,sP x,sP (.tup qs)]) hc (by decide);cases e4:JJ [32] r3 with
        |none=>rw[e4]at s5;exact AW Yt rfl rfl (d4.trans (N3 s5))
        |some q=>
          obtain⟨_,w4,r4⟩:=q;rw[e4]at s5;have d5:=d4.trans (N5 s5);have l4:=(B6 e4).1;dsimp only at l4;have hb4:(a++w1++w2++w3++w4).length+r4.length<=70000:=by rw[l3,l4]at hb2;simp only[lA]at hb2 ⊢;lia
          refine(KQ (ys:=[Ci above]) Yt rfl rfl (.of d5 (DP (gX rfl rfl (SK (k:=k+6) (a:=a++w1++w2++w3++w4) (r:=r4) (y:=[sP x,sP (.tup qs)]) ih hc ha hb4)))) (λs=>rfl)).trans ?_;rw[Option.bind_some];exact br λu=>by unfold up;simp
       .rw[dF hn]at s4;rw[iN hn];exact AW Yt rfl rfl (d3.trans (E2 s4))
noncomputable def YL:List S:=[.ifs (.A0 .eq [.A0 .len [.A3 3],{4}]) [.raise 4] [],.expr (.Al Qd (.A3 0) [#[59,32]]),.expr (.Ey .append (.A3 3) [.Al VO (.A3 0) [.A3 1]])]
noncomputable def eJ:T:=.not (.Al RL (.A3 0) [#[93]])
theorem bY:X4=[.asg (.nm 2) ny,.expr (.Al Qd (.A3 0) [#[58,32]]),.asg (.nm 3) (.lst [.Al VO (.A3 0) [.A3 1]]),.M3 eJ YL,.ret (some (.tup [.An (.str Aj),.A3 2,.A0 (.tuple .op) [.A3 3]]))]:=rfl
theorem X6{above:Nat}{y2:Option C}(ih:Q7 (k+6) n)(hc:c%1000=5)(ha:above+1+n=12):∀(j:Nat) (ps:List Iv.P) (a r:List Nat),ps.length+j=4->a.length+r.length<=70000->
 match M4 (EU (rE n)) j r with
 |some u=>Ai (tv (~~~(k+7)) mt eJ) (execs (~~~(k+7)) mt Ai YL) [some (St c a r),Ci above,y2,sL ps]= .ok .nx [some (St c (a++u.2.1) u.2.2),Ci above,y2,sL (ps++u.1)]
 |none=>∃U,Ai (tv (~~~(k+7)) mt eJ) (execs (~~~(k+7)) mt Ai YL) [some (St c a r),Ci above,y2,sL ps]= .err 4 .Az U:=by
 intro j
 induction j with
 |zero=>
   intro ps a r hl hb;unfold M4
   by_cases h:r.head? =some 93
   .rw[iP h,BK h];dsimp only;rw[append_nil];exact UE (EN (Mb (k:=k+6) hc))
   .rw[iN h];have h3:DM (.int (ps.length:Int)) (.int 4)=some true:=by rw[Av];exact congrArg some (dZ (by lia))
    refine#[[some (St c a r),Ci above,y2,sL ps],OD (EN (Mc (k:=k+6) hc h)) (E2 ?_)];generalize St c a r=o;simp! [h3]
 |succ j ihj=>
   intro ps a r hl hb;unfold M4
   by_cases h:r.head? =some 93
   .rw[iP h,BK h];dsimp only;rw[append_nil];exact UE (EN (Mb (k:=k+6) hc))
   .rw [iN h];have h3:DM (.int (ps.length:Int)) (.int 4)=some false:=by rw[Av];exact congrArg some (dF (by lia))
    have ht:=EN (Mc (k:=k+6) (a:=a) (y:=[Ci above,y2,sL ps]) hc h)
    have e0:(k+7)<<<YL>>>[some (St c a r),Ci above,y2,sL ps]=(k+7)<<<YL.tail>>>[some (St c a r),Ci above,y2,sL ps]:=Ez (by
     generalize St c a r=o
     simp! [h3])
    have s1:=IZ (k:=k+5) (a:=a) (r:=r) (s:=[59,32]) (y:=[Ci above,y2,sL ps]) hc (by decide);cases es:JJ [59,32] r with
    |none=>rw[es]at s1;exact#[_,OD ht (e0.trans (N3 s1))]
    |some q=>
      obtain⟨_,s,r1⟩:=q;rw[es]at s1;have turn:=e0.trans (N5 (ss:=[.expr (.Ey .append (.A3 3) [.Al VO (.A3 0) [.A3 1]])]) s1);have er:=(B6 es).1;have hb1:(a++s).length+r1.length<=70000:=by rw[er]at hb;simp only[lA]at hb ⊢;lia
      have hx:=Le (cf:= ~~~(k+7)) (mt:=mt) (r:=[y2,sL ps]) (Yd hc) rfl (Tw (k:=k) (a:=a++s) (r:=r1) ih hc ha hb1);rw[Option.bind_some];dsimp only at turn ⊢;cases eg:EU (rE n) r1 with
      |none=>
        rw[eg]at hx;refine#[[none,Ci above,y2,sL ps],OD ht (turn.trans ?_)];have hx:(k+7)|||(.Al VO (.A3 0) [.A3 1])&&&[some (St c (a++s) r1),Ci above,y2,sL ps]= .err 4 .Az [none,Ci above,y2,sL ps]:=hx;show execs _ _ _ _ [some (St c (a++s) r1),Ci above,y2,sL ps]=_;generalize St c (a++s) r1=o at hx ⊢;simp! [↓hx]
      |some u=>
        have er1:=(Fy (D8 n) _ _ eg).1;obtain⟨p,w,r2⟩:=u;rw[eg]at hx;have hx:(k+7)|||(.Al VO (.A3 0) [.A3 1])&&&[some (St c (a++s) r1),Ci above,y2,sL ps]= .ok (.p p) [some (St c (a++s++w) r2),Ci above,y2,sL ps]:=hx;have h0:ps.length<big:=by unfold big;lia
        have e:(k+7)<<<[.expr (.Ey .append (.A3 3) [.Al VO (.A3 0) [.A3 1]])]>>>[some (St c (a++s) r1),Ci above,y2,sL ps]= .ok .nx [some (St c (a++s++w) r2),Ci above,y2,sL (ps++[p])]:=by
         generalize St c (a++s) r1=o at hx ⊢;generalize St c (a++s++w) r2=o2 at hx ⊢;simp! [↓hx,D3,h0]
        have ih2:=ihj (ps++[p]) (a++s++w) r2 (by rw[lA,lS];lia) (by rw[er1]at hb1;simp only[lA]at hb1 ⊢;lia);have st:=dN ht (turn.trans e);rw[Option.bind_some];dsimp only;cases ef:M4 (EU (rE n)) j r2 with
        |none=>
          rw[ef]at ih2;obtain⟨U,ih2⟩:=ih2;exact#[U,st.trans ih2]
        |some v=>
          rw[ef]at ih2;refine(st.trans ih2).trans ?_;simp
theorem WM{above:Nat}(ih7:Q7 (k+7) n)(ih:Q7 (k+6) n)(hc:c%1000=5)(ha:above+1+n=12)(hb:a.length+r.length<=70000): ~~~(k+8) 48 [St c a r,.p (.int above)]=Ha ((L0 (rE n) r).map (up c a)) [Ci above]:=by
 have s1:=SK (k:=k+7) (a:=a) (r:=r) (y:=[none,none]) ih7 hc ha hb;unfold L0;cases e1:rE n r with
 |none=>rw[e1]at s1;exact AW aU rfl rfl (Nd s1)
 |some q=>
   have l1:=(D8 n _ _ e1).1;obtain⟨x,w1,r1⟩:=q;rw[e1]at s1;have d1:(k+7)<<<X4>>>[some (St c a r),Ci above,none,none]=(k+7)<<<X4.tail>>>[some (St c (a++w1) r1),Ci above,sP x,none]:=Dr s1;have s2:=IZ (k:=k+5) (a:=a++w1) (r:=r1) (s:=[58,32]) (y:=[Ci above,sP x,none]) hc (by decide);rw[Option.bind_some];dsimp only at l1 ⊢;cases e2:JJ [58,32] r1 with
   |none=>rw[e2]at s2;exact AW aU rfl rfl (d1.trans (N3 s2))
   |some q=>
     have l2:=(B6 e2).1;obtain⟨_,w2,r2⟩:=q;rw[e2]at s2;have d2:(k+7)<<<X4>>>[some (St c a r),Ci above,none,none]=(k+7)<<<X4.tail.tail>>>[some (St c (a++w1++w2) r2),Ci above,sP x,none]:=d1.trans (N5 s2);dsimp only at l2;have hb2:(a++w1++w2).length+r2.length<=70000:=by rw[l1,l2]at hb;simp only[lA]at hb ⊢;lia
     have s3:=Le (cf:= ~~~(k+7)) (mt:=mt) (r:=[sP x,none]) (Yd hc) rfl (Tw (k:=k) (a:=a++w1++w2) (r:=r2) ih hc ha hb2);rw[Option.bind_some];dsimp only;cases e3:EU (rE n) r2 with
     |none=>rw[e3]at s3;exact AW aU rfl rfl (d2.trans (Nd (hG s3)))
     |some u=>
       have l3:=(Fy (D8 n) _ _ e3).1;obtain⟨p,w3,r3⟩:=u;rw[e3]at s3;have d3:(k+7)<<<X4>>>[some (St c a r),Ci above,none,none]=(k+7)<<<X4.tail.tail.tail>>>[some (St c (a++w1++w2++w3) r3),Ci above,sP x,sL [p]]:=d2.trans (Dr (hO s3));dsimp only at l3;have s4:=X6 (k:=k) (y2:=some (.p x)) ih hc ha 3 [p] (a++w1++w2++w3) r3 rfl (by rw[l3]at hb2;simp only[lA]at hb2 ⊢;lia)
       have d4:∀R,Ai (tv (~~~(k+7)) mt eJ) (execs (~~~(k+7)) mt Ai YL) [some (St c (a++w1++w2++w3) r3),Ci above,sP x,sL [p]]=R->(k+7)<<<X4>>>[some (St c a r),Ci above,none,none]=jS (~~~(k+7)) mt [.ret (some (.tup [.An (.str Aj),.A3 2,.A0 (.tuple .op) [.A3 3]]))] R:=λR e=>d3.trans (by
        rw[bY];show execs _ _ _ (.M3 eJ YL::_) _=_
        rw[AJ,Kt,e])
       rw[Option.bind_some];dsimp only;cases e4:M4 (EU (rE n)) 3 r3 with
       |none=>
         rw[e4]at s4;obtain⟨U,s4⟩:=s4;exact AW aU rfl rfl (d4 _ s4)
       |some u=>
         rw[e4]at s4;obtain⟨qs,w4,r4⟩:=u;refine(Af (c:=.p (.tup [.str Aj,x,.tup (p::qs)])) (outs:=[some (St c (a++w1++w2++w3++w4) r4),Ci above]) (U:=[some (St c (a++w1++w2++w3++w4) r4),Ci above,sP x,sL (p::qs)]) aU rfl rfl ((d4 _ s4).trans ?_) rfl).trans ?_
         .rw[Hb];show execs _ _ _ _ [some (St c (a++w1++w2++w3++w4) r4),Ci above,sP x,sL (p::qs)]=_;generalize St c (a++w1++w2++w3++w4) r4=o;simp! []
         .show _=CR.ok _ [some (St c (a++(w1++w2++w3++w4)) r4),Ci above];rw[show a++(w1++w2++w3++w4)=a++w1++w2++w3++w4 by simp]
theorem aW:Q7 (k+1) 0:=by
 intro c above a r hc ha hb;have h11:(11:Int)<(above:Int):=by lia
 refine AW (U:=[some (St c a r),Ci above,none]) jy rfl rfl (E2 (t:=.A0 .gt [.A3 1,{11}]) (U':=[some (St c a r),Ci above,none]) ?_);generalize St c a r=o;simp! [h11]
theorem o6{y z:Option C}:CM ⟨2,3,iG⟩ [some s,y,z]=[some s,y]:=by done
theorem Tx{above:Nat}{w:List Nat}(ih:Q7 (k+5) n)(hc:c%1000=5)(ha:above+1+n=12){q:Iv.P×List Nat×List Nat}(hq:JJ [40] r=some q)(hb:a.length+(w++r).length<=70000):
 UC ((k+8)<<<[.ret (some (.tup [.An (.str s),.A3 2,.Al jo (.A3 0) [.A3 1]]))]>>>[some (St c (a++w++q.2.1) q.2.2),Ci above,‹w›]) ((JM s (rE n) w r).map (up c a)) [Ci above,‹w›]:=by
 have l1:=(B6 hq).1;have s6:=Le (cf:= ~~~(k+8)) (mt:=mt) (r:=[‹w›]) (av hc) rfl (X8 (k:=k+4) (a:=a++w++q.2.1) (r:=q.2.2) ih hc ha (by rw[l1]at hb;simp only[lA]at hb ⊢;lia));have h:=DP (gY (x:=.str s) (v:=.str (tx w)) rfl s6);unfold JM;rw[hq,Option.bind_some];cases e:Vi (rE n) q.2.2 with
 |none=>rw[e]at h;exact h
 |some u=>
   rw[e]at h;show _=Res.ok (Fl.ret (C.p (.tup [.str s,.str (tx w),u.1]))) (some (St c (a++(w++q.2.1++u.2.1)) u.2.2)::_);rw[show a++(w++q.2.1++u.2.1)=a++w++q.2.1++u.2.1 by simp];exact h
theorem Tj{ch:Nat}{R:Rr}:((R.map (up c (a++[ch]))):Option (Iv.P×C))=(iE ch R).map (up c a):=by
 unfold iE up;rw[Option.map_map];refine congrArg (λf=>Option.map f R) (funext λu=>?_);show(u.1,St c (a++[ch]++u.2.1) u.2.2)=(u.1,St c (a++ch::u.2.1) u.2.2);rw[show a++ch::u.2.1=a++[ch]++u.2.1 by simp]
theorem Nn{R:Rr}:(R.map (up c a)).map (λu=>(Iv.P.tup [.str s,u.1],u.2))=(Qy s R).map (up c a):=by
 unfold Qy up;rw[Option.map_map,Option.map_map];rfl
theorem PO(ih7:Q7 (k+7) n)(ih6:Q7 (k+6) n)(ih5:Q7 (k+5) n):Q7 (k+9) (n+1):=by
 intro c above a r hc ha hb;have h11:¬(11:Int)<(above:Int):=by lia
 suffices e:∃z,UC ((k+8)<<<iG>>>[some (St c a r),Ci above,none]) ((rE (n+1) r).map (up c a)) [Ci above,z]by
  obtain⟨z,e⟩:=e;exact KQ jy rfl rfl e (λs=>o6)
 have d0:(k+8)<<<iG>>>[some (St c a r),Ci above,none]=(k+8)<<<iG.tail>>>[some (St c a r),Ci above,none]:=Ez (by
  generalize St c a r=o
  simp! [h11])
 unfold rE
 by_cases h91:r.head? =some 91
 .rw[iP h91];obtain⟨r',rfl⟩:∃r',r=91::r':=#[_,BK h91];have d1:=d0.trans (E2 (Mb (k:=k+7) (a:=a) (r:=r') (y:=[Ci above,none]) hc));refine#[none,.of d1 (.jS ?_)];rw[<-Tj];exact DP (Le (au hc) rfl (WM (k:=k) (a:=a++[91]) (above:=above) ih7 ih6 hc (by lia) (by simp only[lA,lC,length_nil]at hb ⊢;lia)))
 rw[iN h91];have d1:=d0.trans (Ez (Mc (k:=k+7) (a:=a) (y:=[Ci above,none]) hc h91))
 by_cases h45:r.head? =some 45
 .rw[iP h45];obtain⟨r',rfl⟩:∃r',r=45::r':=#[_,BK h45];have d2:=d1.trans (E2 (Mb (k:=k+7) (a:=a) (r:=r') (y:=[Ci above,none]) hc));refine#[none,.of d2 (.jS ?_)];rw[<-Nn,<-Tj];exact DP (Yu (RR (VT hc) rfl (below_at (k:=k+3) (a:=a++[45]) hc (by simp only[lA,lC,length_nil]at hb ⊢;lia))))
 rw[iN h45];have d2:=d1.trans (Ez (Mc (k:=k+7) (a:=a) (y:=[Ci above,none]) hc h45));have s3:=iF (k:=k+6) (a:=a) (r:=r) (f:=15) (pred:=DH) (y:=[Ci above,none]) hc (by decide) (λch=>FI) hb;cases hf:ahead DH r with
 |true=>
   rw[hf]at s3;rw[iP rfl];refine#[none,.of (d2.trans (E2 s3)) (.jS ?_)];rw[<-Nn];exact DP (Yu (RR (Lf hc) rfl (IV (k:=k+4) (a:=a) hc hb)))
 |false =>
   rw[hf]at s3;rw[iN Bool.false_ne_true];have s4:=TJ (k:=k+5) (a:=a) (r:=r) (f:=14) (pred:=DA) (y:=[Ci above,none]) hc (by decide) (λch=>FH) hb;have d4:=(d2.trans (Ez s3)).trans (Dr s4);have h7:=XG (r:=r);have hwl:=M7 (pred:=DA) hb;have hb4:a.length+(r.takeWhile DA++r.dropWhile DA).length<=70000:=by rw[(DE DA r).2.2];exact hb
   clear s4 s3 d2 d1 d0;generalize r.takeWhile DA=w at d4 h7 hwl hb4 ⊢;generalize r.dropWhile DA=r1 at d4 hb4 ⊢;have c3:=OI (T6 (cf:= ~~~(k+8)) (mt:=mt) (a:=some (St c (a++w) r1)) (b:=Ci above) (r:=[]) (DD (k:=k+7) h7 hwl));have c1:=EN (OI (T6 (cf:= ~~~(k+8)) (mt:=mt) (a:=some (St c (a++w) r1)) (b:=Ci above) (r:=[]) (CO (k:=k+7) h7 (by unfold big;lia))));refine#[some (.p (.str (tx w))),?_];unfold Fx;cases hfm:F5 w with
   |true=>
     rw[hfm]at c3;rw[iP rfl];refine .of (d4.trans (E2 c3)) (.jS ?_);have s5:=IZ (k:=k+6) (a:=a++w) (r:=r1) (s:=[40]) (y:=[Ci above,‹w›]) hc (by decide);cases eq:JJ [40] r1 with
     |none=>
       rw[eq]at s5;unfold JM;rw[eq];exact#[_,N3 s5]
     |some q=>
       rw[eq]at s5;exact .of (N5 s5) (Tx (k:=k) ih5 hc (by lia) eq hb4)
   |false=>
     rw[hfm]at c3;rw[iN Bool.false_ne_true];have d5:=d4.trans (Ez c3);cases hnm:DU w with
     |false=>
       rw[hnm]at c1;rw[iN Bool.false_ne_true];exact#[_,d5.trans (E2 c1)]
     |true=>
       rw[hnm]at c1;rw[iP rfl];have d6:=d5.trans (Ez c1)
       by_cases h40:r1.head? =some 40
       .rw[iP h40];obtain⟨r',rfl⟩:∃r',r1=40::r':=#[_,BK h40];have d7:=d6.trans (E2 (Mb (k:=k+7) (a:=a++w) (r:=r') (y:=[Ci above,‹w›]) hc));exact .of d7 (.jS (Tx (k:=k) (q:=(.Az,[40],r')) ih5 hc (by lia) rfl hb4))
       .rw[iN h40];have d7:=d6.trans (Ez (Mc (k:=k+7) (a:=a++w) (r:=r1) (y:=[Ci above,‹w›]) hc h40));exact .of d7 rfl
theorem H9:∀(n k:Nat),Q7 (k+(4*n+5)) n
 |0,k=>aW (k:=k+4)
 | n+1,k=>by
   have h5:=H9 n k;have h6:=H9 n (k+1);have h7:=H9 n (k+2);have:=PO (k:=k+4*n) (n:=n) (by rw[show k+4*n+7=k+2+(4*n+5)by lia];exact h7) (by rw[show k+4*n+6=k+1+(4*n+5)by lia];exact h6) (by rw[show k+4*n+5=k+(4*n+5)by lia];exact h5);rw[show k+(4*(n+1)+5)=k+4*n+9 by lia];exact this
theorem Jb:∀(s:List Nat) (n:Nat),0<n->0<s.foldl (λn c=>n*10+(c-48)) n
 |[],n,h=>h
 |c::s,n,h=>Jb s (n*10+(c-48)) (by lia)
theorem snoc_ind{P:List Nat->Prop}(h0:P [])(h1:∀s c,P s->P (s++[c]))(s:List Nat):P s:=by
 have:∀t:List Nat,P t.reverse:=λt=>by
  induction t with
  |nil=>exact h0
  |cons c t ih=>rw[List.reverse_cons];exact h1 _ _ ih
 have:=this s.reverse;rwa[List.reverse_reverse]at this
theorem Ly(s:List Nat):(∀c∈s,DH c=true)->BO s<10^s.length:=by
 refine snoc_ind (P:=λs=>(∀c∈s,DH c=true)->BO s<10^s.length) (λ_=>by decide) (λs c ih h=>?_) s;have h1:=ih λd hd=>h d (mL hd)
 have h2:=h c (by simp);unfold DH at h2;simp only[bA,decide_eq_true_eq]at h2;rw[Ge,lA,lS,Nat.pow_succ]
 lia
theorem WA(s:List Nat):(∀c∈s,DH c=true)->1<=s.length->(s.head? =some 48->s.length<=1)->dg (BO s)=s:=by
 refine snoc_ind (P:=λs=>(∀c∈s,DH c=true)->1<=s.length->(s.head? =some 48->s.length<=1)->dg (BO s)=s) (λ_ h1 _=>absurd h1 (by decide)) (λs c ih h h1 h0=>?_) s;have h2:=h c (by simp);unfold DH at h2;simp only[bA,decide_eq_true_eq]at h2;rw[Ge];cases s with
 |nil=>
   show dg (0*10+(c-48))=[c];rw[Oe (by lia)]
   congr 1
   lia
 |cons d s=>
   have hd:d≠48:=λz=>by
    have:=h0 (by rw[z];rfl);simp only[lA,lC,length_nil]at this
    lia
   have hd2:=h d (by simp);unfold DH at hd2;simp only[bA,decide_eq_true_eq]at hd2;have hp:0<BO (d::s):=Jb s (0*10+(d-48)) (by lia);have hi:=ih (λe he=>h e (mL he)) (by simp) (λz=>absurd (by simpa using z) hd);rw[Of (by lia),show(BO (d::s)*10+(c-48))/10=BO (d::s)by lia,hi,show 48+(BO (d::s)*10+(c-48))%10=c by lia]
theorem Jv{pred:Nat->Bool}:∀{w r:List Nat},(∀c∈w,pred c=true)->ahead pred r=false->(w++r).takeWhile pred=w/\(w++r).dropWhile pred=r
 |[],[],_,_=>#[rfl,rfl]
 | [],c::r,_,h=>by
   have h:pred c=false:=h;rw[nil_append,List.takeWhile_cons,List.dropWhile_cons,h];exact#[rfl,rfl]
 | c::w,r,hw,h=>by
   obtain⟨h1,h2⟩:=Jv (w:=w) (r:=r) (λd hd=>hw d (mC hd)) h;rw[cons_append,List.takeWhile_cons,List.dropWhile_cons,hw c mS,h1,h2];exact#[rfl,rfl]
end Lk52
namespace Lk52
open Iv PySem
variable{k c:Nat}{a r:List Nat}
def IA(r:List Nat):Prop:=∀ch r',r=ch::r'->ch=44\/ch=41\/ch=58\/ch=59\/ch=93
theorem IA.DA{r:List Nat}(h:IA r):ahead DA r=false:=by
 cases r with
 |nil=>rfl
 |cons ch r'=>rcases h ch r' rfl with z|z|z|z|z<;>(rw[z];rfl)
theorem IA.DH{r:List Nat}(h:IA r):ahead DH r=false:=by
 cases r with
 |nil=>rfl
 |cons ch r'=>rcases h ch r' rfl with z|z|z|z|z<;>(rw[z];rfl)
theorem IA.of{ch:Nat}{r:List Nat}(h:ch=44\/ch=41\/ch=58\/ch=59\/ch=93):IA (ch::r):=λd r' e=>by cases e;exact h
end Lk52
namespace Lk52
open Iv PySem
variable{k c:Nat}{a r:List Nat}
variable{n:Nat}
theorem V1(h:Ex n p):∃ch t,sh n p=ch::t/\ch≠41:=by
 cases h with
 |num i hi=>
   rw[FZ];unfold Qf;split
   .exact⟨45,_,rfl,by decide⟩
   .obtain⟨d,s,e,_⟩:=Kc i.natAbs;have:=N7 i.natAbs d (by rw[e];exact mS);exact#[d,s,e,by lia]
 |Pm l hl=>
   rw[JE];obtain⟨h1,_,hlow,_⟩:=AO hl;cases l with
   |nil=>simp at h1
   |cons d s=>
     have:=hlow d mS;unfold low at this;simp at this;exact#[d,s,rfl,by lia]
 |Ga l ps hl h3 hp=>
   obtain⟨d,s,e,_,hcap,_⟩:=BH hl;unfold Cr at hcap;simp at hcap;exact#[d,_,by rw[ES,e];rfl,by lia]
 |call l ps hl h3 hp=>
   obtain⟨h1,_,hlow,_⟩:=AO hl;cases l with
   |nil=>simp at h1
   |cons d s=>
     have:=hlow d mS;unfold low at this;simp at this;exact#[d,_,by rw[ES];rfl,by lia]
 |case q as hq h1 h4 ha hp=>exact⟨91,_,by rw[Fn hq.Y9];rfl,by decide⟩
theorem II{u:Nat×List Nat×List Nat}(h:Uw r=some u):u.1<10^60/\u.2.1=dg u.1:=by
 unfold Uw at h;split at h
 .rename_i ho;cases h;unfold okN at ho;simp only[bA,decide_eq_true_eq,Bool.not_eq_true',Bool.and_eq_false_iff,decide_eq_false_iff_not]at ho;have hw:=(DE DH r).1;refine#[Nat.lt_of_lt_of_le (Ly _ hw) (Nat.pow_le_pow_right (by decide) ho.1.2),?_];exact(WA _ hw ho.1.1 λz=>by rcases ho.2 with y|y<;>first|exact absurd z y|lia).symm
 .cases h
def Gq(sep:List Nat)(ls:List (List Nat)):List Nat:=(ls.map λy=>sep++y).flatten
theorem Dg(sep x:List Nat)(ls:List (List Nat)):Gq sep (x::ls)=sep++x++Gq sep ls:=rfl
theorem GZ(sep x:List Nat)(ls:List (List Nat)):jn sep (x::ls)=x++Gq sep ls:=rfl
variable{g:List Nat->Rr}{Q:Iv.P->Prop}{X:Iv.P->List Nat}
theorem R8(hg:∀r u,g r=some u->Q u.1/\u.2.1=X u.1):∀{j:Nat} {r:List Nat} {u:List Iv.P×List Nat×List Nat},j<=2->rF g j r=some u->(∀q∈u.1,Q q)/\u.2.1=Gq [44,32] (u.1.map X)++[41]:=by
 intro j
 induction j with
 |zero=>
   intro r u _ h;unfold rF at h;split at h
   .cases h;exact#[(λq hq=>nomatch hq),rfl]
   .cases h
 |succ j ih=>
   intro r u hj h;unfold rF at h;split at h
   .cases h;exact#[(λq hq=>nomatch hq),rfl]
   .obtain⟨q,h1,h⟩:=oB h;obtain⟨s,h2,h⟩:=oB h;obtain⟨v,h3,h⟩:=oM h;cases h;obtain⟨k1,k2⟩:=hg _ _ h2;obtain⟨i1,i2⟩:=ih (by lia) h3;unfold JI at h1;rw[iN (by lia)]at h1;refine#[λx hx=>?_,?_]
    .rcases mK hx with z|z
     .rw[z];exact k1
     .exact i1 x z
    .show q.2.1++s.2.1++v.2.1=_;rw[map_cons,Dg,(B6 h1).2,k2,i2];simp
theorem IJ(hg:∀r u,g r=some u->Q u.1/\u.2.1=X u.1){u:List Iv.P×List Nat×List Nat}(h:rF g 3 r=some u):(∀q∈u.1,Q q)/\u.2.1=jn [44,32] (u.1.map X)++[41]:=by
 unfold rF at h;split at h
 .cases h;exact#[(λq hq=>nomatch hq),rfl]
 .obtain⟨q,h1,h⟩:=oB h;obtain⟨s,h2,h⟩:=oB h;obtain⟨v,h3,h⟩:=oM h;cases h;obtain⟨k1,k2⟩:=hg _ _ h2;obtain⟨i1,i2⟩:=R8 hg (by lia) h3;cases h1;refine#[λx hx=>?_,?_]
  .rcases mK hx with z|z
   .rw[z];exact k1
   .exact i1 x z
  .show s.2.1++v.2.1=_;rw[map_cons,GZ,k2,i2];simp
theorem KS{B:List Nat->Bool}{u:Iv.P×List Nat×List Nat}(h:rW B r=some u):∃w,u.1= .str (tx w)/\B w=true/\u.2.1=w:=by
 unfold rW at h;split at h
 .rename_i hB;cases h;exact#[_,rfl,hB,rfl]
 .cases h
abbrev dm:=List Nat×List (List Nat)×Iv.P
abbrev LO(x:dm):Iv.P:=Bp x.1 x.2.1 x.2.2
def C6(n:Nat)(x:dm):List Nat:=Hq x.1 x.2.1 (sh n x.2.2)
def Im(n:Nat)(x:dm):Prop:=(F5 x.1=true/\UB x.2.1)/\Ex n x.2.2
theorem Hu(ih:∀r u,rE n r=some u->Ex n u.1/\u.2.1=sh n u.1){u:Iv.P×List Nat×List Nat}(h:EU (rE n) r=some u):∃x,u.1=LO x/\Im n x/\u.2.1=C6 n x:=by
 obtain⟨q,h1,h⟩:=oB h;obtain⟨q2,h2,h⟩:=oB h;obtain⟨v,h3,h⟩:=oB h;split at h
 .rename_i hnd;obtain⟨q3,h4,h⟩:=oB h;obtain⟨y,h5,rfl⟩:=oM h;obtain⟨w,a1,a2,a3⟩:=KS h1;obtain⟨ls,b1,b2⟩:=R7 h3;obtain⟨_,b3⟩:=IJ (Q:=λ_=>True) (X:=sgn) (λr u h=>by obtain⟨w,c1,_,c3⟩:=KS h;exact#[trivial,by rw[c1,c3];rfl]) h3;obtain⟨c1,c2⟩:=ih _ _ h5;have h3l:=(G3 DQ h3).2.2;rw[b1]at hnd b3 h3l;rw[Fo]at b3 hnd;refine#[(w,ls,y.1),by show Iv.P.tup [q.1,.tup v.1,y.1]=_;rw[a1,b1];rfl,#[#[a2,#[by simpa using h3l,b2,hnd]],c1],?_];show q.2.1++q2.2.1++v.2.1++q3.2.1++y.2.1=Hq w ls (sh n y.1);unfold Hq;rw[a3,(B6 h2).2,b3,(B6 h4).2,c2];simp
 .cases h
theorem P2(ih:∀r u,rE n r=some u->Ex n u.1/\u.2.1=sh n u.1):∀{j:Nat} {r:List Nat} {u:List Iv.P×List Nat×List Nat},M4 (EU (rE n)) j r=some u->∃as:List dm,u.1=as.map LO/\as.length<=j/\(∀x∈as,Im n x)/\u.2.1=Gq [59,32] (as.map (C6 n))++[93]:=by
 intro j
 induction j with
 |zero=>
   intro r u h;unfold M4 at h;split at h
   .cases h;exact#[[],rfl,lR,(λq hq=>nomatch hq),rfl]
   .cases h
 |succ j ihj=>
   intro r u h;unfold M4 at h;split at h
   .cases h;exact#[[],rfl,Nat.zero_le _,(λq hq=>nomatch hq),rfl]
   .obtain⟨q,h1,h⟩:=oB h;obtain⟨s,h2,h⟩:=oB h;obtain⟨v,h3,h⟩:=oM h;cases h;obtain⟨x,k1,k2,k3⟩:=Hu ih h2;obtain⟨as,i1,i2,i3,i4⟩:=ihj h3;refine#[x::as,by show s.1::v.1=_;rw[k1,i1];rfl,Nat.succ_le_succ i2,λy hy=>?_,?_]
    .rcases mK hy with z|z
     .rw[z];exact k2
     .exact i3 y z
    .show q.2.1++s.2.1++v.2.1=_;rw[map_cons,Dg,(B6 h1).2,k3,i4];simp
theorem O6(v:Nat):Qf (v:Int)=dg v:=by unfold Qf;rw[iN (by lia)];rfl
theorem O5{v:Nat}(h:v≠0):Qf (-(v:Int))=45::dg v:=by unfold Qf;rw[iP (by lia),show(-(v:Int)).natAbs=v by lia]
theorem Hv(ih:∀r u,rE n r=some u->Ex n u.1/\u.2.1=sh n u.1){w:List Nat}{u:Iv.P×List Nat×List Nat}(h:JM s (rE n) w r=some u):∃ps,u.1= .tup [.str s,.str (tx w),.tup ps]/\ps.length<=3/\(∀q∈ps,Ex n q)/\u.2.1=sh (n+1) u.1:=by
 obtain⟨q,h1,h⟩:=oB h;obtain⟨v,h2,rfl⟩:=oM h;obtain⟨y,h3,rfl⟩:=oM h2;obtain⟨k1,k2⟩:=IJ ih h3;refine#[y.1,rfl,(G3 (D8 n) h3).2.2,k1,?_];show w++q.2.1++y.2.1=sh (n+1) (.tup [.str s,.str (tx w),.tup y.1]);rw[ES,(B6 h1).2,k2];simp
theorem KZ:∀(n:Nat) (r:List Nat) (u:Iv.P×List Nat×List Nat),rE n r=some u->Ex n u.1/\u.2.1=sh n u.1:=by
 intro n
 induction n with
 |zero=>intro r u h;cases h
 |succ n ih =>
   intro r u h;unfold rE at h;split at h
   .obtain⟨v,h1,rfl⟩:=oM h;obtain⟨q,h2,h3⟩:=oB h1;obtain⟨q2,h4,h3⟩:=oB h3;obtain⟨s,h5,h3⟩:=oB h3;obtain⟨y,h6,rfl⟩:=oM h3;obtain⟨a1,a2⟩:=ih _ _ h2;obtain⟨x,b1,b2,b3⟩:=Hu ih h5;obtain⟨as,c1,c2,c3,c4⟩:=P2 ih h6
    have ha:∀z∈x::as,Im n z:=λz hz=>by
     rcases mK hz with e|e
     .rw[e];exact b2
     .exact c3 z e
    have e:(Iv.P.tup [.str Aj,q.1,.tup (s.1::y.1)])= .tup [.str Aj,q.1,.tup ((x::as).map λa=>Bp a.1 a.2.1 a.2.2)]:=by rw[b1,c1];rfl
    show Ex (n+1) (.tup [.str Aj,q.1,.tup (s.1::y.1)])/\91::(q.2.1++q2.2.1++s.2.1++y.2.1)=sh (n+1) (.tup [.str Aj,q.1,.tup (s.1::y.1)]);rw[e];refine#[.case q.1 (x::as) a1 (by simp) (by simpa using c2) (λz hz=>(ha z hz).1) (λz hz=>(ha z hz).2),?_];rw[Fn a1.Y9,(B6 h4).2,a2,b3,c4,map_cons,GZ];show 91::(sh n q.1++[58,32]++C6 n x++(Gq [59,32] (as.map (C6 n))++[93]))=[91]++sh n q.1++[58,32]++(C6 n x++Gq [59,32] (as.map (C6 n)))++[93];simp
   .split at h
    .obtain⟨v,h1,rfl⟩:=oM h;obtain⟨y,h2,rfl⟩:=oM h1;obtain⟨z,h3,h4⟩:=oB h2;obtain⟨k1,k2⟩:=II h3;split at h4
     .cases h4
     .rename_i h0;cases h4;refine#[.num _ (by lia),?_];rw[FZ,O5 h0];exact congrArg (45::·) k2
    .split at h
     .obtain⟨v,h1,rfl⟩:=oM h;obtain⟨y,h2,rfl⟩:=oM h1;obtain⟨k1,k2⟩:=II h2;refine#[.num _ (by lia),?_];rw[FZ,O6];exact k2
     .unfold Fx at h;split at h
      .rename_i hf;obtain⟨ps,k1,k2,k3,k4⟩:=Hv ih h;exact#[by rw[k1];exact .Ga _ ps hf k2 k3,k4]
      .split at h
       .rename_i hn;split at h
        .obtain⟨ps,k1,k2,k3,k4⟩:=Hv ih h;exact#[by rw[k1];exact .call _ ps hn k2 k3,k4]
        .cases h;exact#[.Pm _ hn,rfl]
       .cases h
theorem GX{c:Nat}(h:low c=true):DA c=true:=by unfold DA;rw[h];rfl
theorem KW{v:Nat}(h:v<10^60)(hr:ahead DH r=false):Uw (dg v++r)=some (v,dg v,r):=by
 obtain⟨h1,h2⟩:=Jv (pred:=DH) (w:=dg v) (r:=r) (λc hc=>by have:=N7 v c hc;unfold DH;simp;lia) hr;unfold Uw;rw[h1,h2,bo,iP];obtain⟨d,s,e,hz⟩:=Kc v;have hl:=SN (by decide) h;unfold okN;rw[e]at hl ⊢;simp only[bA,decide_eq_true_eq,Bool.not_eq_true',Bool.and_eq_false_iff,decide_eq_false_iff_not];refine#[#[by simp,hl],?_]
 by_cases hd:d=48
 .right;rw[(hz hd).2];simp
 .left;simpa using hd
theorem NF{B:List Nat->Bool}{w:List Nat}(hB:B w=true)(hl:∀c∈w,DA c=true)(hr:ahead DA r=false):rW B (w++r)=some (.str (tx w),w,r):=by
 obtain⟨h1,h2⟩:=Jv hl hr;unfold rW;rw[h1,h2,iP hB]
theorem Dk{s:List Nat}:JJ s (s++r)=some (.Az,s,r):=by
 unfold JJ;rw[take_left,iP rfl,drop_left]
theorem Ys(ls:List (List Nat)):IA (Gq [44,32] ls++41::r):=by
 cases ls with
 |nil=>exact IA.of (.inr (.inl rfl))
 |cons x ls=>exact IA.of (.inl rfl)
theorem Yr(ls:List (List Nat)):IA (Gq [59,32] ls++93::r):=by
 cases ls with
 |nil=>exact IA.of (.inr (.inr (.inr (.inr rfl))))
 |cons x ls=>exact IA.of (.inr (.inr (.inr (.inl rfl))))
theorem NH:∀{qs:List Iv.P} {j:Nat} {r:List Nat},(∀q∈qs,∀t,IA t->g (X q++t)=some (q,X q,t))->qs.length<=j->j<=2->rF g j (Gq [44,32] (qs.map X)++41::r)=some (qs,Gq [44,32] (qs.map X)++[41],r)
 |[],j,r,_,_,_=>by cases j<;>(unfold rF;rfl)
 |q::qs,0,r,_,h,_=>by simp at h
 | q ::qs,j+1,r,hq,hl,hj=>by
   have e:Gq [44,32] ((q::qs).map X)++41::r=[44,32]++(X q++(Gq [44,32] (qs.map X)++41::r)):=by rw[map_cons,Dg];simp
   rw[e];unfold rF;rw[iN (by simp)]
   have hs:JI j ([44,32]++(X q++(Gq [44,32] (qs.map X)++41::r)))=some (.Az,[44,32],X q++(Gq [44,32] (qs.map X)++41::r)):=by
    unfold JI;rw[iN (by lia),Dk]
   rw[hs,Option.bind_some];dsimp only;rw[hq q mS _ (Ys _),Option.bind_some];dsimp only;rw[NH (λx hx=>hq x (mC hx)) (by rw[lC]at hl;lia) (by lia),map_cons,Dg];simp
theorem KY{qs:List Iv.P}(hq:∀q∈qs,(∀t,(X q++t).head?≠some 41)/\∀t,IA t->g (X q++t)=some (q,X q,t))(hl:qs.length<=3):rF g 3 (jn [44,32] (qs.map X)++41::r)=some (qs,jn [44,32] (qs.map X)++[41],r):=by
 cases qs with
 |nil=>unfold rF;rfl
 |cons q qs=>
   rw[map_cons,GZ,append_assoc];unfold rF;rw[iN ((hq q mS).1 _)];show((some (Iv.P.Az,([]:List Nat),X q++(Gq [44,32] (qs.map X)++41::r))).bind λu=>_)=_;rw[Option.bind_some];dsimp only;rw[(hq q mS).2 _ (Ys _),Option.bind_some];dsimp only;rw[NH (λx hx=>(hq x (mC hx)).2) (by rw[lC]at hl;lia) (lR)];simp
theorem JS{w:List Nat}(h:DU w=true)(t:List Nat):∃d s,w++t=d::s/\low d=true:=by
 obtain⟨h1,_,h3,_⟩:=AO h;cases w with
 |nil=>exact absurd h1 (by decide)
 |cons d s=>exact#[d,s++t,rfl,h3 d mS]
theorem Sz{w:List Nat}(h:F5 w=true):∀c∈w,DA c=true:=by
 obtain⟨d,s,e,_,hc,hl,_⟩:=BH h;intro c hm;rw[e]at hm;rcases mK hm with z|z
 .rw[z];unfold DA;rw[hc];simp
 .exact GX (hl c z)
theorem IL{m:Nat}(ih:∀p,Ex m p->∀r,IA r->rE n (sh m p++r)=some (p,sh m p,r)){x:dm}(hx:Im m x)(hr:IA r):EU (rE n) (C6 m x++r)=some (LO x,C6 m x,r):=by
 obtain⟨⟨hf,hn⟩,hp⟩:=hx;obtain⟨l,ls,p⟩:=x;dsimp only at hf hn hp;have e:C6 m (l,ls,p)++r=l++([40]++(jn [44,32] ((A9 ls).map sgn)++41::([32]++(sh m p++r)))):=by rw[Fo];unfold C6 Hq;simp
 have h3:=KY (g:=rW DU) (X:=sgn) (qs:=A9 ls) (r:=[32]++(sh m p++r)) (λq hq=>by
  obtain⟨w,hw,rfl⟩:=mem_map.mp hq;have hw:=hn.nm w hw;refine#[λt=>?_,λt ht=>NF hw (λc hc=>GX ((AO hw).2.2.1 c hc)) ht.DA];obtain⟨d,s,e,hd⟩:=JS hw t;show(w++t).head?≠_;rw[e];unfold low at hd;simp at hd ⊢
  lia) (by simpa using hn.len)
 rw[e];unfold EU;rw[NF hf (Sz hf) rfl,Option.bind_some];dsimp only;rw[Dk,Option.bind_some];dsimp only;rw[h3,Option.bind_some];dsimp only;rw[iP (by rw[Fo];exact hn.nd),Dk,Option.bind_some];dsimp only;rw[ih p hp r hr,Fo];show some (LO (l,ls,p),_,r)=some (LO (l,ls,p),Hq l ls (sh m p),r);unfold Hq;simp
theorem L4{m:Nat}(ih:∀p,Ex m p->∀r,IA r->rE n (sh m p++r)=some (p,sh m p,r)):∀{as:List dm} {j:Nat},(∀x∈as,Im m x)->as.length<=j->M4 (EU (rE n)) j (Gq [59,32] (as.map (C6 m))++93::r)=some (as.map LO,Gq [59,32] (as.map (C6 m))++[93],r)
 |[],j,_,_=>by cases j<;>(unfold M4;rfl)
 |x::as,0,_,h=>by simp at h
 | x::as,j+1,hx,hl=>by
   have e:Gq [59,32] ((x::as).map (C6 m))++93::r=[59,32]++(C6 m x++(Gq [59,32] (as.map (C6 m))++93::r)):=by rw[map_cons,Dg];simp
   rw[e];unfold M4;rw[iN (by simp),Dk,Option.bind_some];dsimp only;rw[IL ih (hx x mS) (Yr _),Option.bind_some];dsimp only;rw[L4 ih (λy hy=>hx y (mC hy)) (by rw[lC]at hl;lia),map_cons,map_cons,Dg];simp
theorem IM{m:Nat}(ih:∀p,Ex m p->∀r,IA r->rE n (sh m p++r)=some (p,sh m p,r)){w:List Nat}{ps:List Iv.P}(hp:∀q∈ps,Ex m q)(h3:ps.length<=3):JM s (rE n) w ([40]++(jn [44,32] (ps.map (sh m))++41::r))=some (.tup [.str s,.str (tx w),.tup ps],w++[40]++jn [44,32] (ps.map (sh m))++[41],r):=by
 unfold JM Vi;rw[Dk,Option.bind_some];dsimp only;rw[KY (λq hq=>#[λt=>?_,λt ht=>ih q (hp q hq) t ht]) h3]
 .simp
 .obtain⟨ch,s,e,hne⟩:=V1 (hp q hq);rw[e];simpa using hne
theorem JL{w:List Nat}{d:Nat}{s:List Nat}(e:w=d::s)(hl:∀c∈w,DA c=true)(hr:ahead DA r=false):rE (n+1) (w++r)=Fx (rE n) w r:=by
 have hd:=hl d (by rw[e];exact mS);unfold DA low Cr at hd;simp at hd;obtain⟨h1,h2⟩:=Jv hl hr;have e0:(w++r).head? =some d:=by rw[e];rfl
 have e1:ahead DH (w++r)=false:=by rw[e];show DH d=false;unfold DH;simp;lia
 conv=>lhs;unfold rE
 rw[iN (by rw[e0];simp;lia),iN (by rw[e0];simp;lia),e1,iN Bool.false_ne_true,h1,h2]
theorem NT{w:List Nat}(h:DU w=true):F5 w=false:=by
 obtain⟨h1,_,h3,_⟩:=AO h;cases w with
 |nil=>exact absurd h1 (by decide)
 |cons d s=>
   have:=h3 d mS;unfold low at this;simp at this;have hcap:Cr d=false:=by unfold Cr;simp;lia
   simp[F5,hcap]
theorem Vj:∀(n m:Nat) (p:Iv.P),Ex m p->m<=n->∀r,IA r->rE n (sh m p++r)=some (p,sh m p,r):=by
 intro n
 induction n with
 |zero=>intro m p h hm;obtain⟨m',rfl⟩:=h.pos;lia
 |succ n ihn=>
   intro m p h hm r hr;obtain⟨m,rfl⟩:=h.pos;have ih:∀p,Ex m p->∀r,IA r->rE n (sh m p++r)=some (p,sh m p,r):=λp hp=>ihn m p hp (by lia)
   cases h with
   |num i hi=>
     rw[FZ]
     by_cases h0:i<0
     .have hv:i= -((i.natAbs:Nat):Int):=by lia
      rw[hv,O5 (by lia)];show rE (n+1) (45::(dg i.natAbs++r))=_;unfold rE;rw[iN (by simp),iP (show(45::(dg i.natAbs++r)).head? =some 45 from rfl),List.tail_cons];unfold Vk;rw[KW hi hr.DH,Option.bind_some,iN (by dsimp only;lia)];rfl
     .have hv:i=((i.natAbs:Nat):Int):=by lia
      rw[hv,O6];obtain⟨d,s,ed,_⟩:=Kc i.natAbs;have hd:=N7 i.natAbs d (by rw[ed];exact mS);have e0:(dg i.natAbs++r).head? =some d:=by rw[ed];rfl
      have e1:ahead DH (dg i.natAbs++r)=true:=by rw[ed];show DH d=true;unfold DH;simp;lia
      unfold rE;rw[iN (by rw[e0];simp;lia),iN (by rw[e0];simp;lia),iP e1];unfold R6;rw[KW (by simpa using hi) hr.DH];rfl
   |Pm l hl=>
     rw[JE];obtain⟨d,s,e,_⟩:=JS hl [];rw[append_nil]at e;rw[JL e (λc hc=>GX ((AO hl).2.2.1 c hc)) hr.DA];unfold Fx;rw[NT hl,hl,iN Bool.false_ne_true,iP rfl,iN];cases r with
     |nil=>simp
     |cons ch r'=>rcases hr ch r' rfl with z|z|z|z|z<;>simp[z]
   |Ga l ps hl h3 hp=>
     obtain⟨d,s,e,_⟩:=BH hl;rw[ES,show l++[40]++jn [44,32] (ps.map (sh m))++[41]++r=l++([40]++(jn [44,32] (ps.map (sh m))++41::r))by simp,JL e (Sz hl) rfl];unfold Fx;rw[hl,iP rfl];exact IM ih hp h3
   |call l ps hl h3 hp=>
     obtain⟨d,s,e,_⟩:=JS hl [];rw[append_nil]at e;rw[ES,show l++[40]++jn [44,32] (ps.map (sh m))++[41]++r=l++([40]++(jn [44,32] (ps.map (sh m))++41::r))by simp,JL e (λc hc=>GX ((AO hl).2.2.1 c hc)) rfl];unfold Fx;rw[NT hl,hl,iN Bool.false_ne_true,iP rfl];exact(iP rfl).trans (IM ih hp h3)
   |case q as hq h1 h4 ha hp=>
     cases as with
     |nil=>simp at h1
     |cons x as=>
       have hx:∀y∈x::as,Im m y:=λy hy=>#[ha y hy,hp y hy]
       have e:sh (m+1) (.tup [.str Aj,q,.tup ((x::as).map λa=>Bp a.1 a.2.1 a.2.2)])=91::(sh m q++[58,32]++C6 m x++(Gq [59,32] (as.map (C6 m))++[93])):=by
        rw[Fn hq.Y9,map_cons,GZ];show[91]++sh m q++[58,32]++(C6 m x++Gq [59,32] (as.map (C6 m)))++[93]=_;simp
       rw[e];have e2:91::(sh m q++[58,32]++C6 m x++(Gq [59,32] (as.map (C6 m))++[93]))++r=91::(sh m q++([58,32]++(C6 m x++(Gq [59,32] (as.map (C6 m))++93::r)))):=by simp
       rw[e2];unfold rE;rw[iP (show(91::(sh m q++([58,32]++(C6 m x++(Gq [59,32] (as.map (C6 m))++93::r))))).head? =some 91 from rfl),List.tail_cons];unfold L0;rw[ih q hq ([58,32]++(C6 m x++(Gq [59,32] (as.map (C6 m))++93::r))) (IA.of (.inr (.inr (.inl rfl)))),Option.bind_some];dsimp only;rw[Dk,Option.bind_some];dsimp only;rw[IL ih (hx x mS) (Yr _),Option.bind_some];dsimp only;rw[L4 ih (λy hy=>hx y (mC hy)) (by rw[lC]at h4;lia)];rfl
end Lk52
namespace Iv
open PySem
variable{cf:CF}{mt:MT}
noncomputable def nz(o:Option (P×C))(u:Option C)(r:Env):Res C:=match o with
 |some q=>.ok (.p q.1) (u::some q.2::r)
 |none=>.err 4 .Az (u::none::r)
theorem Yb{u:Option C}{r:Env}{c:Nat}{fs:List (Str×B)}{f:Nat}{o:Option (P×C)}(hm:mt.m c m=some f)(hl:fs.lookup m=none)(e:cf f [.obj c fs]=Ha o []):ev cf mt (.Al m (.A3 1) []) (u::some (.obj c fs)::r)=nz o u r:=by
 rw[FK,dy];dsimp only;rw[hl,hm];show AK cf f [.A4 1] (u::some (.obj c fs)::r)=_;unfold AK;rw[show Ag (u::some (.obj c fs)::r) [.A4 1]=some [.obj c fs]from rfl];dsimp only;rw[iP #[by show([1]:List Nat).Nodup;decide,rfl],e];cases o<;>rfl
theorem gm{u:Option C}{r:Env}{c:Nat}{fs:List (Str×B)}{f:Nat}{o:Option (P×C)}{y:Option C}(hm:mt.m c m=some f)(hl:fs.lookup m=none)(e:cf f [.obj c fs,.p p]=Ha o [y]):ev cf mt (.Al m (.A3 1) [.An p]) (u::some (.obj c fs)::r)=nz o u r:=by
 rw[FK,dy];dsimp only;rw[hl,hm];show AK cf f [.A4 1,.AN (.p p)] (u::some (.obj c fs)::r)=_;unfold AK;rw[show Ag (u::some (.obj c fs)::r) [.A4 1,.AN (.p p)]=some [.obj c fs,.p p]from rfl];dsimp only;rw[iP #[by show([1]:List Nat).Nodup;decide,rfl],e];cases o<;>rfl
theorem i9{f x:Nat}{r:Env}(e:cf f [.p p]= .err x q):ev cf mt (.call f [.A3 0]) (some (.p p)::r)= .err x q (some (.p p)::r):=by
 rw[Bs];show AK cf f [.A4 0] (some (.p p)::r)=_;unfold AK;rw[show Ag (some (.p p)::r) [.A4 0]=some [.p p]from rfl];dsimp only;rw[iP #[by show([]:List Nat).Nodup;exact .nil,rfl],e];rfl
end Iv
namespace Lk52
open Iv PySem
variable{k:Nat}
theorem XU{c:Nat}{fs:List (Str×B)}{r:Iv.Env}(hf:mt.f c f=true)(hl:fs.length<900):IH mt 0 f (.b b) (some (.obj c fs)::r)= .ok .nx (some (.obj c (Iv.Bq f b fs))::r):=by
 show(if(mt.f c f&&decide (fs.length<900))=true then _ else _)=_;rw[hf,dZ hl];rfl
theorem Wc : ~~~(k+1) 33 [.obj 5 [],.p (.str x)]= .ok (.p .Az) [some (.obj 5 (rd x 0)),sP (.str x)]:=by
 have h1:=XU (c:=5) (f:=NW) (b:=.p (.str x)) (fs:=[]) (r:=[sP (.str x)]) rfl (by decide);have h2:=XU (c:=5) (f:=GK) (b:=.p (.int 0)) (fs:=Iv.Bq NW (.p (.str x)) []) (r:=[sP (.str x)]) rfl (by simp[Iv.Bq])
 have e:k<<<mH>>>[some (.obj 5 []),sP (.str x)]= .ok .nx [some (.obj 5 (rd x 0)),sP (.str x)]:=by
  unfold mH;simp! [h1,h2];rfl
 exact RG lX rfl rfl e (by done)
theorem OX : ~~~(k+2) 16 [.p (.str x)]= .ok (.obj 5 (rd x 0)) [sP (.str x)]:=by
 have h1:(k+1)|||(.make 5 [.A3 0])&&&[sP (.str x)]= .ok (.obj 5 (rd x 0)) [sP (.str x)]:=by
  have hm:mt.m 5 (Str.ofString "__init__")=some 33:=by done
  have e1:(k+1)|||(.make 5 [.A3 0])&&&[sP (.str x)]=match mt.m 5 (Str.ofString "__init__")with
   |some f=>(Ae (~~~(k+1)) mt [.A3 0] [sP (.str x)]).bind λhs U=>Gv (~~~(k+1)) f 5 hs U
   |none=>.A2:=by
   show(den _ _ _).v _=_;rfl
  rw[e1,hm];show Gv (~~~(k+1)) 33 5 [.A4 0] [sP (.str x)]=_;unfold Gv;rw[show Ag [sP (.str x)] [.A4 0]=some [.p (.str x)]from rfl];dsimp only;rw[iP #[#[by show([]:List Nat).Nodup;exact .nil,rfl],by decide],Wc];rfl
 have e:(k+1)<<<iM>>>[sP (.str x)]= .ok (.ret (.obj 5 (rd x 0))) [sP (.str x)]:=by
  unfold iM;simp! [↓h1]
 exact Af jK rfl rfl e (by done)
theorem OY(h:DZ .str (.b (.p p))=some false): ~~~(k+1) 16 [.p p]= .err 4 .Az:=by
 have e:k<<<iM>>>[sP p]= .err 4 .Az [sP p]:=by
  unfold iM;simp! [h,nI]
 exact AW jK rfl rfl e
theorem My{c ch:Nat}{a r:List Nat}(hb:a.length+(ch::r).length<=big): ~~~(k+1) 37 [St c a (ch::r)]= .err 4 .Az:=by
 have hl:=CN (l:=a++ch::r) (by simpa using hb);have hne:¬((a.length:Int)=((a++ch::r).length:Nat)):=by simp;lia
 have e:k<<<iH>>>[some (St c a (ch::r))]= .err 4 .Az [some (St c a (ch::r))]:=by
  unfold iH St;generalize (a++ch::r).length=n at hl hne;generalize tx (a++ch::r)=x at hl ⊢;simp! [Lv,Ka,hl,Av,hne,nI]
 exact AW jB rfl rfl e
def R4(s:List Nat):Option Iv.P:=match rE 12 s with
 |some (p,_,r)=>if r=[]/\sz 12 p<=40 then some p else none
 |none=>none
theorem Zr{s:List Nat}{p:Iv.P}(h:R4 s=some p):Ex 12 p/\s=sh 12 p:=by
 unfold R4 at h;cases e:rE 12 s with
 |none=>rw[e]at h;cases h
 |some q=>
   obtain⟨q,w,r⟩:=q;rw[e]at h;dsimp only at h;split at h
   .rename_i hh;cases h;obtain⟨h1,h2⟩:=KZ 12 _ _ e;have h3:=(D8 12 _ _ e).1;dsimp only at h2 h3;rw[hh.1,append_nil,h2]at h3;exact#[h1,h3]
   .cases h
noncomputable def nB(o:Option Iv.P)(y:Option C):CR:=match o with
 |some p=>.ok (.p p) [y]
 |none=>.err 4 .Az
theorem JF{s:List Nat}(hs:s.length<=70000): ~~~(k+54) 17 [.p (.str (tx s))]=nB (R4 s) (some (.p (.str (tx s)))):=by
 have h1:(k+53)|||(.call 16 [.A3 0])&&&[‹s›,none,none]= .ok (.obj 5 (rd (tx s) 0)) [‹s›,none,none]:=GF (OX (k:=k+51));have h2:=gm (cf:= ~~~(k+53)) (mt:=mt) (u:=some (.p (.str (tx s)))) (r:=[none]) (RT rfl) rfl (H9 12 k 5 0 [] s rfl rfl (by simpa using hs));have d1:(k+53)<<<iL>>>[‹s›,none,none]=(k+53)<<<iL.tail>>>[‹s›,some (.obj 5 (rd (tx s) 0)),none]:=Dr h1;unfold R4;cases e:rE 12 s with
 |none=>rw[e]at h2;exact AW aV rfl rfl (d1.trans (Nd h2))
 |some q=>
   have hx:=(KZ 12 _ _ e).1;have hl:=(D8 12 _ _ e).1;obtain⟨p,w,r⟩:=q;rw[e]at h2;have d2:(k+53)<<<iL>>>[‹s›,none,none]=(k+53)<<<iL.tail.tail>>>[‹s›,some (St 5 w r),sP p]:=d1.trans (Dr h2);dsimp only at hl ⊢;have hlen:w.length+r.length<=70000:=by rw[hl,lA]at hs;exact hs
   have m37:mt.m 5 nG=some 37:=FC rfl (by done);cases r with
   |cons ch r=>
     rw[iN (λz=>nomatch z.1)];exact AW aV rfl rfl (d2.trans (N3 (Yb (o:=none) (u:=some (.p (.str (tx s)))) (r:=[sP p]) m37 rfl (My (k:=k+52) (by unfold big;lia)))))
   |nil=>
     have d3:=d2.trans (N5 (Yb (o:=some (.Az,St 5 w [])) (u:=some (.p (.str (tx s)))) (r:=[sP p]) m37 rfl (Lc (k:=k+52) (by unfold big;lia))));have s4:=EN (OI (T6 (cf:= ~~~(k+53)) (mt:=mt) (a:=some (.p (.str (tx s)))) (b:=some (St 5 w [])) (r:=[]) (MS (k:=k+47) hx (Nat.le_refl 12))))
     by_cases hz:sz 12 p<=40
     .rw[iP #[rfl,hz]];rw[dZ hz]at s4;exact Af aV rfl rfl (d3.trans (Ez s4)) rfl
     .rw[iN λz=>hz z.2];rw[dF hz]at s4;exact AW aV rfl rfl (d3.trans (E2 s4))
theorem Vf(h:DZ .str (.b (.p p))=some false): ~~~(k+2) 17 [.p p]= .err 4 .Az:=AW aV rfl rfl (Nd (U':=[sP p,none,none]) (i9 (OY (k:=k) h)))
theorem Ex.up:∀{n:Nat} {p:Iv.P},Ex n p->Ex (n+1) p/\sz (n+1) p=sz n p:=by
 intro n
 induction n with
 |zero=>intro p h;cases h
 |succ n ih=>
   intro p h;refine#[?_,?_]
   .cases h with
    |num i hi=>exact .num i hi
    |Pm l hl=>exact .Pm l hl
    |Ga l ps hl h3 hp=>exact .Ga l ps hl h3 λq hq=>(ih (hp q hq)).1
    |call l ps hl h3 hp=>exact .call l ps hl h3 λq hq=>(ih (hp q hq)).1
    |case q as hq h1 h4 ha hp=>exact .case q as (ih hq).1 h1 h4 ha λa hm=>(ih (hp a hm)).1
   .show 1+((AZ p).map (sz (n+1))).sum=1+((AZ p).map (sz n)).sum;rw[map_congr_left λq hq=>(ih (h.parts.1 q hq)).2]
theorem Ex.le{n:Nat}(h:Ex n p):∀m,Ex (n+m) p/\sz (n+m) p=sz n p
 |0=>#[h,rfl]
 |m+1=>#[(h.le m).1.up.1,(h.le m).1.up.2.trans (h.le m).2]
theorem R3(hp:Ex 4 p)(hz:sz 4 p<=40):R4 (sh 4 p)=some p:=by
 have h:=Vj 12 4 p hp (by decide) [] (λd r' z=>by cases z);rw[append_nil]at h;unfold R4;rw[h];exact iP #[rfl,by rw[(hp.le 8).2];exact hz]
end Lk52
namespace Lk52
open Iv PySem
variable{k:Nat}
inductive Sm:Nat->Iv.P->Prop where
 |int {d:Nat} (i:Int):Sm (d+1) (.int i)
 |str {d:Nat} (x:Str):Sm (d+1) (.str x)
 |tup {d:Nat} (ps:List Iv.P) (h:∀q∈ps,Sm d q) (hl:ps.length<=1000):Sm (d+1) (.tup ps)
theorem Sm.up:∀{d:Nat} {p:Iv.P},Sm d p->Sm (d+1) p
 |_,_,.int i=>.int i
 |_,_,.str x=>.str x
 |_,_,.tup ps h hl=>.tup ps (λq hq=>Sm.up (h q hq)) hl
theorem Sm.le{d e:Nat}(h:Sm d p)(hd:d<=e):Sm e p:=by
 obtain⟨m,rfl⟩:=Nat.exists_eq_add_of_le hd;clear hd
 induction m with
 |zero=>exact h
 |succ m ih=>exact ih.up
theorem Ex.sm :∀{n:Nat} {p:Iv.P},Ex n p->Sm (3*n+1) p
 | n + 1,_,.num i h=>.tup _ (λq hq=>by
     rcases mK hq with z|z
     .rw[z];exact .str _
     .rw[mE z];exact .int _) (by simp)
 | n + 1,_,.Pm l h=>.tup _ (λq hq=>by
     rcases mK hq with z|z
     .rw[z];exact .str _
     .rw[mE z];exact .str _) (by simp)
 | n + 1,_,.Ga l ps h h3 hp=>.tup _ (λq hq=>by
     rcases mK hq with z|z
     .rw[z];exact .str _
     .rcases mK z with z|z
      .rw[z];exact .str _
      .rw[mE z];exact .tup (d:=3*n+2) ps (λq hq=>(Ex.sm (hp q hq)).le (by lia)) (by lia)) (by simp)
 | n + 1,_,.call l ps h h3 hp=>.tup _ (λq hq=>by
     rcases mK hq with z|z
     .rw[z];exact .str _
     .rcases mK z with z|z
      .rw[z];exact .str _
      .rw[mE z];exact .tup (d:=3*n+2) ps (λq hq=>(Ex.sm (hp q hq)).le (by lia)) (by lia)) (by simp)
 | n + 1, _, .case q as hq h1 h4 ha hp=>.tup _ (λx hx=>by
     rcases mK hx with z|z
     .rw[z];exact .str _
     .rcases mK z with z|z
      .rw[z];exact(Ex.sm hq).le (by lia)
      .rw [mE z];refine .tup (d:=3*n+2) _ (λy hy=>?_) (by simp;lia);obtain⟨a,hm,rfl⟩:=mem_map.mp hy;refine .tup (d:=3*n+1) _ (λw hw=>?_) (by simp);rcases mK hw with z|z
       .rw[z];exact .str _
       .obtain⟨n',rfl⟩:=hq.pos;rcases mK z with z|z
        .rw[z];refine .tup _ (λv hv=>?_) (by have:=(ha a hm).2.len;simp;lia);obtain⟨l,_,rfl⟩:=mem_map.mp hv;exact .str _
        .rw[mE z];exact Ex.sm (hp a hm)) (by simp)
theorem E5(i:Int):DM (.int i) (.int i)=some true:=by rw[Av];simp
theorem GC(i:Str):DM (.str i) (.str i)=some true:=by rw[eq_str];simp
theorem V6:∀(d:Nat) {p:Iv.P},Sm d p->~~~(k+d) 24 [.p p,.p p]= .ok (.p (.bl true)) [sP p,sP p]:=by
 intro d
 induction d with
 |zero=>intro p h;cases h
 |succ d ih=>
   intro p h
   suffices e:(k+d)<<<iJ>>>[sP p,sP p]= .ok (.ret (.p (.bl true))) [sP p,sP p]from Af ma rfl rfl e (by done)
   cases h with
   |int i=>
     unfold iJ;simp! [E5,C7,Pe]
   |str x=>
     unfold iJ;simp! [GC,C7]
   |tup ps hps hl=>
     have hna:(ps.length:Int).natAbs<2^61:=by simp;lia
     have hb:(k+d)|||(.comp (.nm 1) .Co [.A0 .len [.A3 1]] [] (.call 24 [.A0 .idx [.A3 3,.A3 1],.A0 .idx [.A3 2,.A3 1]]) [none,none,some 1,some 0])&&&[sP (.tup ps),sP (.tup ps)]= .ok (.lst ((Aq 0 ps.length).map λ_=>.bl true)) [sP (.tup ps),sP (.tup ps)]:=by
      refine E7 (h:=.AN (.p (.int ps.length))) (c:=.p (.int ps.length)) (xs:=Aq 0 ps.length) (r:=[sP (.tup ps),sP (.tup ps)]) rfl (by simp! []) rfl rfl rfl (by show(if _ then _ else _)=_;rw[iP hna]) (by rw[AA];unfold big;lia) rfl rfl (λ_=>rfl) λq hq=>?_
      unfold Aq at hq;obtain⟨j,hj,rfl⟩:=mem_map.mp hq;have hj:=mem_range.mp hj;have hjl:j<ps.length:=by lia
      rw[show(0:Int)+(j:Int)=(j:Int)by lia];have hi:=O8 (l:=ps) (k:=j) (p:=ps[j]) (List.getElem?_eq_getElem hjl);have h28:=ih (hps ps[j] (getElem_mem hjl));have ha:Ae (~~~(k+d)) mt [.A0 .idx [.A3 3,.A3 1],.A0 .idx [.A3 2,.A3 1]] [none,sP (.int j),sP (.tup ps),sP (.tup ps)]= .ok [.AN (.p ps[j]),.AN (.p ps[j])] [none,sP (.int j),sP (.tup ps),sP (.tup ps)]:=by simp! [hi]
      rw[Bs,ha];exact BS (hs:=[.AN (.p ps[j]),.AN (.p ps[j])]) (cs:=[.p ps[j],.p ps[j]]) rfl (λc hc=>by rcases mK hc with z|z;(· rw[z];rfl);(· rw[mE z];rfl)) h28 rfl
     have hbc:(k+d)|||(.A0 .all [.comp (.nm 1) .Co [.A0 .len [.A3 1]] [] (.call 24 [.A0 .idx [.A3 3,.A3 1],.A0 .idx [.A3 2,.A3 1]]) [none,none,some 1,some 0]])&&&[sP (.tup ps),sP (.tup ps)]= .ok (.p (.bl true)) [sP (.tup ps),sP (.tup ps)]:=by
      rw[Du,Bb,Dt,hb];show Res.of (Ih (.b (.lst _))) _=_;rw[all_map (F:=λ_=>true)];simp
     unfold iJ;simp! [↓hbc,E5]
variable{cf:CF}
theorem TH{f:Nat}{t:T}{ps:List Iv.P}(ht:Ae cf mt [t] U= .ok [.AN (.p (.tup ps))] U)(hl:ps.length<=1000)(he:∀q∈ps,cf f [.p q]= .ok (.p (.bl true)) [sP q]):ev cf mt (.A0 .all [.comp (.nm 1) .op [t] [] (.call f [.A3 1]) [none,none]]) U= .ok (.p (.bl true)) U:=by
 have hb:=Ib (cf:=cf) (mt:=mt) (elt:=.call f [.A3 1]) (F:=λ_=>.bl true) ht rfl rfl rfl (by unfold big;lia) (λx hx=>Ov (he x hx));rw[Du,Bb,Dt,hb];show Res.of (Ih (.b (.lst _))) _=_;rw[all_map (F:=λ_=>true)];simp
theorem DX{l:List Nat}(h7:∀c∈l,c<128)(hb:l.length<=1000): ~~~(k+1) 27 [.p (.str (tx l))]= .ok (.p (.bl (DU l))) [‹l›]:=by
 have hl:=CN (l:=l) (by unfold big;lia);have hbl:=Gi (cf:= ~~~k) (t:=.A3 0) (h:=.A4 0) (U:=[‹l›]) rfl rfl (by unfold big;lia) h7;have b2:=FR 1 8 (l.length:Int);rw[show decide ((1:Int)<=(l.length:Int))=decide (1<=l.length)from decide_eq_decide.mpr (by lia),show decide ((l.length:Int)<=8)=decide (l.length<=8)from decide_eq_decide.mpr (by lia)]at b2
 suffices e:k<<<mN>>>[‹l›]= .ok (.ret (.p (.bl (DU l)))) [‹l›]from Af m8 rfl rfl e (by done)
 unfold mN DU;generalize tx l=x at hl hbl ⊢;cases hc:(decide (1<=l.length)&&decide (l.length<=8))with
 |false=>
   rw[hc]at b2;generalize (l.length:Int)=n at hl b2;simp! [hl,b2]
 |true=>
   rw[hc]at b2;generalize l.all low=z at hbl ⊢;generalize (l.length:Int)=n at hl b2;simp! [hl,b2,↓hbl]
theorem Gz{l:List Nat}(h:F5 l=true): ~~~(k+2) 28 [.p (.str (tx l))]= .ok (.p (.bl true)) [‹l›]:=by
 obtain⟨d,s,rfl,h7,hcap,hlow,h128⟩:=BH h;have hl:=CN (l:=d::s) (by rw[lC];unfold big;lia);rw[lC]at hl;have b2:=FR 1 8 ((s.length+1:Nat):Int);rw[dZ (by lia),dZ (by lia)]at b2;have hi:CP (.b (.p (.str (tx (d::s))))) (.b (.p (.int 0)))=some (.p (.str (tx [d]))):=PF (l:=d::s) (k:=0) rfl (by rw[lC];unfold big;lia);have hch:=between 65 90 d;rw[show(decide (65<=d)&&decide (d<=90))=true from hcap]at hch;have hcut:=Oh (c:=d) (r:=s) (by lia)
 suffices e:(k+1)<<<jP>>>[‹d::s›]= .ok (.ret (.p (.bl true))) [‹d::s›]from Af m7 rfl rfl e (by done)
 by_cases h1:s.length+1=1
 .have e1:DM (.int ((s.length+1:Nat):Int)) (.int 1)=some true:=by rw[Av];exact congrArg some (dZ (by lia))
  generalize ((s.length+1:Nat):Int)=n at hl b2 e1;generalize tx (d::s)=x at hl hi ⊢;generalize tx [d]=y at hi hch;unfold jP;simp! [hl,b2,hi,hch,e1,ZM]
 .have e1:DM (.int ((s.length+1:Nat):Int)) (.int 1)=some false:=by rw[Av];exact congrArg some (dF (by lia))
  have hn:DU s=true:=by
   unfold DU;rw[dZ (show 1<=s.length by lia),dZ (show s.length<=8 by lia),all_eq_true.mpr hlow];rfl
  have hc:=DX (k:=k) (l:=s) (λc hc=>h128 c (mC hc)) (by lia);rw[hn]at hc;have hcc:(k+1)|||(.call 27 [.A0 (.Cm true false) [.A3 0,{1}]])&&&[‹d::s›]= .ok (.p (.bl true)) [‹d::s›]:=DL (by simp! [hcut]) hc;generalize ((s.length+1:Nat):Int)=n at hl b2 e1;generalize tx (d::s)=x at hl hi hcc ⊢;generalize tx [d]=y at hi hch;unfold jP;simp! [hl,b2,hi,hch,e1,ZM,↓hcc]
theorem RX{l:List Nat}(h:DU l=true): ~~~(k+1) 27 [.p (.str (tx l))]= .ok (.p (.bl true)) [‹l›]:=by
 obtain⟨_,h8,_,h7⟩:=AO h;exact h▸DX h7 (by lia)
theorem MH{x:dm}{n:Nat}(hx:Im n x)(hq: ~~~(k+2) 30 [.p x.2.2]= .ok (.p (.bl true)) [sP x.2.2]): ~~~(k+3) 29 [.p (LO x)]= .ok (.p (.bl true)) [sP (LO x)]:=by
 obtain⟨l,ls,q⟩:=x;obtain⟨⟨hf,hn⟩,hp⟩:=hx;dsimp only at hf hn hp hq;show ~~~(k+3) 29 [.p (.tup [.str (tx l),.tup (A9 ls),q])]= .ok _ [sP (.tup [.str (tx l),.tup (A9 ls),q])];have c28:(k+2)|||(.call 28 [{0,0}])&&&[sP (.tup [.str (tx l),.tup (A9 ls),q])]= .ok (.p (.bl true)) [sP (.tup [.str (tx l),.tup (A9 ls),q])]:=DL (by simp! []) (Gz (k:=k) hf)
 have c27:=TH (cf:= ~~~(k+2)) (f:=27) (ps:=A9 ls) (t:={0,1}) (U:=[sP (.tup [.str (tx l),.tup (A9 ls),q])]) (by simp! []) (by have:=hn.len;simp;lia) (λy hy=>by
  obtain⟨w,hw,rfl⟩:=mem_map.mp hy
  exact RX (hn.nm w hw))
 have c30:(k+2)|||(.call 30 [{0,2}])&&&[sP (.tup [.str (tx l),.tup (A9 ls),q])]= .ok (.p (.bl true)) [sP (.tup [.str (tx l),.tup (A9 ls),q])]:=DL (by simp! []) hq
 have hs:En (.b (.p (.tup (A9 ls))))=some (.p (.int ls.length)):=by
  show((Bw (A9 ls)).bind λxs=>if xs.length<4000 then some (C.p (.int (AB xs)))else none)=_;rw[Dw];show(if(ls.map tx).length<4000 then some (C.p (.int (AB (ls.map tx))))else none)=_;have h:=(G5 (ls.map tx)).2.mpr (pairwise_map.mpr (hn.nd.imp λhab z=>hab (M6 z)));have:=hn.len;rw[h,lM,iP (by lia)]
 have hl3:¬(3:Int)<(ls.length:Int):=by have:=hn.len;lia
 have hll:(A9 ls).length=ls.length:=by simp
 suffices e:(k+2)<<<mM>>>[sP (.tup [.str (tx l),.tup (A9 ls),q])]= .ok (.ret (.p (.bl true))) [sP (.tup [.str (tx l),.tup (A9 ls),q])]from Af m5 rfl rfl e (by done)
 generalize tx l=x at c28 c27 c30 ⊢;rw[<-hll]at hl3 hs;generalize A9 ls=zs at c28 c27 c30 hs hl3 ⊢;have he:=E5 (zs.length:Int);unfold mM;simp! [↓c28,↓c27,↓c30,hs,hl3,he,Av]
noncomputable abbrev sorts:List Iv.P:=[.str BF,.str BA,.str Bm,.str BG,.str Aj]
theorem MG:∀(n k:Nat) {p:Iv.P},Ex n p->~~~(k+2*n+2) 30 [.p p]= .ok (.p (.bl true)) [sP p]:=by
 intro n
 induction n with
 |zero=>intro k p h;cases h
 |succ n ih=>
   intro k p h;rw[show k+2*(n+1)+2=k+2*n+1+3 by lia]
   suffices e:∃z,(k+2*n+1+2)<<<YE>>>[sP p,none]= .ok (.ret (.p (.bl true))) [sP p,z]by
    obtain⟨z,e⟩:=e;exact Af lZ rfl rfl e (by done)
   have ih2:∀{q:Iv.P},Ex n q->~~~(k+2*n+1+2) 30 [.p q]= .ok (.p (.bl true)) [sP q]:=λhq=>by have:=ih (k+1) hq;rw[show k+1+2*n+2=k+2*n+1+2 by lia]at this;exact this
   have b3:C5 .le .le (.b (.p (.int 2))) (.b (.p (.int 3))) (.b (.p (.int 3)))=some (.p (.bl true)):=rfl;have b2:C5 .le .le (.b (.p (.int 2))) (.b (.p (.int 2))) (.b (.p (.int 3)))=some (.p (.bl true)):=rfl
   have app:∀(s l:List Nat) (ps:List Iv.P),ps.length<=3->(∀q∈ps,Ex n q)->tx s≠BF->tx s≠BA->tx s≠Aj->Cj .Qc (.b (.p (.str (tx s)))) (.b (.lst sorts))=some false->l.length<=8->(∀c∈l,c<128)->(if tx s=Bm then F5 l=true else DU l=true)->∃z,(k+2*n+1+2)<<<YE>>>[sP (.tup [.str (tx s),.str (tx l),.tup ps]),none]= .ok (.ret (.p (.bl true))) [sP (.tup [.str (tx s),.str (tx l),.tup ps]),z]:=by
    intro s l ps h3 hp n1 n2 n3 hnin h8 h7 hw;have m1:DM (.str (tx s)) (.str BF)=some false:=by rw[eq_str];simp[n1]
    have m2:DM (.str (tx s)) (.str BA)=some false:=by rw[eq_str];simp[n2]
    have m3:DM (.str (tx s)) (.str Aj)=some false:=by rw[eq_str];simp[n3]
    have c27:∀z,(k+2*n+1+2)|||(.call 27 [{0,1}])&&&[sP (.tup [.str (tx s),.str (tx l),.tup ps]),z]= .ok (.p (.bl (DU l))) [sP (.tup [.str (tx s),.str (tx l),.tup ps]),z]:=λz=>DL (by simp! []) (DX (k:=k+2*n+1+1) h7 (by lia))
    have c30:∀z,(k+2*n+1+2)|||(.A0 .all [.comp (.nm 1) .op [{0,2}] [] (.call 30 [.A3 1]) [none,none]])&&&[sP (.tup [.str (tx s),.str (tx l),.tup ps]),z]= .ok (.p (.bl true)) [sP (.tup [.str (tx s),.str (tx l),.tup ps]),z]:=λz=>TH (by simp! []) (by lia) (λq hq=>ih2 (hp q hq))
    have hl3:(ps.length:Int)<=3:=by lia
    refine#[some (.p (.bl true)),?_]
    by_cases hs:tx s=Bm
    .rw[iP hs]at hw;have m4:DM (.str (tx s)) (.str Bm)=some true:=by rw[eq_str];simp[hs]
     have c28:∀z,(k+2*n+1+2)|||(.call 28 [{0,1}])&&&[sP (.tup [.str (tx s),.str (tx l),.tup ps]),z]= .ok (.p (.bl true)) [sP (.tup [.str (tx s),.str (tx l),.tup ps]),z]:=λz=>DL (by simp! []) (Gz (k:=k+2*n+1) hw)
     generalize tx s=x at m1 m2 m3 m4 hnin c27 c28 c30 ⊢;generalize tx l=y at c27 c28 c30 ⊢;unfold YE;simp! [b3,hnin,m1,m2,m3,m4,↓c27,↓c28,↓c30,Av,hl3,C7]
    .rw[iN hs]at hw;have m4:DM (.str (tx s)) (.str Bm)=some false:=by rw[eq_str];simp[hs]
     rw[hw]at c27;generalize tx s=x at m1 m2 m3 m4 hnin c27 c30 ⊢;generalize tx l=y at c27 c30 ⊢;unfold YE;simp! [b3,hnin,m1,m2,m3,m4,↓c27,↓c30,Av,hl3,C7]
   cases h with
   |num i hi=>
     have ha:F3 TK (.b (.p (.int i)))=some (.p (.int (if i<0 then -i else i))):=rfl;have hlt:(if i<0 then -i else i)<10^60:=by split<;>lia
     have hnin:Cj .Qc (.b (.p (.str BF))) (.b (.lst sorts))=some false:=by done
     have p60:=Rh;refine#[none,?_];generalize (if i<0 then -i else i)=j at ha hlt;generalize (10:Int)^60=X at p60 hlt;unfold YE;simp! [b2,hnin,Ce,Av,ha,hlt,p60,C7,Pe]
   |Pm l hl=>
     have hnin:Cj .Qc (.b (.p (.str BA))) (.b (.lst sorts))=some false:=by done
     have c27:(k+2*n+1+2)|||(.call 27 [{0,1}])&&&[sP (.tup [.str BA,.str (tx l)]),none]= .ok (.p (.bl true)) [sP (.tup [.str BA,.str (tx l)]),none]:=DL (by simp! []) (RX hl);refine#[none,?_];generalize tx l=y at c27 ⊢;unfold YE;simp! [b2,hnin,Ce,Av,↓c27,C7]
   |Ga l ps hl h3 hp=>
     obtain⟨c,r,e,h7,_,_,hl7⟩:=BH hl;exact app [102,111,114,109] l ps h3 hp (by decide) (by decide) (by decide) (by done) (by rw[e,lC];lia) hl7 (by rw[iP rfl];exact hl)
   |call l ps hl h3 hp=>
     obtain⟨_,h8,_,h7⟩:=AO hl;exact app [99,97,108,108] l ps h3 hp (by decide) (by decide) (by decide) (by done) h8 h7 (by rw[iN (by decide)];exact hl)
   |case q as hq h1 h4 ha hp=>
     have hnin:Cj .Qc (.b (.p (.str Aj))) (.b (.lst sorts))=some false:=by done
     have hlen:(as.map λa=>Bp a.1 a.2.1 a.2.2).length=as.length:=by simp
     have c29:=TH (cf:= ~~~(k+2*n+1+2)) (f:=29) (t:={0,2}) (ps:=as.map λa=>Bp a.1 a.2.1 a.2.2) (U:=[sP (.tup [.str Aj,q,.tup (as.map λa=>Bp a.1 a.2.1 a.2.2)]),none]) (by simp! []) (by rw[hlen];lia) (λy hy=>by
      obtain⟨x,hx,rfl⟩:=mem_map.mp hy
      exact MH (k:=k+2*n) (x:=x) #[ha x hx,hp x hx] (ih k (hp x hx)))
     have c30:(k+2*n+1+2)|||(.call 30 [{0,1}])&&&[sP (.tup [.str Aj,q,.tup (as.map λa=>Bp a.1 a.2.1 a.2.2)]),none]= .ok (.p (.bl true)) [sP (.tup [.str Aj,q,.tup (as.map λa=>Bp a.1 a.2.1 a.2.2)]),none]:=DL (by simp! []) (ih2 hq);have b4:=FR 1 4 ((as.map λa=>Bp a.1 a.2.1 a.2.2).length:Int);rw[hlen,dZ (show(1:Int)<=(as.length:Int)by lia),dZ (show(as.length:Int)<=4 by lia),<-hlen]at b4;refine#[none,?_];generalize (as.map λa=>Bp a.1 a.2.1 a.2.2)=zs at c29 c30 b4 ⊢;unfold YE;simp! [b3,hnin,Ce,Av,↓c29,↓c30,b4,C7]
end Lk52
namespace Iv
open PySem
def B1(ns:List Int)(k:Nat):Int:=match ns[k]? with
 |some n=>n%10^30
 |none=>0
theorem bz(ns:List Int)(k:Nat):0<=B1 ns k:=by
 unfold B1;split
 .exact Int.emod_nonneg _ (by decide)
 .exact Int.le_refl _
variable{j:Int}
theorem fd(h0:0<j)(h1:j<1073741824):Jc i j=some (i/j):=by unfold Jc;rw[iP #[h0,h1]]
theorem md(h0:0<j):Pp i j=some (i%j):=by unfold Pp;rw[iP h0]
end Iv
namespace Lk52
open Iv PySem
variable{k:Nat}
theorem QZ(ns:List Int):JZ (.b (.ro (ns.map .int)))=some (.p (.int ns.length)):=by
 show some (C.p (.int ((ns.map Iv.P.int).length:Nat)))=_;rw[lM]
theorem Oq{ns:List Int}{j:Nat}: ~~~(k+1) 18 [.b (.ro (ns.map .int)),.p (.int j)]= .ok (.p (.int (B1 ns j))) [some (.b (.ro (ns.map .int))),sP (.int j)]:=by
 have hl:=QZ ns
 suffices e:k<<<jT>>>[some (.b (.ro (ns.map .int))),sP (.int j)]= .ok (.ret (.p (.int (B1 ns j)))) [some (.b (.ro (ns.map .int))),sP (.int j)]from Af mh rfl rfl e (by done)
 by_cases h:j<ns.length
 .have hi:CP (.b (.ro (ns.map .int))) (.b (.p (.int (j:Int))))=some (.p (.int ns[j])):=DG (l:=ns.map .int) (k:=j) (by rw[List.getElem?_map,List.getElem?_eq_getElem h];rfl);have hc:B1 ns j=ns[j]%10^30:=by unfold B1;rw[List.getElem?_eq_getElem h]
  have h1:(j:Int)<(ns.length:Int):=by lia
  rw[hc];have m30:=md (i:=ns[j]) (show(0:Int)<10^30 by decide);have p30:=fG;generalize (10:Int)^30=T at m30 p30 ⊢;generalize ns[j]=v at hi m30 ⊢;generalize ns.map Iv.P.int=l at hl hi ⊢;generalize ns.length=m at hl h1;unfold jT;simp! [hl,h1,hi,p30,m30]
 .have hc:B1 ns j=0:=by unfold B1;rw[List.getElem?_eq_none (by lia)]
  have h1:¬(j:Int)<(ns.length:Int):=by lia
  rw[hc];generalize ns.map Iv.P.int=l at hl ⊢;generalize ns.length=m at hl h1;unfold jT;simp! [hl,h1]
abbrev CH(l:List Int):C:=.lst (l.map .int)
theorem RI: ~~~(k+1) 21 [CH []]= .ok (.p (.int 0)) [some (CH [])]:=by
 have e:k<<<iK>>>[sL []]= .ok (.ret (.p (.int 0))) [sL []]:=by
  have h:Qg (.b (.lst [])) (.b (.lst []))=some true:=rfl;unfold iK;simp! [h]
 exact Af jI rfl rfl e (by done)
theorem Ph{l:List Int}{i:Int}: ~~~(k+1) 21 [CH (l++[i])]= .ok (.p (.int i)) [some (CH l)]:=by
 have h:∀m:List Iv.P,Qg (.b (.lst (m++[.int i]))) (.b (.lst []))=some false:=λm=>by
  show some (m++[Iv.P.int i]).isEmpty=_;cases m<;>rfl
 have e:k<<<iK>>>[some (CH (l++[i]))]= .ok (.ret (.p (.int i))) [some (CH l)]:=by
  unfold CH;rw[show(l++[i]).map Iv.P.int=l.map .int++[.int i]by simp];generalize l.map Iv.P.int=m;unfold iK;simp! [h,MC]
 exact Af jI rfl rfl e (by done)
theorem NU{l:List Int}(h0:∀i∈l,0<=i):∃i l',0<=i/\(∀j∈l',0<=j)/\(i≠0->l'.length+1=l.length)/\l'.length<=l.length/\∀k,~~~(k+1) 21 [CH l]= .ok (.p (.int i)) [some (CH l')]:=by
 rcases List.eq_nil_or_concat l with rfl|⟨l',i,rfl⟩
 .exact⟨0,[],Int.le_refl _,λj hj=>(by cases hj),λz=>absurd rfl z,lR,λk=>RI⟩
 .rw[List.concat_eq_append]at h0 ⊢;exact#[i,l',h0 i (by simp),λj hj=>h0 j (mL hj),λ_=>by simp,by simp,λk=>Ph]
theorem Iq{c:Int}(h0:0<=c):∃i:Int,i.natAbs<10^60/\∀k,~~~(k+1) 22 [.p (.int c)]= .ok (.p (.int i)) [sP (.int c)]:=by
 have h4:0<=c%4/\c%4<4:=#[Int.emod_nonneg _ (by decide),Int.emod_lt_of_pos _ (by decide)];have h10:0<=c%10/\c%10<10:=#[Int.emod_nonneg _ (by decide),Int.emod_lt_of_pos _ (by decide)];have h2:0<=c%2/\c%2<2:=#[Int.emod_nonneg _ (by decide),Int.emod_lt_of_pos _ (by decide)];have h60:0<=c%10^60/\c%10^60<10^60:=#[Int.emod_nonneg _ (by decide),Int.emod_lt_of_pos _ (by decide)]
 obtain⟨i,hi,hx⟩:∃i:Int,i.natAbs<10^60/\CP (.b (.lst [.int (c%10),.int (0-c%10^60),.int (c%10^60),.int (10^60-1-c%2)])) (.b (.p (.int (c%4))))=some (.p (.int i)):=by
  have:c%4=0\/c%4=1\/c%4=2\/c%4=3:=by lia
  rcases this with z|z|z|z
  .exact#[c%10,by lia,by rw[z];exact DG (k:=0) rfl]
  .exact⟨0-c%10^60,by lia,by rw[z];exact DG (k:=1) rfl⟩
  .exact#[c%10^60,by lia,by rw[z];exact DG (k:=2) rfl]
  .exact⟨10^60-1-c%2,by lia,by rw[z];exact DG (k:=3) rfl⟩
 refine#[i,hi,λk=>?_]
 have e:k<<<mO>>>[sP (.int c)]= .ok (.ret (.p (.int i))) [sP (.int c)]:=by
  have m10:=md (i:=c) (show(0:Int)<10 by decide);have m60:=md (i:=c) (show(0:Int)<10^60 by decide);have m4:=md (i:=c) (show(0:Int)<4 by decide);have m2:=md (i:=c) (show(0:Int)<2 by decide);have p60:=Rh;generalize (10:Int)^60=T at m60 p60 hx;rw[show(0:Int)-c%T= -(c%T)by lia]at hx;unfold mO;simp! [m10,m60,m4,m2,p60,hx]
 exact Af me rfl rfl e (by done)
theorem N4{cf:CF}{i f c g e:Nat}{ts:List T}(U:Iv.Env):exec cf mt Ai (.UA i f ts c g e) U=if mt.rs&&ts.all T.calm then(Ae cf mt ts U).bind (LJ cf i f c g e)else .A2:=rfl
theorem DW{o:Option Iv.P}(h: ~~~k 17 [.p p]=nB o (some (.p p))): ~~~(k+1) 31 [.p p]= .ok (.p (.tup [.bl true,o.getD .Az])) [sP p]:=by
 have h1:exec (~~~k) mt Ai (.UA 1 17 [.A3 0] 4 2 3) [sP p,sP .Az,sP (.bl true),none]= .ok .nx [sP p,sP (o.getD .Az),sP (.bl true),none]:=by
  rw[N4,iP (show(mt.rs&&[T.A3 0].all T.calm)=true by done)];rw[show Ae (~~~k) mt [.A3 0] [sP p,sP .Az,sP (.bl true),none]= .ok [.A4 0] [sP p,sP .Az,sP (.bl true),none]from rfl,Res.A5];unfold LJ;rw[show Ag [sP p,sP .Az,sP (.bl true),none] [.A4 0]=some [.p p]from rfl];dsimp only;rw[iP #[by show([]:List Nat).Nodup;exact .nil,rfl],h];cases o<;>rfl
 suffices e:k<<<mJ>>>[sP p,none,none,none]= .ok (.ret (.p (.tup [.bl true,o.getD .Az]))) [sP p,sP (o.getD .Az),sP (.bl true),none]from Af lY rfl rfl e (by done)
 unfold mJ;simp! [↓h1]
theorem ib{s:List Nat}{i:Int}(h0:0<=i)(h1:i<=s.length)(hb:s.length<=20000):CI (.b (.p (.str (tx s)))) none (some i)=some (.p (.str (tx (s.take i.toNat)))):=by
 show(D7 (tx s) none (some i)).map _=_;unfold D7;dsimp only;rw[Bn,iP #[h0,h1,by unfold big;lia]];rfl
theorem bq{s:List Nat}{i:Int}(h0:0<=i)(hb:s.length<=20000):CI (.b (.p (.str (tx s)))) (some i) none=some (.p (.str (tx (s.drop i.toNat)))):=by
 show(D7 (tx s) (some i) none).map _=_;unfold D7;dsimp only;rw[Bn,iP #[h0,by unfold big;lia]];rfl
noncomputable def QU:List Nat:=[40,41,44,32,59,58,91,93,45,48,49,50,97,98,122,65,89,90,32,61,9]
theorem OP{s:List Nat}(hs:s.length<=20000):∃t:List Nat,t.length<=s.length+1/\~~~(k+1) 26 [.p (.str (tx s)),.p (.int c)]= .ok (.p (.str (tx t))) [‹s›,sP (.int c)]:=by
 have hi:0<=c/3%((s.length:Int)+1)/\c/3%((s.length:Int)+1)<(s.length:Int)+1:=#[Int.emod_nonneg _ (by lia),Int.emod_lt_of_pos _ (by lia)];have hj:0<=c/3000%21/\c/3000%21<21:=#[Int.emod_nonneg _ (by decide),Int.emod_lt_of_pos _ (by decide)];have hlen:=CN (l:=s) (by unfold big;lia);have d3:=fd (i:=c) (show(0:Int)<3 by decide) (by decide);have d3k:=fd (i:=c) (show(0:Int)<3000 by decide) (by decide);have m3:=md (i:=c) (show(0:Int)<3 by decide);have m21:=md (i:=c/3000) (show(0:Int)<21 by decide);have ml:=md (i:=c/3) (show(0:Int)<(s.length:Int)+1 by lia)
 obtain⟨ch,hch⟩:∃ch,CP (.b (.p (.str (tx QU)))) (.b (.p (.int (c/3000%21))))=some (.p (.str (tx [ch]))):=by
  obtain⟨j,hj2⟩:=Int.eq_ofNat_of_zero_le hj.1;rw[hj2]at hj ⊢;have:j<QU.length:=by show j<21;lia
  exact#[QU[j],PF (l:=QU) (k:=j) (List.getElem?_eq_getElem this) (by decide)]
 generalize c/3%((s.length:Int)+1)=i at hi ml;generalize c/3000%21=j at hj m21 hch;have c1:=ib hi.1 (by lia) hs;have c2:=bq (s:=s) hi.1 hs;have c3:=bq (s:=s) (i:=i+1) (by lia) hs;have hz:(#[[40,41,44,32,59,58,91,93,45,48,49,50,97,98,122,65,89,90,32,61,9].toArray]:Str)=tx QU:=rfl;have l1:(s.take i.toNat).length<=s.length:=by simp;lia
 have l2:(s.take i.toNat).length+(s.drop i.toNat).length<=s.length:=by simp;lia
 have l3:(s.take i.toNat).length+(s.drop (i+1).toNat).length<=s.length:=by simp;lia
 generalize s.take i.toNat=t1 at c1 l1 l2 l3;generalize s.drop i.toNat=t2 at c2 l2;generalize s.drop (i+1).toNat=t3 at c3 l3;have a1:=B4 (a:=t1) (b:=t3) (by unfold big;lia);have a2:=B4 (a:=t1) (b:=[ch]) (by unfold big;simp;lia);have a3:=B4 (a:=t1++[ch]) (b:=t2) (by unfold big;simp;lia);have a4:=B4 (a:=t1++[ch]) (b:=t3) (by unfold big;simp;lia)
 by_cases q0:c%3=0
 .refine#[t1++t3,by simp;lia,?_]
  suffices e:k<<<ck>>>[‹s›,sP (.int c),none,none,none]= .ok (.ret (.p (.str (tx (t1++t3))))) [‹s›,sP (.int c),‹QU›,sP (.int i),‹[ch]›]from Af gV rfl rfl e (by done)
  unfold ck;rw[hz];have e0:DM (.int (c%3)) (.int 0)=some true:=by rw[Av];exact congrArg some (dZ q0)
  generalize tx (t1++t3)=z3 at a1 ⊢;generalize tx [ch]=u at hch ⊢;generalize tx QU=zz at hch ⊢;generalize s.length=n at hlen ml;generalize tx s=x at hlen c1 c3 ⊢;simp! [hlen,d3,d3k,m3,m21,ml,hch,e0,c1,c3,a1]
 .have e0:DM (.int (c%3)) (.int 0)=some false:=by rw[Av];exact congrArg some (dF q0)
  by_cases q1:c%3=1
  .refine#[t1++[ch]++t2,by simp;lia,?_]
   suffices e:k<<<ck>>>[‹s›,sP (.int c),none,none,none]= .ok (.ret (.p (.str (tx (t1++[ch]++t2))))) [‹s›,sP (.int c),‹QU›,sP (.int i),‹[ch]›]from Af gV rfl rfl e (by done)
   unfold ck;rw[hz];have e1:DM (.int (c%3)) (.int 1)=some true:=by rw[Av];exact congrArg some (dZ q1)
   generalize tx (t1++[ch]++t2)=z3 at a3 ⊢;generalize tx (t1++[ch])=z2 at a2 a3;generalize tx [ch]=u at hch a2 ⊢;generalize tx QU=zz at hch ⊢;generalize s.length=n at hlen ml;generalize tx s=x at hlen c1 c2 ⊢;simp! [hlen,d3,d3k,m3,m21,ml,hch,e0,e1,c1,c2,a2,a3]
  .refine#[t1++[ch]++t3,by simp;lia,?_]
   suffices e:k<<<ck>>>[‹s›,sP (.int c),none,none,none]= .ok (.ret (.p (.str (tx (t1++[ch]++t3))))) [‹s›,sP (.int c),‹QU›,sP (.int i),‹[ch]›]from Af gV rfl rfl e (by done)
   unfold ck;rw[hz];have e1:DM (.int (c%3)) (.int 1)=some false:=by rw[Av];exact congrArg some (dF q1)
   generalize tx (t1++[ch]++t3)=z3 at a4 ⊢;generalize tx (t1++[ch])=z2 at a2 a4;generalize tx [ch]=u at hch a2 ⊢;generalize tx QU=zz at hch ⊢;generalize s.length=n at hlen ml;generalize tx s=x at hlen c1 c3 ⊢;simp! [hlen,d3,d3k,m3,m21,ml,hch,e0,e1,c1,c3,a2,a4]
end Lk52
namespace Iv
open PySem
theorem Dq{gs:List (Nat×C)}{b:Env->Res Fl}{J:List P->Env->Prop}{all:List P}(hg:∀d U,J d U->holds gs U=true)(turn:∀d x r,d++x::r=all->∀U,J d U->∃U1 U2 fl,Ew g x U=some U1/\b U1= .ok fl U2/\(fl= .nx\/fl= .cnt)/\J (d++[x]) U2):
 ∀(xs d:List P) (U:Env),d++xs=all->J d U->∃U',J all U'/\forL g gs b xs U= .ok .nx U'
 | [],d,U,e,h=>by
   rw[append_nil]at e;subst e;refine#[U,h,?_];show(if holds gs U then _ else _)=_;rw[hg _ _ h];rfl
 | x::xs,d,U,e,h=>by
   obtain⟨U1,U2,fl,e1,e2,hf,h2⟩:=turn d x xs e U h;obtain⟨U',q1,q2⟩:=Dq hg turn xs (d++[x]) U2 (by rw[append_assoc];exact e) h2;refine#[U',q1,?_];show(if holds gs U then(Res.of (Ew g x U) U).bind _ else _)=_;rw[hg _ _ h,iP rfl,e1];show((b U1).bind _)=_;rw[e2,Res.A5];rcases hf with rfl|rfl
   .exact q2
   .exact q2
def AM(b:Nat):List Nat:=(List.range 26).map (b + ·)
theorem El{b:Nat}{i:Int}(h0:0<=i)(h1:i<26):CP (.b (.p (.str (tx (AM b))))) (.b (.p (.int i)))=some (.p (.str (tx [b+i.toNat]))):=by
 obtain⟨j,rfl⟩:=Int.eq_ofNat_of_zero_le h0;exact PF (l:=AM b) (k:=j) (c:=b+j) (by unfold AM;rw[List.getElem?_map,List.getElem?_range (by lia)];rfl) (by unfold AM big;simp)
theorem gf{a:Int}(h: -(2^64)<a/\a<2^64):mulC (.b (.p (.int a))) (.b (.p (.int j)))=some (.p (.int (a*j))):=by
 show(RN a j).map _=_;unfold RN;rw[iP (.inl h)];rfl
end Iv
namespace Lk52
open Iv PySem
theorem Yv{s:List Nat}{i:Int}(h0:0<=i)(h1:i<=s.length)(hb:s.length<=1000):CI (.b (.p (.str (tx s)))) none (some i)=some (.p (.str (tx (s.take i.toNat)))):=ib h0 h1 (by lia)
theorem Yw{s:List Nat}{i:Int}(h0:0<=i)(h1:i<=s.length)(hb:s.length<=1000):CI (.b (.p (.str (tx s)))) (some i) none=some (.p (.str (tx (s.drop i.toNat)))):=bq h0 (by lia)
variable{k:Nat}
theorem EG(c:Int):0<=c%26/\c%26<26:=#[Int.emod_nonneg _ (by decide),Int.emod_lt_of_pos _ (by decide)]
theorem O1(c:Int):low (97+(c%26).toNat)=true:=by
 have:=EG c;unfold low;simp
 lia
theorem Yz(c:Int):Cr (65+(c%26).toNat)=true:=by
 have:=EG c;unfold Cr;simp
 lia
noncomputable def dQ:List S:=[.asg (.nm 2) (.A0 .add [.A3 2,.A0 .idx [.A3 1,.A0 .mod [.A0 .fdiv [.A3 0,.A0 .add [{8},.A0 .mul [{3},.A3 3]]],{26}]]])]
theorem cm:mP=[.asg (.nm 1) (.An (.str dq)),.asg (.nm 2) #[],.C3 (.nm 3) .Co [.A0 .mod [.A3 0,{8}]] dQ,.asg (.nm 4) (.A0 .mod [.A0 .fdiv [.A3 0,{64}],.A0 .add [.A0 .len [.A3 2],{1}]]),.ret (some (.comp (.nm 1) .Co [{6}] [] (.A0 .add [.A0 .add [.A0 (.Cm false true) [.A3 5,.A3 2],.A0 .idx [.A3 4,.A0 .mod [.A0 .add [.A0 .fdiv [.A3 3,{512}],.A3 1],{26}]]],.A0 (.Cm true false) [.A3 5,.A3 2]]) [none,none,some 4,some 0,some 1,some 2]))]:=rfl
variable{cf:CF}{j:Int}
theorem VJ{s:List Nat}{y4:Option C}(h0:0<=j)(h1:j<1000)(hs:s.length<=100):execs cf mt Ai dQ [sP (.int c),‹AM 97›,‹s›,sP (.int j),y4]= .ok .nx [sP (.int c),‹AM 97›,‹s++[97+(c/(8+3*j)%26).toNat]›,sP (.int j),y4]:=by
 have hl:=EG (c/(8+3*j));have h2:=El (b:=97) hl.1 hl.2;have h3:=gf (a:=3) (j:=j) (by decide);have h4:=fd (i:=c) (j:=8+3*j) (by lia) (by lia);have h5:=md (i:=c/(8+3*j)) (show(0:Int)<26 by decide);have h6:=B4 (a:=s) (b:=[97+(c/(8+3*j)%26).toNat]) (by unfold big;simp;lia);generalize s++[97+(c/(8+3*j)%26).toNat]=s' at h6 ⊢;generalize tx [97+(c/(8+3*j)%26).toNat]=u at h2 h6;generalize tx (AM 97)=z at h2 ⊢;unfold dQ;simp! [h2,h3,h4,h5,h6]
noncomputable def Lb(s:List Nat)(i:Nat)(c:Int)(j:Nat):List Nat:=s.take i++[97+((c/512+j)%26).toNat]++s.drop i
theorem Mi{t:T}(ht:Ae cf mt [t] U= .ok [.AN (.p (.int n))] U)(hn:0<=n/\n<=1000):exec cf mt Ai (.C3 g .Co [t] b) U=forL g [] (execs cf mt Ai b) (Aq 0 n) U:=by
 rw[HW];show(if IK.Co.ok=true then(Ae cf mt [t] U).bind _ else _)=_;rw[iP (show IK.Co.ok=true from rfl),ht,Res.A5];unfold PN;rw[show Ag U [.AN (.p (.int n))]=some [.p (.int n)]from rfl];dsimp only
 have:B5 .Co [.p (.int n)]=some (Aq 0 n):=by
  show(if n.natAbs<2^61 then _ else _)=_;rw[iP (by lia)]
 rw[this];rfl
theorem ID{n:Int}{B:Iv.Env->Res Fl}{E:List Nat->Option C->Iv.Env}(hn:0<=n/\n<1000)(hset:∀s y q,Ew (.nm 3) q (E s y)=some (E s (some (.p q))))(turn:∀(j:Int) (s:List Nat),0<=j->j<n->s.length<=100->∃ch,low ch=true/\B (E s (some (.p (.int j))))= .ok .nx (E (s++[ch]) (some (.p (.int j)))))(hn2:n<=100):
 ∃s y,(s.length:Int)=n/\(∀ch∈s,low ch=true)/\forL (.nm 3) [] B (Aq 0 n) (E [] none)= .ok .nx (E s y):=by
 obtain⟨U',⟨s,y,h1,h2,h3⟩,e⟩:=Dq (g:=.nm 3) (gs:=[]) (b:=B) (J:=λd U=>∃s y,s.length=d.length/\(∀ch∈s,low ch=true)/\U=E s y) (all:=Aq 0 n) (λ_ _ _=>rfl) (λd q r e U ⟨s,y,h1,h2,h3⟩=>by
  subst h3;have hq:q∈Aq 0 n:=by rw[<-e];simp
  have BP:d.length<=100:=by
   have:=congrArg List.length e;rw[lA,AA]at this
   lia
  unfold Aq at hq;obtain⟨j,hj,rfl⟩:=mem_map.mp hq;have hj:=mem_range.mp hj;obtain⟨ch,hch,ht⟩:=turn (0+(j:Int)) s (by lia) (by lia) (by lia);refine#[_,_,.nx,hset s y _,ht,.inl rfl,s++[ch],_,by simp[h1],λx hx=>?_,rfl];rcases mZ hx with z|z
  .exact h2 x z
  .rw[mE z];exact hch) (Aq 0 n) [] (E [] none) rfl #[[],none,rfl,λ_ z=>(by cases z),rfl]
 refine#[s,y,by rw[h1,AA];lia,h2,?_];rw[e,h3]
theorem Pl :∃s i,s.length<=7/\(∀ch∈s,low ch=true)/\i<=s.length/\~~~(k+1) 19 [.p (.int c)]= .ok (.lst (A9 ((List.range 6).map (Lb s i c)))) [sP (.int c)]:=by
 have h8:0<=c%8/\c%8<8:=#[Int.emod_nonneg _ (by decide),Int.emod_lt_of_pos _ (by decide)];obtain⟨s,y3,hsl,hlow,hloop⟩:=ID (n:=c%8) (B:=execs (~~~k) mt Ai dQ) (E:=λs y=>[sP (.int c),‹AM 97›,‹s›,y,none]) (by lia) (λ_ _ _=>rfl) (λj s h0 h1 hs=>#[_,O1 _,VJ h0 (by lia) hs]) (by lia);have hi:0<=c/64%((s.length:Int)+1)/\c/64%((s.length:Int)+1)<(s.length:Int)+1:=#[Int.emod_nonneg _ (by lia),Int.emod_lt_of_pos _ (by lia)];refine#[s,(c/64%((s.length:Int)+1)).toNat,by lia,hlow,by lia,?_]
 have hfor:exec (~~~k) mt Ai (.C3 (.nm 3) .Co [.A0 .mod [.A3 0,{8}]] dQ) [sP (.int c),‹AM 97›,‹[]›,none,none]= .ok .nx [sP (.int c),‹AM 97›,‹s›,y3,none]:=
  (Mi (n:=c%8) (by
   generalize tx (AM 97)=zz
   simp! [md (i:=c) (show(0:Int)<8 by decide)]) (by lia)).trans hloop
 have hlen:=CN (l:=s) (by unfold big;lia);have hf64:=fd (i:=c) (show(0:Int)<64 by decide) (by decide);have hmd:=md (i:=c/64) (show(0:Int)<(s.length:Int)+1 by lia);have hcl:=Yv hi.1 (by lia) (show s.length<=1000 by lia);have hch:=Yw hi.1 (by lia) (show s.length<=1000 by lia);generalize hI:c/64%((s.length:Int)+1)=i at hi hmd hcl hch ⊢
 have hcomp:k|||(.comp (.nm 1) .Co [{6}] [] (.A0 .add [.A0 .add [.A0 (.Cm false true) [.A3 5,.A3 2],.A0 .idx [.A3 4,.A0 .mod [.A0 .add [.A0 .fdiv [.A3 3,{512}],.A3 1],{26}]]],.A0 (.Cm true false) [.A3 5,.A3 2]]) [none,none,some 4,some 0,some 1,some 2])&&&[sP (.int c),‹AM 97›,‹s›,y3,sP (.int i)]= .ok (.lst ((Aq 0 6).map λq=>match q with| .int j=>.str (tx (Lb s i.toNat c j.toNat))|q=>q)) [sP (.int c),‹AM 97›,‹s›,y3,sP (.int i)]:=by
  refine E7 (h:=.AN (.p (.int 6))) (c:=.p (.int 6)) (xs:=Aq 0 6) (r:=[sP (.int i),sP (.int c),‹AM 97›,‹s›]) rfl rfl rfl rfl rfl rfl (by rw[AA];unfold big;lia) rfl rfl (λ_=>rfl) λq hq=>?_
  unfold Aq at hq;obtain⟨j,hj,rfl⟩:=mem_map.mp hq;rw[show(0:Int)+(j:Int)=(j:Int)by lia];have hl:=EG (c/512+(j:Int));have h2:=El (b:=97) hl.1 hl.2;have h4:=fd (i:=c) (show(0:Int)<512 by decide) (by decide);have h5:=md (i:=c/512+(j:Int)) (show(0:Int)<26 by decide);have h6:=B4 (a:=s.take i.toNat) (b:=[97+((c/512+(j:Int))%26).toNat]) (by unfold big;simp;lia);have h7:=B4 (a:=s.take i.toNat++[97+((c/512+(j:Int))%26).toNat]) (b:=s.drop i.toNat) (by unfold big;simp;lia);show _=Res.ok (C.p (.str (tx (Lb s i.toNat c j)))) _;unfold Lb;generalize s.take i.toNat++[97+((c/512+(j:Int))%26).toNat]++s.drop i.toNat=z3 at h7 ⊢;generalize tx (s.take i.toNat++[97+((c/512+(j:Int))%26).toNat])=z2 at h6 h7;generalize tx [97+((c/512+(j:Int))%26).toNat]=u at h2 h6;generalize tx (s.take i.toNat)=z0 at hcl h6;generalize tx (s.drop i.toNat)=z1 at hch h7;generalize tx (AM 97)=zz at h2 ⊢;generalize tx s=sx at hcl hch ⊢;simp! [h2,h4,h5,h6,h7,hcl,hch]
 have hmm:(Aq 0 6).map (λq=>match q with| .int j=>Iv.P.str (tx (Lb s i.toNat c j.toNat))|q=>q)=A9 ((List.range 6).map (Lb s i.toNat c)):=by
  show _=((List.range 6).map (Lb s i.toNat c)).map _;unfold Aq;rw[map_map,map_map]
  exact map_congr_left λj _=>by
   show Iv.P.str (tx (Lb s i.toNat c (0+(j:Int)).toNat))=_;rw[show(0+(j:Int)).toNat=j by lia];rfl
 rw[hmm]at hcomp;generalize A9 ((List.range 6).map (Lb s i.toNat c))=res at hcomp ⊢
 have e:k<<<mP>>>[sP (.int c),none,none,none,none]= .ok (.ret (.lst res)) [sP (.int c),‹AM 97›,‹s›,y3,sP (.int i)]:=by
  rw[cm];have hz:(dq:Str)=tx (AM 97):=by done
  rw[hz];generalize tx (AM 97)=zz at hfor hcomp ⊢;generalize tx s=sx at hfor hcomp hlen ⊢;generalize s.length=m1 at hlen hmd;simp! [↓hfor,hlen,hf64,hmd,↓hcomp]
 exact Af mf rfl rfl e (by done)
noncomputable def dP:List S:=[.asg (.nm 4) (.A0 .add [.A3 4,.A0 .idx [.A3 1,.A0 .mod [.A0 .fdiv [.A3 0,.A0 .add [{14},.A0 .mul [{5},.A3 3]]],{26}]]])]
theorem Tn:jR=[.asg (.nm 1) (.An (.str dq)),.asg (.nm 2) (.An (.str kh)),.ifs (.A0 .eq [.A0 .mod [.A3 0,{2}],{0}]) [.ret (some (.comp (.nm 1) .Co [{6}] [] (.A0 .idx [.A3 3,.A0 .mod [.A0 .add [.A0 .fdiv [.A3 2,{2}],.A3 1],{26}]]) [none,none,some 0,some 2]))] [],.asg (.nm 4) #[],.C3 (.nm 3) .Co [.A0 .mod [.A0 .fdiv [.A3 0,{2}],{7}]] dP,.asg (.nm 5) (.A0 .mod [.A0 .fdiv [.A3 0,{64}],.A0 .add [.A0 .len [.A3 4],{1}]]),.asg (.nm 6) (.A0 .add [.A0 .idx [.A3 2,.A0 .mod [.A0 .fdiv [.A3 0,{3}],{26}]],.A0 (.Cm false true) [.A3 4,.A3 5]]),.ret (some (.comp (.nm 1) .Co [{6}] [] (.A0 .add [.A0 .add [.A3 4,.A0 .idx [.A3 5,.A0 .mod [.A0 .add [.A0 .fdiv [.A3 3,{512}],.A3 1],{26}]]],.A0 (.Cm true false) [.A3 6,.A3 2]]) [none,none,some 5,some 0,some 6,some 1,some 4]))]:=rfl
theorem Wl{s:List Nat}{y5 y6:Option C}(h0:0<=j)(h1:j<1000)(hs:s.length<=100):execs cf mt Ai dP [sP (.int c),‹AM 97›,sP (.str g),sP (.int j),‹s›,y5,y6]= .ok .nx [sP (.int c),‹AM 97›,sP (.str g),sP (.int j),‹s++[97+(c/(14+5*j)%26).toNat]›,y5,y6]:=by
 have hl:=EG (c/(14+5*j));have h2:=El (b:=97) hl.1 hl.2;have h3:=gf (a:=5) (j:=j) (by decide);have h4:=fd (i:=c) (j:=14+5*j) (by lia) (by lia);have h5:=md (i:=c/(14+5*j)) (show(0:Int)<26 by decide);have h6:=B4 (a:=s) (b:=[97+(c/(14+5*j)%26).toNat]) (by unfold big;simp;lia);generalize s++[97+(c/(14+5*j)%26).toNat]=s' at h6 ⊢;generalize tx [97+(c/(14+5*j)%26).toNat]=u at h2 h6;generalize tx (AM 97)=z at h2 ⊢;unfold dP;simp! [h2,h3,h4,h5,h6]
theorem gp{F:Nat->List Nat}:(Aq 0 6).map (λq=>match q with| .int j=>Iv.P.str (tx (F j.toNat))|q=>q)=A9 ((List.range 6).map F):=by
 show _=((List.range 6).map F).map _;unfold Aq;rw[map_map,map_map]
 exact map_congr_left λj _=>by
  show Iv.P.str (tx (F (0+(j:Int)).toNat))=_;rw[show(0+(j:Int)).toNat=j by lia];rfl
theorem PM :∃fs,fs.length=6/\(∀l∈fs,F5 l=true)/\~~~(k+1) 20 [.p (.int c)]= .ok (.lst (A9 fs)) [sP (.int c)]:=by
 have hz:(dq:Str)=tx (AM 97):=by done
 have hZ:(kh:Str)=tx (AM 65):=by done
 have hm2:=md (i:=c) (show(0:Int)<2 by decide);have hf2:=fd (i:=c) (show(0:Int)<2 by decide) (by decide)
 by_cases h2:c%2=0
 .refine#[(List.range 6).map λ(j:Nat)=>[65+((c/2+(j:Int))%26).toNat],by simp,λl hl=>?_,?_]
  .obtain⟨j,_,rfl⟩:=mem_map.mp hl;show(decide (([]:List Nat).length<=7)&&Cr _&&true)=true;rw[Yz];rfl
  .have hcomp:k|||(.comp (.nm 1) .Co [{6}] [] (.A0 .idx [.A3 3,.A0 .mod [.A0 .add [.A0 .fdiv [.A3 2,{2}],.A3 1],{26}]]) [none,none,some 0,some 2])&&&[sP (.int c),‹AM 97›,‹AM 65›,none,none,none,none]= .ok (.lst ((Aq 0 6).map λq=>match q with| .int j=>.str (tx ((λj:Nat=>[65+((c/2+(j:Int))%26).toNat]) j.toNat))|q=>q)) [sP (.int c),‹AM 97›,‹AM 65›,none,none,none,none]:=by
    refine E7 (h:=.AN (.p (.int 6))) (c:=.p (.int 6)) (xs:=Aq 0 6) (r:=[sP (.int c),‹AM 65›]) rfl rfl rfl rfl rfl rfl (by rw[AA];unfold big;lia) rfl rfl (λ_=>rfl) λq hq=>?_
    unfold Aq at hq;obtain⟨j,hj,rfl⟩:=mem_map.mp hq;rw[show(0:Int)+(j:Int)=(j:Int)by lia];have hl:=EG (c/2+(j:Int));have g2:=El (b:=65) hl.1 hl.2;have h5:=md (i:=c/2+(j:Int)) (show(0:Int)<26 by decide);show _=Res.ok (C.p (.str (tx [65+((c/2+(j:Int))%26).toNat]))) _;generalize tx [65+((c/2+(j:Int))%26).toNat]=u at g2 ⊢;generalize tx (AM 65)=zz at g2 ⊢;simp! [g2,hf2,h5]
   rw[gp (F:=λj:Nat=>[65+((c/2+(j:Int))%26).toNat])]at hcomp;generalize A9 ((List.range 6).map λj:Nat=>[65+((c/2+(j:Int))%26).toNat])=res at hcomp ⊢
   suffices e:k<<<jR>>>[sP (.int c),none,none,none,none,none,none]= .ok (.ret (.lst res)) [sP (.int c),‹AM 97›,‹AM 65›,none,none,none,none]from Af jJ rfl rfl e (by done)
   have h0:DM (.int (c%2)) (.int 0)=some true:=by rw[Av];exact congrArg some (dZ h2)
   rw[Tn,hz,hZ];generalize tx (AM 97)=zz at hcomp ⊢;generalize tx (AM 65)=zZ at hcomp ⊢;simp! [hm2,h0,↓hcomp]
 .have h7:0<=c/2%7/\c/2%7<7:=#[Int.emod_nonneg _ (by decide),Int.emod_lt_of_pos _ (by decide)];obtain⟨s,y3,hsl,hlow,hloop⟩:=ID (n:=c/2%7) (B:=execs (~~~k) mt Ai dP) (E:=λs y=>[sP (.int c),‹AM 97›,‹AM 65›,y,‹s›,none,none]) (by lia) (λ_ _ _=>rfl) (λj s h0 h1 hs=>#[_,O1 _,Wl h0 (by lia) hs]) (by lia);have hi:0<=c/64%((s.length:Int)+1)/\c/64%((s.length:Int)+1)<(s.length:Int)+1:=#[Int.emod_nonneg _ (by lia),Int.emod_lt_of_pos _ (by lia)];have hm7:=md (i:=c/2) (show(0:Int)<7 by decide)
  have hfor:exec (~~~k) mt Ai (.C3 (.nm 3) .Co [.A0 .mod [.A0 .fdiv [.A3 0,{2}],{7}]] dP) [sP (.int c),‹AM 97›,‹AM 65›,none,‹[]›,none,none]= .ok .nx [sP (.int c),‹AM 97›,‹AM 65›,y3,‹s›,none,none]:=
   (Mi (n:=c/2%7) (by
    generalize tx (AM 97)=zz;generalize tx (AM 65)=zZ
    simp! [hf2,hm7]) (by lia)).trans hloop
  have hlen:=CN (l:=s) (by unfold big;lia);have hf64:=fd (i:=c) (show(0:Int)<64 by decide) (by decide);have hf3:=fd (i:=c) (show(0:Int)<3 by decide) (by decide);have hm3:=md (i:=c/3) (show(0:Int)<26 by decide);have hmd:=md (i:=c/64) (show(0:Int)<(s.length:Int)+1 by lia);have hcl:=Yv hi.1 (by lia) (show s.length<=1000 by lia);have hch:=Yw hi.1 (by lia) (show s.length<=1000 by lia);have hl3:=EG (c/3);have g3:=El (b:=65) hl3.1 hl3.2;have hca:=Yz (c/3);generalize 65+(c/3%26).toNat=ca at g3 hca;generalize hI:c/64%((s.length:Int)+1)=i at hi hmd hcl hch;have hfi:=B4 (a:=[ca]) (b:=s.take i.toNat) (by unfold big;simp;lia);refine#[(List.range 6).map λ(j:Nat)=>[ca]++s.take i.toNat++[97+((c/512+(j:Int))%26).toNat]++s.drop i.toNat,by simp,λl hl=>?_,?_]
  .obtain⟨j,_,rfl⟩:=mem_map.mp hl;have e9:[ca]++s.take i.toNat++[97+((c/512+(j:Int))%26).toNat]++s.drop i.toNat=ca::(s.take i.toNat++([97+((c/512+(j:Int))%26).toNat]++s.drop i.toNat)):=by simp
   rw[e9];show(decide (_<=7)&&Cr ca&&List.all _ low)=true;rw[hca,bA,bA];refine#[#[dZ (by simp;lia),rfl],all_eq_true.mpr λx hx=>?_];rcases mZ hx with z|z
   .exact hlow x (List.mem_of_mem_take z)
   .rcases mZ z with z|z
    .rw[mE z];exact O1 _
    .exact hlow x (mem_of_mem_drop z)
  .have hcomp:k|||(.comp (.nm 1) .Co [{6}] [] (.A0 .add [.A0 .add [.A3 4,.A0 .idx [.A3 5,.A0 .mod [.A0 .add [.A0 .fdiv [.A3 3,{512}],.A3 1],{26}]]],.A0 (.Cm true false) [.A3 6,.A3 2]]) [none,none,some 5,some 0,some 6,some 1,some 4])&&&[sP (.int c),‹AM 97›,‹AM 65›,y3,‹s›,sP (.int i),‹[ca]++s.take i.toNat›]= .ok (.lst ((Aq 0 6).map λq=>match q with| .int j=>.str (tx ((λj:Nat=>[ca]++s.take i.toNat++[97+((c/512+(j:Int))%26).toNat]++s.drop i.toNat) j.toNat))|q=>q)) [sP (.int c),‹AM 97›,‹AM 65›,y3,‹s›,sP (.int i),‹[ca]++s.take i.toNat›]:=by
    refine E7 (h:=.AN (.p (.int 6))) (c:=.p (.int 6)) (xs:=Aq 0 6) (r:=[sP (.int i),sP (.int c),‹[ca]++s.take i.toNat›,‹AM 97›,‹s›]) rfl rfl rfl rfl rfl rfl (by rw[AA];unfold big;lia) rfl rfl (λ_=>rfl) λq hq=>?_
    unfold Aq at hq;obtain⟨j,hj,rfl⟩:=mem_map.mp hq;rw[show(0:Int)+(j:Int)=(j:Int)by lia];have hl:=EG (c/512+(j:Int));have g2:=El (b:=97) hl.1 hl.2;have h4:=fd (i:=c) (show(0:Int)<512 by decide) (by decide);have h5:=md (i:=c/512+(j:Int)) (show(0:Int)<26 by decide);have h6:=B4 (a:=[ca]++s.take i.toNat) (b:=[97+((c/512+(j:Int))%26).toNat]) (by unfold big;simp;lia);have h7:=B4 (a:=[ca]++s.take i.toNat++[97+((c/512+(j:Int))%26).toNat]) (b:=s.drop i.toNat) (by unfold big;simp;lia);show _=Res.ok (C.p (.str (tx ([ca]++s.take i.toNat++[97+((c/512+(j:Int))%26).toNat]++s.drop i.toNat)))) _;generalize [ca]++s.take i.toNat++[97+((c/512+(j:Int))%26).toNat]++s.drop i.toNat=z3 at h7 ⊢;generalize tx ([ca]++s.take i.toNat++[97+((c/512+(j:Int))%26).toNat])=z2 at h6 h7;generalize tx [97+((c/512+(j:Int))%26).toNat]=u at g2 h6;generalize tx ([ca]++s.take i.toNat)=z0 at h6 ⊢;generalize tx (s.drop i.toNat)=z1 at hch h7;generalize tx (AM 97)=zz at g2 ⊢;generalize tx s=sx at hch ⊢;simp! [g2,h4,h5,h6,h7,hch]
   rw[gp (F:=λj:Nat=>[ca]++s.take i.toNat++[97+((c/512+(j:Int))%26).toNat]++s.drop i.toNat)]at hcomp;generalize A9 ((List.range 6).map λj:Nat=>[ca]++s.take i.toNat++[97+((c/512+(j:Int))%26).toNat]++s.drop i.toNat)=res at hcomp ⊢;generalize tx ([ca]++s.take i.toNat)=z0 at hfi hcomp
   suffices e:k<<<jR>>>[sP (.int c),none,none,none,none,none,none]= .ok (.ret (.lst res)) [sP (.int c),‹AM 97›,‹AM 65›,y3,‹s›,sP (.int i),sP (.str z0)]from Af jJ rfl rfl e (by done)
   have h0:DM (.int (c%2)) (.int 0)=some false:=by rw[Av];exact congrArg some (dF h2)
   rw[Tn,hz,hZ];generalize tx (AM 97)=zz at hfor hcomp ⊢;generalize tx (AM 65)=zZ at hfor hcomp g3 ⊢;generalize tx (s.take i.toNat)=zt at hcl hfi;generalize tx [ca]=zc at g3 hfi;generalize tx s=sx at hfor hcomp hlen hcl hch ⊢;generalize s.length=m1 at hlen hmd;simp! [hm2,h0,↓hfor,hlen,hf64,hmd,hf3,hm3,g3,hcl,hfi,↓hcomp]
end Lk52
namespace Iv
open PySem
variable{cf:CF}{mt:MT}
theorem Ji{gs:List (Nat×C)}{cond:Env->Res Bool}{elt:Env->Res C}{J:List P->Env->Prop}(hg:∀ys β,J ys β->holds gs β=true):∀(xs acc:List P) (β:Env),(∀x∈xs,∀ys β,J ys β->∃β1 y β',Ew g x β=some β1/\cond β1= .ok true β1/\elt β1= .ok (.p y) β'/\J (ys++[y]) β')->J acc β->∃ys β',J ys β'/\ys.length=acc.length+xs.length/\Cw g gs cond elt xs acc β= .ok ys β'
 | [],acc,β,_,h=>⟨acc,β,h,by simp,by
   show(if holds gs β then _ else _)=_
   rw[hg _ β h];rfl⟩
 | x::xs,acc,β,hs,h=>by
   obtain⟨β1,y,β',e1,e2,e3,h'⟩:=hs x mS acc β h;obtain⟨ys,β2,q1,q2,q4⟩:=Ji hg xs (acc++[y]) β' (λz hz=>hs z (mC hz)) h';refine#[ys,β2,q1,by rw[q2,lA,lS,lC];lia,?_]
   conv=>lhs;unfold Cw
   rw[iP (hg _ β h),e1,Res.NR,Res.A5,e2,Res.A5,iP rfl,e3,Res.A5];exact q4
theorem SS{xs:List P}{i:Int}(h:0<=i):CI (.b (.lst xs)) (some i) none=some (.lst (xs.drop i.toNat)):=by
 show some (C.lst (cut xs (some i) none))=_;unfold cut N8;dsimp only;rw[iN (by lia)]
 by_cases hl:i.toNat<=xs.length
 .rw[Nat.min_eq_left hl,take_of_length_le (by rw[length_drop];exact lR)]
 .rw[Nat.min_eq_right (by lia),List.drop_of_length_le (l:=xs) (i:=xs.length) (lR),List.drop_of_length_le (l:=xs) (i:=i.toNat) (by lia),List.take_nil]
theorem SR{xs:List P}{i:Int}(h:0<=i):CI (.b (.lst xs)) none (some i)=some (.lst (xs.take i.toNat)):=by
 show some (C.lst (cut xs none (some i)))=_;unfold cut N8;dsimp only;rw[iN (by lia),List.drop_zero,Nat.sub_zero]
 by_cases hl:i.toNat<=xs.length
 .rw[Nat.min_eq_left hl]
 .rw[Nat.min_eq_right (by lia),take_of_length_le (lR),take_of_length_le (by lia)]
theorem bF{f:Nat}{r:Env}(e:cf f [.lst l]= .ok z [sL l']):ev cf mt (.call f [.A3 0]) (some (.lst l)::r)= .ok z (some (.lst l')::r):=by
 rw[Bs];show AK cf f [.A4 0] (some (.lst l)::r)=_;unfold AK;rw[show Ag (some (.lst l)::r) [.A4 0]=some [.lst l]from rfl];dsimp only;rw[iP #[by show([0]:List Nat).Nodup;decide,rfl],e];rfl
theorem bE{f:Nat}{r:Env}(ht:ev cf mt t (some (.lst l)::some (.lst n)::some (.lst m)::some (.p d)::r)= .ok (.p e) (some (.lst l)::some (.lst n)::some (.lst m)::some (.p d)::r))(hh:BP t (ev cf mt t) (some (.lst l)::some (.lst n)::some (.lst m)::some (.p d)::r)=jH (ev cf mt t (some (.lst l)::some (.lst n)::some (.lst m)::some (.p d)::r)))(he:cf f [.lst l,.lst n,.lst m,.p e]= .ok z [sL l',sL n,sL m,sP e]):
 ev cf mt (.call f [.A3 0,.A3 1,.A3 2,t]) (some (.lst l)::some (.lst n)::some (.lst m)::some (.p d)::r)= .ok z (some (.lst l')::some (.lst n)::some (.lst m)::some (.p d)::r):=by
 rw[Bs]
 have ha:Ae cf mt [.A3 0,.A3 1,.A3 2,t] (some (.lst l)::some (.lst n)::some (.lst m)::some (.p d)::r)= .ok [.A4 0,.A4 1,.A4 2,.AN (.p e)] (some (.lst l)::some (.lst n)::some (.lst m)::some (.p d)::r):=by
  rw[Bb,He,dz,Hc,Kw,Bb,He,dy,Hc,Kw,Bb,He,nM,Hc,Kw,Bb,hh,ht];rfl
 rw[ha];show AK cf f [.A4 0,.A4 1,.A4 2,.AN (.p e)] (some (.lst l)::some (.lst n)::some (.lst m)::some (.p d)::r)=_;unfold AK;rw[show Ag (some (.lst l)::some (.lst n)::some (.lst m)::some (.p d)::r) [.A4 0,.A4 1,.A4 2,.AN (.p e)]=some [.lst l,.lst n,.lst m,.p e]from rfl];dsimp only;rw[iP #[by show([0,1,2]:List Nat).Nodup;decide,rfl],he];rfl
end Iv
namespace Lk52
open Iv PySem
variable{k:Nat}
noncomputable def dO:List S:=[.asg (.nm 11) (.A0 (.Cm false true) [.A0 (.Cm true false) [.A3 1,.A0 .mod [.A0 .fdiv [.A3 4,{24}],{4}]],.A0 .mod [.A0 .add [.A0 .fdiv [.A3 4,{96}],.A3 7],{4}]]),.expr (.Ey .append (.A3 10) [.tup [.A0 .idx [.A3 2,.A0 .mod [.A0 .add [.A0 .fdiv [.A3 4,{400}],.A3 7],{6}]],.A0 (.tuple .op) [.A3 11],.call 23 [.A3 0,.A3 1,.A3 2,.A0 .sub [.A3 3,{1}]]]])]
theorem Kp:dG=[.asg (.nm 4) (.call 21 [.A3 0]),.asg (.nm 5) (.A0 .mod [.A3 4,{6}]),.ifs (.or (.A0 .eq [.A3 3,{0}]) (.A0 .lt [.A3 5,{2}])) [.ret (some (.A0 .idx [.lst [.tup [.An (.str BF),.call 22 [.A0 .fdiv [.A3 4,{6}]]],.tup [.An (.str BA),.A0 .idx [.A3 1,.A0 .mod [.A0 .fdiv [.A3 4,{6}],{6}]]]],.A0 .mod [.A0 .fdiv [.A3 4,{36}],{2}]]))] [],.ifs (.A0 .lt [.A3 5,{5}]) [.asg (.nm 6) (.A0 .idx [.lst [.A0 .mod [.A0 .fdiv [.A3 4,{6}],{4}],{3},{1},{0}],.A0 .mod [.A0 .fdiv [.A3 4,{24}],{4}]]),.asg (.nm 8) (.A0 (.tuple .op) [.comp (.nm 1) .Co [.A3 6] [] (.call 23 [.A3 2,.A3 5,.A3 4,.A0 .sub [.A3 3,{1}]]) [none,none,some 0,some 3,some 2,some 1]]),.ifs (.A0 .eq [.A0 .mod [.A3 5,{2}],{0}]) [.ret (some (.tup [.An (.str Bm),.A0 .idx [.A3 2,.A0 .mod [.A0 .fdiv [.A3 4,{100}],{6}]],.A3 8]))] [],.ret (some (.tup [.An (.str BG),.A0 .idx [.A3 1,.A0 .mod [.A0 .fdiv [.A3 4,{100}],{6}]],.A3 8]))] [],.asg (.nm 9) (.call 23 [.A3 0,.A3 1,.A3 2,.A0 .sub [.A3 3,{1}]]),.asg (.nm 10) (.lst []),.C3 (.nm 7) .Co [.A0 .add [{1},.A0 .mod [.A0 .fdiv [.A3 4,{6}],{4}]]] dO,.ret (some (.tup [.An (.str Aj),.A3 9,.A0 (.tuple .op) [.A3 10]]))]:=rfl
structure YJ(ns fs:List (List Nat)):Prop where
 n6:ns.length=6
 nm:∀l∈ns,DU l=true
 nd:ns.Nodup
 f6:fs.length=6
 fm:∀l∈fs,F5 l=true
theorem ag{s:List Nat}{i:Nat}(hs:s.length<=7)(hl:∀ch∈s,low ch=true)(hi:i<=s.length):(∀l∈(List.range 6).map (Lb s i c),DU l=true)/\((List.range 6).map (Lb s i c)).Nodup:=by
 refine#[λl hm=>?_,?_]
 .obtain⟨j,_,rfl⟩:=mem_map.mp hm;unfold DU;rw[bA,bA];refine#[#[dZ (by unfold Lb;simp;lia),dZ (by unfold Lb;simp;lia)],all_eq_true.mpr λx hx=>?_];unfold Lb at hx;rcases mZ hx with z|z
  .rcases mZ z with z|z
   .exact hl x (List.mem_of_mem_take z)
   .rw[mE z];exact O1 _
  .exact hl x (mem_of_mem_drop z)
 .refine pairwise_map.mpr ?_;refine List.Pairwise.imp_of_mem (λ{a b} ha hb hab z=>?_) (List.nodup_range (n:=6));have ha:=mem_range.mp ha;have hb:=mem_range.mp hb;unfold Lb at z;rw[append_assoc,append_assoc]at z;have z:=List.append_cancel_left z;rw[cons_append,cons_append]at z;injection z with z _
  have h1:=EG (c/512+(a:Int));have h2:=EG (c/512+(b:Int));exact hab (by lia)
def LZ(k d:Nat)(ns fs:List (List Nat)):Prop:=∀cells:List Int,(∀i∈cells,0<=i)->cells.length<=7->∃p cells',Ex (d+1) p/\(∀i∈cells',0<=i)/\cells'.length<=cells.length/\sz (d+1) p+5*cells'.length<=1+5*cells.length/\
 ~~~k 23 [CH cells,.lst (A9 ns),.lst (A9 fs),.p (.int d)]= .ok (.p p) [some (CH cells'),sL (A9 ns),sL (A9 fs),Ci d]
theorem Nq{ls:List (List Nat)}{i:Int}(h0:0<=i)(h1:i<ls.length):∃l∈ls,CP (.b (.lst (A9 ls))) (.b (.p (.int i)))=some (.p (.str (tx l))):=by
 obtain⟨j,rfl⟩:=Int.eq_ofNat_of_zero_le h0;have hj:j<ls.length:=by lia
 exact#[ls[j],getElem_mem hj,DG (l:=A9 ls) (k:=j) (by rw[List.getElem?_map,List.getElem?_eq_getElem hj];rfl)]
theorem m6(c:Int):0<=c%6/\c%6<6:=#[Int.emod_nonneg _ (by decide),Int.emod_lt_of_pos _ (by decide)]
theorem m4(c:Int):0<=c%4/\c%4<4:=#[Int.emod_nonneg _ (by decide),Int.emod_lt_of_pos _ (by decide)]
theorem VW{ns fs:List (List Nat)}{cell:Int}(S6:YJ ns fs)(h0:0<=cell):∃p,(∀n,Ex (n+1) p/\sz (n+1) p=1)/\(k+1)|||(.A0 .idx [.lst [.tup [.An (.str BF),.call 22 [.A0 .fdiv [.A3 4,{6}]]],.tup [.An (.str BA),.A0 .idx [.A3 1,.A0 .mod [.A0 .fdiv [.A3 4,{6}],{6}]]]],.A0 .mod [.A0 .fdiv [.A3 4,{36}],{2}]])&&&[sL l,sL (A9 ns),sL (A9 fs),Ci d,Ci cell,Ci (cell%6),none,none,none,none,none,none]= .ok (.p p) [sL l,sL (A9 ns),sL (A9 fs),Ci d,Ci cell,Ci (cell%6),none,none,none,none,none,none]:=by
 obtain⟨i,hi,hn⟩:=Iq (c:=cell/6) (Int.ediv_nonneg h0 (by decide));have hm:=m6 (cell/6);obtain⟨x,hx,hxi⟩:=Nq (ls:=ns) hm.1 (by rw[S6.n6];exact hm.2);have hf6:=fd (i:=cell) (show(0:Int)<6 by decide) (by decide);have hf36:=fd (i:=cell) (show(0:Int)<36 by decide) (by decide);have hm6:=md (i:=cell/6) (show(0:Int)<6 by decide);have hm2:=md (i:=cell/36) (show(0:Int)<2 by decide);have h2:0<=cell/36%2/\cell/36%2<2:=#[Int.emod_nonneg _ (by decide),Int.emod_lt_of_pos _ (by decide)];generalize A9 ns=N at hxi ⊢;generalize A9 fs=F;have hc:(k+1)|||(.call 22 [.A0 .fdiv [.A3 4,{6}]])&&&[sL l,sL N,sL F,Ci d,Ci cell,Ci (cell%6),none,none,none,none,none,none]= .ok (.p (.int i)) [sL l,sL N,sL F,Ci d,Ci cell,Ci (cell%6),none,none,none,none,none,none]:=DL (by simp! [hf6]) (hn k);have hsel:cell/36%2=0\/cell/36%2=1:=by lia
 rcases hsel with z|z
 .refine#[.tup [.str BF,.int i],λn=>#[.num i hi,rfl],?_];have hi0:CP (.b (.lst [.tup [.str BF,.int i],.tup [.str BA,.str (tx x)]])) (.b (.p (.int 0)))=some (.p (.tup [.str BF,.int i])):=DG (k:=0) rfl;rw[z]at hm2;generalize tx x=xx at hxi hi0;simp! [hf6,hf36,hm6,hm2,hxi,↓hc,hi0]
 .refine#[.tup [.str BA,.str (tx x)],λn=>#[.Pm x (S6.nm x hx),rfl],?_];have hi0:CP (.b (.lst [.tup [.str BF,.int i],.tup [.str BA,.str (tx x)]])) (.b (.p (.int 1)))=some (.p (.tup [.str BA,.str (tx x)])):=DG (k:=1) rfl;rw[z]at hm2;generalize tx x=xx at hxi hi0 ⊢;simp! [hf6,hf36,hm6,hm2,hxi,↓hc,hi0]
end Lk52
namespace Iv
open PySem
variable{cf:CF}{mt:MT}
theorem Ia{kd:IK}{t elt:T}{h:Hd}{c:C}{xs:List P}{fr:List (Option Nat)}{J:List P->Env->Prop}(hk:kd.ok=true)(ha:Ae cf mt [t] U= .ok [h] U)(hc:h.cont U=some c)(hgf:AD [h] [c]=true)(hgu:Bh [h] [c]=[])(hs:B5 kd [c]=some xs)(hl:xs.length<=big)(Ao:FQ (.nm 1) fr=true)(h0:J [] (BL fr U))
 (turn:∀x∈xs,∀ys β,J ys β->∃β1 y β',Ew (.nm 1) x β=some β1/\ev cf mt elt β1= .ok (.p y) β'/\J (ys++[y]) β'):
 ∃ys β,J ys β/\ys.length=xs.length/\ev cf mt (.comp (.nm 1) kd [t] [] elt fr) U= .ok (.lst ys) (AQ (D1 fr U) fr β):=by
 obtain⟨ys,β,q1,q2,q3⟩:=Ji (g:=.nm 1) (gs:=[]) (cond:=HZ cf mt []) (elt:=ev cf mt elt) (J:=J) (λ_ _ _=>rfl) xs [] (BL fr U) (λx hx ys β hJ=>by
  obtain⟨β1,y,β',e1,e2,e3⟩:=turn x hx ys β hJ
  exact#[β1,y,β',e1,HY β1,e2,e3]) h0
 refine#[ys,β,q1,by rw[q2];simp,?_];rw[Kb];show(if kd.ok=true then(Ae cf mt [t] U).bind _ else _)=_;rw[iP hk,ha,Res.A5];have hco:Ag U [h]=some [c]:=by show((h.cont U).bind λc=>_)=_;rw[hc];rfl
 unfold Jj;rw[hco];dsimp only;rw[hs];dsimp only;have hbg:BU fr [h] [c]=[]:=by unfold BU;rw[hgu];rfl
 rw[hgf,Ao,dZ hl,hbg,q3];rfl
variable{a0 a1 a2 a3 a4 a5 a6 a7 a8 a9:Option C}
theorem Su{r:Env}:A8 (a0::a1::a2::a3::a4::a5::a6::a7::a8::a9::some c::r) 10=some c:=rfl
theorem gL{a10:Option C}{r:Env}:A8 (a0::a1::a2::a3::a4::a5::a6::a7::a8::a9::a10::some c::r) 11=some c:=rfl
end Iv
namespace Lk52
open Iv PySem
variable{k:Nat}
abbrev Z1(i:Nat):T:=.A0 .sub [.A3 i,{1}]
variable{cf:CF}
theorem Tf{f:Nat}(he:cf f [.lst l,.lst n,.lst m,.p (.int d)]= .ok z [sL l',sL n,sL m,Ci d]):
 ev cf mt (.call f [.A3 2,.A3 5,.A3 4,Z1 3]) [none,sP x,sL l,Ci (d+1),sL m,sL n]= .ok z [none,sP x,sL l',Ci (d+1),sL m,sL n]:=by
 rw[Bs]
 have ha:Ae cf mt [.A3 2,.A3 5,.A3 4,Z1 3] [none,sP x,sL l,Ci (d+1),sL m,sL n]= .ok [.A4 2,.A4 5,.A4 4,.AN (.p (.int d))] [none,sP x,sL l,Ci (d+1),sL m,sL n]:=by
  simp! []
 rw[ha];show AK cf f [.A4 2,.A4 5,.A4 4,.AN (.p (.int d))] [none,sP x,sL l,Ci (d+1),sL m,sL n]=_;unfold AK;rw[show Ag [none,sP x,sL l,Ci (d+1),sL m,sL n] [.A4 2,.A4 5,.A4 4,.AN (.p (.int d))]=some [.lst l,.lst n,.lst m,.p (.int d)]from rfl];dsimp only;rw[iP #[by show([2,5,4]:List Nat).Nodup;decide,rfl],he];rfl
theorem O7{f:Nat}{r:Iv.Env}(he:cf f [.lst l,.lst n,.lst m,.p (.int d)]= .ok z [sL l',sL n,sL m,Ci d]):
 ev cf mt (.call f [.A3 0,.A3 1,.A3 2,Z1 3]) (some (.lst l)::some (.lst n)::some (.lst m)::Ci (d+1)::r)= .ok z (some (.lst l')::some (.lst n)::some (.lst m)::Ci (d+1)::r):=
 bE (by simp! []) rfl he
theorem QE(f:Iv.P->Nat)(ys:List Iv.P)(y:Iv.P):((ys++[y]).map f).sum=(ys.map f).sum+f y:=by simp
variable{ns:List (List Nat)}{y5:Option C}
theorem TF{fs:List (List Nat)}{d:Nat}{cells:List Int}{many:Int}{y4:Option C}(ih:LZ k d ns fs)(h0:∀i∈cells,0<=i)(hl:cells.length<=7)(hm:0<=many/\many<=3):
 ∃ ys cells',(∀q∈ys,Ex (d+1) q)/\ys.length<=3/\(∀i∈cells',0<=i)/\cells'.length<=cells.length/\(ys.map (sz (d+1))).sum+5*cells'.length<=ys.length+5*cells.length/\
   k|||(.comp (.nm 1) .Co [.A3 6] [] (.call 23 [.A3 2,.A3 5,.A3 4,.A0 .sub [.A3 3,{1}]]) [none,none,some 0,some 3,some 2,some 1])&&&[some (CH cells),sL (A9 ns),sL (A9 fs),Ci (d+1),y4,y5,Ci many,none,none,none,none,none]= .ok (.lst ys) [some (CH cells'),sL (A9 ns),sL (A9 fs),Ci (d+1),y4,y5,Ci many,none,none,none,none,none]:=by
 generalize hU:([some (CH cells),sL (A9 ns),sL (A9 fs),Ci (d+1),y4,y5,Ci many,none,none,none,none,none]:Iv.Env)=U
 obtain⟨ys,β,⟨c',y,q1,q2,q3,q4,rfl⟩,hlen,e⟩:=Ia (cf:= ~~~k) (mt:=mt) (kd:=.Co) (t:=.A3 6) (elt:=.call 23 [.A3 2,.A3 5,.A3 4,.A0 .sub [.A3 3,{1}]]) (h:=.A4 6) (c:=.p (.int many)) (xs:=Aq 0 many) (U:=U) (fr:=[none,none,some 0,some 3,some 2,some 1])
  (J:=λys β=>∃c' y,(∀q∈ys,Ex (d+1) q)/\(∀i∈c',(0:Int)<=i)/\c'.length<=cells.length/\(ys.map (sz (d+1))).sum+5*c'.length<=ys.length+5*cells.length/\β=[none,y,some (CH c'),Ci (d+1),sL (A9 fs),sL (A9 ns)])
  rfl (by subst hU;rfl) (by subst hU;rfl) rfl rfl (by show(if many.natAbs<2^61 then _ else _)=_;rw[iP (by lia)]) (by rw[AA];unfold big;lia) rfl (by
   subst hU;exact#[cells,none,λq hq=>(by cases hq),h0,lR,by simp,rfl]) (by
   intro x hx ys β hJ;obtain⟨c',y,q1,q2,q3,q4,rfl⟩:=hJ;obtain⟨p,c2,r1,r2,r3,r4,r5⟩:=ih c' q2 (by lia);refine#[_,p,_,rfl,Tf r5,c2,_,?_,r2,by lia,?_,rfl]
   .intro q hq;rcases mZ hq with z|z
    .exact q1 q z
    .rw[mE z];exact r1
   .rw[QE,lA,lS];lia)
 refine#[ys,c',q1,by rw[hlen,AA];lia,q2,q3,q4,?_];rw[e,<-hU];rfl
noncomputable abbrev XJ:T:=.or (.A0 .eq [.A3 3,{0}]) (.A0 .lt [.A3 5,{2}])
variable{cell way:Int}
theorem l0{d:Int}(h:d=0\/way<2):tv cf mt XJ [sL l,sL n,sL m,Ci d,Ci cell,Ci way,none,none,none,none,none,none]= .ok true [sL l,sL n,sL m,Ci d,Ci cell,Ci way,none,none,none,none,none,none]:=by
 by_cases hd:d=0
 .have h1:DM (.int d) (.int 0)=some true:=by rw[Av];exact congrArg some (dZ hd)
  simp! [h1]
 .have h1:DM (.int d) (.int 0)=some false:=by rw[Av];exact congrArg some (dF hd)
  have h2:way<2:=h.resolve_left hd;simp! [h1,h2]
theorem fN{d:Int}(hd:d≠0)(h2:¬way<2):tv cf mt XJ [sL l,sL n,sL m,Ci d,Ci cell,Ci way,none,none,none,none,none,none]= .ok false [sL l,sL n,sL m,Ci d,Ci cell,Ci way,none,none,none,none,none,none]:=by
 have h1:DM (.int d) (.int 0)=some false:=by rw[Av];exact congrArg some (dF hd)
 simp! [h1,h2]
theorem LP{fs:List (List Nat)}{d:Int}(S6:YJ ns fs)(h0:0<=cell)(hn: ~~~(k+1) 21 [CH l]= .ok (.p (.int cell)) [some (CH l')])(h:d=0\/cell%6<2):
 ∃p,(∀n,Ex (n+1) p/\sz (n+1) p=1)/\~~~(k+2) 23 [CH l,.lst (A9 ns),.lst (A9 fs),.p (.int d)]= .ok (.p p) [some (CH l'),sL (A9 ns),sL (A9 fs),Ci d]:=by
 obtain⟨p,hp,hv⟩:=VW (k:=k) (d:=d) (l:=l'.map .int) S6 h0;refine#[p,hp,?_];have h25:(k+1)|||(.call 21 [.A3 0])&&&[some (CH l),sL (A9 ns),sL (A9 fs),Ci d,none,none,none,none,none,none,none,none]= .ok (.p (.int cell)) [some (CH l'),sL (A9 ns),sL (A9 fs),Ci d,none,none,none,none,none,none,none,none]:=bF hn;have hor:=l0 (cf:= ~~~(k+1)) (l:=l'.map .int) (n:=A9 ns) (m:=A9 fs) (d:=d) (cell:=cell) (way:=cell%6) h;have hm:=md (i:=cell) (show(0:Int)<6 by decide);unfold CH at h25 ⊢;generalize A9 ns=N at h25 hor hv ⊢;generalize A9 fs=F at h25 hor hv ⊢;generalize l.map Iv.P.int=L at h25 ⊢;generalize l'.map Iv.P.int=L' at h25 hor hv ⊢
 have e:(k+1)<<<dG>>>[sL L,sL N,sL F,Ci d,none,none,none,none,none,none,none,none]= .ok (.ret (.p p)) [sL L',sL N,sL F,Ci d,Ci cell,Ci (cell%6),none,none,none,none,none,none]:=by
  rw[Kp];simp! [↓h25,hm,↓hor,↓hv]
 exact Af dB rfl rfl e (by done)
variable{l':List Int}
theorem X9{fs:List (List Nat)}{d:Nat}(S6:YJ ns fs)(ih:LZ (k+1) d ns fs)(h0:0<=cell)(hl:∀i∈l',0<=i)(h7:l'.length<=7)(hn: ~~~(k+1) 21 [CH l]= .ok (.p (.int cell)) [some (CH l')])(h2:¬cell%6<2)(h5:cell%6<5):
 ∃p cells',Ex (d+2) p/\(∀i∈cells',0<=i)/\cells'.length<=l'.length/\sz (d+2) p+5*cells'.length<=4+5*l'.length/\~~~(k+2) 23 [CH l,.lst (A9 ns),.lst (A9 fs),.p (.int ((d:Int)+1))]= .ok (.p p) [some (CH cells'),sL (A9 ns),sL (A9 fs),Ci ((d:Int)+1)]:=by
 obtain⟨many,hmany,hmi⟩:∃many:Int,(0<=many/\many<=3)/\CP (.b (.lst [.int (cell/6%4),.int 3,.int 1,.int 0])) (.b (.p (.int (cell/24%4))))=some (.p (.int many)):=by
  have a1:=m4 (cell/6);have a2:=m4 (cell/24);have:cell/24%4=0\/cell/24%4=1\/cell/24%4=2\/cell/24%4=3:=by lia
  rcases this with z|z|z|z
  .exact#[cell/6%4,by lia,by rw[z];exact DG (k:=0) rfl]
  .exact⟨3,by lia,by rw[z];exact DG (k:=1) rfl⟩
  .exact⟨1,by lia,by rw[z];exact DG (k:=2) rfl⟩
  .exact⟨0,by lia,by rw[z];exact DG (k:=3) rfl⟩
 obtain⟨ys,c',q1,q2,q3,q4,q5,hcmp⟩:=TF (y4:=Ci cell) (y5:=Ci (cell%6)) ih hl h7 hmany;have h25:(k+1)|||(.call 21 [.A3 0])&&&[some (CH l),sL (A9 ns),sL (A9 fs),Ci ((d:Int)+1),none,none,none,none,none,none,none,none]= .ok (.p (.int cell)) [some (CH l'),sL (A9 ns),sL (A9 fs),Ci ((d:Int)+1),none,none,none,none,none,none,none,none]:=bF hn;have hor:=fN (cf:= ~~~(k+1)) (l:=l'.map .int) (n:=A9 ns) (m:=A9 fs) (d:=(d:Int)+1) (cell:=cell) (way:=cell%6) (by lia) h2;have hm:=md (i:=cell) (show(0:Int)<6 by decide);have hf6:=fd (i:=cell) (show(0:Int)<6 by decide) (by decide);have hf24:=fd (i:=cell) (show(0:Int)<24 by decide) (by decide);have hf100:=fd (i:=cell) (show(0:Int)<100 by decide) (by decide);have hm64:=md (i:=cell/6) (show(0:Int)<4 by decide);have hm244:=md (i:=cell/24) (show(0:Int)<4 by decide);have hm1006:=md (i:=cell/100) (show(0:Int)<6 by decide);have hmw:=md (i:=cell%6) (show(0:Int)<2 by decide);have a3:=m6 (cell/100);obtain⟨x,hx,hxi⟩:=Nq (ls:=ns) a3.1 (by rw[S6.n6];exact a3.2);obtain⟨g,hg,hgi⟩:=Nq (ls:=fs) a3.1 (by rw[S6.f6];exact a3.2);have hsz:∀s:Str,sz (d+2) (.tup [.str s,.str (tx x),.tup ys])=1+(ys.map (sz (d+1))).sum:=λs=>rfl
 have hsz':∀s:Str,sz (d+2) (.tup [.str s,.str (tx g),.tup ys])=1+(ys.map (sz (d+1))).sum:=λs=>rfl
 by_cases hw:cell%6%2=0
 .refine#[.tup [.str Bm,.str (tx g),.tup ys],c',.Ga g ys (S6.fm g hg) q2 q1,q3,q4,by rw[hsz'];lia,?_];have he:DM (.int (cell%2)) (.int 0)=some true:=by rw[Av];exact congrArg some (dZ (by lia))
  unfold CH at h25 hcmp ⊢;generalize A9 ns=N at h25 hor hcmp hxi ⊢;generalize A9 fs=F at h25 hor hcmp hgi ⊢;generalize l.map Iv.P.int=L at h25 ⊢;generalize l'.map Iv.P.int=L' at h25 hor hcmp ⊢;generalize c'.map Iv.P.int=L2 at hcmp ⊢;generalize tx g=gg at hgi ⊢
  have e:(k+1)<<<dG>>>[sL L,sL N,sL F,Ci ((d:Int)+1),none,none,none,none,none,none,none,none]= .ok (.ret (.p (.tup [.str Bm,.str gg,.tup ys]))) [sL L2,sL N,sL F,Ci ((d:Int)+1),Ci cell,Ci (cell%6),Ci many,none,sP (.tup ys),none,none,none]:=by
   rw[Kp];simp! [↓h25,hm,↓hor,h5,hf6,hf24,hf100,hm64,hm244,hm1006,hmw,hmi,↓hcmp,he,hgi]
  exact Af dB rfl rfl e (by done)
 .refine#[.tup [.str BG,.str (tx x),.tup ys],c',.call x ys (S6.nm x hx) q2 q1,q3,q4,by rw[hsz];lia,?_];have he:DM (.int (cell%2)) (.int 0)=some false:=by rw[Av];exact congrArg some (dF (by lia))
  unfold CH at h25 hcmp ⊢;generalize A9 ns=N at h25 hor hcmp hxi ⊢;generalize A9 fs=F at h25 hor hcmp hgi ⊢;generalize l.map Iv.P.int=L at h25 ⊢;generalize l'.map Iv.P.int=L' at h25 hor hcmp ⊢;generalize c'.map Iv.P.int=L2 at hcmp ⊢;generalize tx x=gg at hxi ⊢
  have e:(k+1)<<<dG>>>[sL L,sL N,sL F,Ci ((d:Int)+1),none,none,none,none,none,none,none,none]= .ok (.ret (.p (.tup [.str BG,.str gg,.tup ys]))) [sL L2,sL N,sL F,Ci ((d:Int)+1),Ci cell,Ci (cell%6),Ci many,none,sP (.tup ys),none,none,none]:=by
   rw[Kp];simp! [↓h25,hm,↓hor,h5,hf6,hf24,hf100,hm64,hm244,hm1006,hmw,hmi,↓hcmp,he,hxi]
  exact Af dB rfl rfl e (by done)
theorem af{i m:Nat}(h:∀l∈ns,DU l=true)(hd:ns.Nodup)(hm:m<=3):UB ((ns.drop i).take m) where
 len:=by rw[length_take];lia
 nm:=λl hl=>h l (mem_of_mem_drop (List.mem_of_mem_take hl))
 nd:=hd.sublist ((List.take_sublist _ _).trans (List.drop_sublist _ _))
abbrev dk:=List Nat×List (List Nat)×Iv.P
abbrev Ig(a:dk):Iv.P:=Bp a.1 a.2.1 a.2.2
noncomputable abbrev nv:T:=.call 23 [.A3 0,.A3 1,.A3 2,.A0 .sub [.A3 3,{1}]]
theorem Tv{fs:List (List Nat)}{lz:List Iv.P}{as:List dk}{y11:Option C}(S6:YJ ns fs)(hin:∀r,k|||nv&&&(some (.lst l)::some (.lst (A9 ns))::some (.lst (A9 fs))::Ci d::r)= .ok (.p p) (some (.lst lz)::some (.lst (A9 ns))::some (.lst (A9 fs))::Ci d::r))(hb:as.length<1000):
 ∃g ls,F5 g=true/\UB ls/\k<<<dO>>>[sL l,sL (A9 ns),sL (A9 fs),Ci d,Ci cell,y5,none,Ci j,none,sP q0,sL (as.map Ig),y11]= .ok .nx [sL lz,sL (A9 ns),sL (A9 fs),Ci d,Ci cell,y5,none,Ci j,none,sP q0,sL ((as++[(g,ls,p)]).map Ig),sL (A9 ls)]:=by
 have a1:=m4 (cell/24);have a2:=m4 (cell/96+j);have a3:=m6 (cell/400+j);obtain⟨g,hg,hgi⟩:=Nq (ls:=fs) a3.1 (by rw[S6.f6];exact a3.2);refine#[g,(ns.drop (cell/24%4).toNat).take ((cell/96+j)%4).toNat,S6.fm g hg,af S6.nm S6.nd (by lia),?_];have hc1:=SS (xs:=A9 ns) a1.1;have hc2:=SR (xs:=(A9 ns).drop (cell/24%4).toNat) a2.1
 have he:((A9 ns).drop (cell/24%4).toNat).take ((cell/96+j)%4).toNat=A9 ((ns.drop (cell/24%4).toNat).take ((cell/96+j)%4).toNat):=by
  show List.take _ (List.drop _ (ns.map _))=List.map _ _;rw[map_take,map_drop]
 rw[he]at hc2;have hf24:=fd (i:=cell) (show(0:Int)<24 by decide) (by decide);have hf96:=fd (i:=cell) (show(0:Int)<96 by decide) (by decide);have hf400:=fd (i:=cell) (show(0:Int)<400 by decide) (by decide);have hm24:=md (i:=cell/24) (show(0:Int)<4 by decide);have hm96:=md (i:=cell/96+j) (show(0:Int)<4 by decide);have hm400:=md (i:=cell/400+j) (show(0:Int)<6 by decide);rw[map_append,List.map_singleton];show _=Res.ok Fl.nx [_,_,_,_,_,_,_,_,_,_,sL (as.map Ig++[.tup [.str (tx g),.tup (A9 _),p]]),_];have hb':(as.map Ig).length<big:=by rw[lM];unfold big;lia
 generalize as.map Ig=A at hb' ⊢;generalize A9 (List.take ((cell/96+j)%4).toNat (List.drop (cell/24%4).toNat ns))=M at hc2 ⊢;generalize (A9 ns).drop (cell/24%4).toNat=M0 at hc1 hc2;generalize A9 ns=N at hc1 hin ⊢;generalize A9 fs=F at hgi hin ⊢;generalize tx g=gg at hgi ⊢;have hin':=hin [Ci cell,y5,none,Ci j,none,sP q0,sL A,sL M];unfold dO;simp! [hf24,hf96,hf400,hm24,hm96,hm400,hc1,hc2,hgi,↓hin',D3,hb',Su,gL]
theorem TB{fs:List (List Nat)}{d:Nat}(S6:YJ ns fs)(ih:LZ (k+1) d ns fs)(h0:0<=cell)(hl:∀i∈l',0<=i)(h7:l'.length<=7)(hn: ~~~(k+1) 21 [CH l]= .ok (.p (.int cell)) [some (CH l')])(h2:¬cell%6<2)(h5:¬cell%6<5):
 ∃p cells',Ex (d+2) p/\(∀i∈cells',0<=i)/\cells'.length<=l'.length/\sz (d+2) p+5*cells'.length<=6+5*l'.length/\~~~(k+2) 23 [CH l,.lst (A9 ns),.lst (A9 fs),.p (.int ((d:Int)+1))]= .ok (.p p) [some (CH cells'),sL (A9 ns),sL (A9 fs),Ci ((d:Int)+1)]:=by
 obtain⟨q0,c1,hq0,hc1,hc1l,hsz0,hin0⟩:=ih l' hl h7;have h25:(k+1)|||(.call 21 [.A3 0])&&&[some (CH l),sL (A9 ns),sL (A9 fs),Ci ((d:Int)+1),none,none,none,none,none,none,none,none]= .ok (.p (.int cell)) [some (CH l'),sL (A9 ns),sL (A9 fs),Ci ((d:Int)+1),none,none,none,none,none,none,none,none]:=bF hn;have hor:=fN (cf:= ~~~(k+1)) (l:=l'.map .int) (n:=A9 ns) (m:=A9 fs) (d:=(d:Int)+1) (cell:=cell) (way:=cell%6) (by lia) h2;have hin:(k+1)|||nv&&&[some (CH l'),sL (A9 ns),sL (A9 fs),Ci ((d:Int)+1),Ci cell,Ci (cell%6),none,none,none,none,none,none]= .ok (.p q0) [some (CH c1),sL (A9 ns),sL (A9 fs),Ci ((d:Int)+1),Ci cell,Ci (cell%6),none,none,none,none,none,none]:=O7 hin0;have hm:=md (i:=cell) (show(0:Int)<6 by decide);have hf6:=fd (i:=cell) (show(0:Int)<6 by decide) (by decide);have hm64:=md (i:=cell/6) (show(0:Int)<4 by decide);have a1:=m4 (cell/6)
 obtain⟨U',⟨as,c',y7,y11,q1,q2,q3,q4,q5,rfl⟩,hloop⟩:=Dq (g:=.nm 7) (gs:=[]) (b:=execs (~~~(k+1)) mt Ai dO) (all:=Aq 0 (1+cell/6%4))
  (J:=λdn U=>∃(as:List dk) (c':List Int) (y7 y11:Option C),as.length=dn.length/\(∀a∈as,(F5 a.1=true/\UB a.2.1)/\Ex (d+1) a.2.2)/\(∀i∈c',(0:Int)<=i)/\c'.length<=c1.length/\(as.map λa=>sz (d+1) a.2.2).sum+5*c'.length<=as.length+5*c1.length/\U=[some (CH c'),sL (A9 ns),sL (A9 fs),Ci ((d:Int)+1),Ci cell,Ci (cell%6),none,y7,none,sP q0,sL (as.map Ig),y11])
  (λ_ _ _=>rfl) (by
    intro dn x r hall U hJ;obtain⟨as,c',y7,y11,q1,q2,q3,q4,q5,rfl⟩:=hJ;have hx:x∈Aq 0 (1+cell/6%4):=by rw[<-hall];simp
    have hdn:dn.length<=4:=by
     have:=congrArg List.length hall;rw[AA,lA,lC]at this
     lia
    unfold Aq at hx;obtain⟨j,_,rfl⟩:=mem_map.mp hx;obtain⟨p,c2,r1,r2,r3,r4,r5⟩:=ih c' q3 (by lia);obtain⟨g,ls,hg,hls,e⟩:=Tv (k:=k+1) (l:=c'.map .int) (lz:=c2.map .int) (cell:=cell) (j:=0+(j:Int)) (d:=(d:Int)+1) (q0:=q0) (p:=p) (as:=as) (y5:=Ci (cell%6)) (y11:=y11) S6 (λr=>O7 r5) (by lia);refine#[_,_,.nx,rfl,e,.inl rfl,as++[(g,ls,p)],c2,_,_,by simp[q1],?_,r2,by lia,?_,rfl]
    .intro a ha;rcases mZ ha with z|z
     .exact q2 a z
     .rw[mE z];exact#[#[hg,hls],r1]
    .rw[map_append,List.sum_append,lA,List.map_singleton,List.sum_singleton,lS];dsimp only;lia) (Aq 0 (1+cell/6%4)) [] [some (CH c1),sL (A9 ns),sL (A9 fs),Ci ((d:Int)+1),Ci cell,Ci (cell%6),none,none,none,sP q0,sL [],none] rfl #[[],c1,none,none,rfl,λa ha=>(by cases ha),hc1,lR,by simp,rfl]
 have hfor:exec (~~~(k+1)) mt Ai (.C3 (.nm 7) .Co [.A0 .add [{1},.A0 .mod [.A0 .fdiv [.A3 4,{6}],{4}]]] dO) [some (CH c1),sL (A9 ns),sL (A9 fs),Ci ((d:Int)+1),Ci cell,Ci (cell%6),none,none,none,sP q0,sL [],none]= .ok .nx [some (CH c'),sL (A9 ns),sL (A9 fs),Ci ((d:Int)+1),Ci cell,Ci (cell%6),none,y7,none,sP q0,sL (as.map Ig),y11]:=
  (Mi (n:=1+cell/6%4) (by
   generalize A9 ns=N;generalize A9 fs=F;unfold CH;generalize c1.map Iv.P.int=L
   simp! [hf6,hm64]) (by lia)).trans hloop
 have hlen:as.length=(1+cell/6%4).toNat:=by rw[q1,AA];lia
 have hex:Ex (d+2) (.tup [.str Aj,q0,.tup (as.map Ig)]):=.case q0 as hq0 (by lia) (by lia) (λa ha=>(q2 a ha).1) (λa ha=>(q2 a ha).2)
 have hsz:sz (d+2) (.tup [.str Aj,q0,.tup (as.map Ig)])=1+(sz (d+1) q0+(as.map λa=>sz (d+1) a.2.2).sum):=by
  show 1+((AZ _).map (sz (d+1))).sum=_;rw[EY hq0.Y9,map_cons,sum_cons,map_map];rfl
 refine#[.tup [.str Aj,q0,.tup (as.map Ig)],c',hex,q3,by lia,by rw[hsz];lia,?_];generalize as.map Ig=A at hfor ⊢;unfold CH at h25 hin hfor ⊢;generalize A9 ns=N at h25 hor hin hfor ⊢;generalize A9 fs=F at h25 hor hin hfor ⊢;generalize l.map Iv.P.int=L at h25 ⊢;generalize l'.map Iv.P.int=L' at h25 hor hin ⊢;generalize c'.map Iv.P.int=L2 at hfor ⊢;generalize c1.map Iv.P.int=L1 at hfor hin ⊢
 have e:(k+1)<<<dG>>>[sL L,sL N,sL F,Ci ((d:Int)+1),none,none,none,none,none,none,none,none]= .ok (.ret (.p (.tup [.str Aj,q0,.tup A]))) [sL L2,sL N,sL F,Ci ((d:Int)+1),Ci cell,Ci (cell%6),none,y7,none,sP q0,sL A,y11]:=by
  rw[Kp];simp! [↓h25,hm,↓hor,h5,↓hin,↓hfor,Su]
 exact Af dB rfl rfl e (by done)
theorem Tz{fs:List (List Nat)}(S6:YJ ns fs):∀(d k:Nat),LZ (k+d+2) d ns fs
 | 0,k=>λcells h0 hl=>by
   obtain⟨i,l',a1,a2,a3,a4,a5⟩:=NU h0;obtain⟨p,hp,e⟩:=LP (k:=k) (d:=0) S6 a1 (a5 k) (.inl rfl);exact#[p,l',(hp 0).1,a2,a4,by rw[(hp 0).2];lia,e]
 | d + 1,k=>λcells h0 hl=>by
   obtain⟨i,l',a1,a2,a3,a4,a5⟩:=NU h0;have ih:LZ (k+d+1+1) d ns fs:=Tz S6 d k
   by_cases h2:i%6<2
   .obtain⟨p,hp,e⟩:=LP (k:=k+d+1) (d:=(d:Int)+1) S6 a1 (a5 _) (.inr h2);exact#[p,l',(hp (d+1)).1,a2,a4,by rw[(hp (d+1)).2];lia,e]
   .have hne:i≠0:=λz=>h2 (by rw[z];decide)
    have:=a3 hne
    by_cases h5:i%6<5
    .obtain⟨p,c',b1,b2,b3,b4,e⟩:=X9 (k:=k+d+1) S6 ih a1 a2 (by lia) (a5 _) h2 h5;exact#[p,c',b1,b2,by lia,by show sz (d+2) p+_<=_;lia,e]
    .obtain⟨p,c',b1,b2,b3,b4,e⟩:=TB (k:=k+d+1) S6 ih a1 a2 (by lia) (a5 _) h2 h5;exact#[p,c',b1,b2,by lia,by show sz (d+2) p+_<=_;lia,e]
end Lk52
namespace Iv
open PySem
variable{cf:CF}{mt:MT}
theorem YG{i j:Nat}{f:Nat}{ts:List T}{a b:P}{U:Env}(e:ev cf mt (.call f ts) U= .ok (.p (.tup [a,b])) U):exec cf mt Ai (.asg (.tup [i,j]) (.call f ts)) U= .ok .nx ((U.set i (some (.p a))).set j (some (.p b))):=by
 show((BP (.call f ts) (ev cf mt (.call f ts)) U).bind λh U=>Res.of ((h.cont U).bind λc=>IG (.tup [i,j]) c U) U |>.bind λU' _=>Res.ok Fl.nx U')=_;rw[Ea,e];rfl
theorem Oc{t:T}{xs:List P}(hd:Ae cf mt [t] U= .ok [.AN (.lst xs)] U):exec cf mt Ai (.C3 g .op [t] b) U=forL g [] (execs cf mt Ai b) xs U:=by
 rw[HW];show(if IK.op.ok=true then(Ae cf mt [t] U).bind _ else _)=_;rw[iP (show IK.op.ok=true from rfl),hd];rfl
end Iv
namespace Lk52
open Iv PySem
variable{k:Nat}{cf:CF}
abbrev Cx(x:Str):Option C:=some (.p (.str x))
noncomputable def wI:List S:=[.asg (.nm 8) (.call 26 [.A3 6,.A3 7]),.asg (.tup [9,10]) (.call 31 [.A3 8]),.ifs (.or (.not (.A3 9)) (.and (.A0 .Uy [.A3 10,.An .Az]) (.or (.not (.call 30 [.A3 10])) (.A0 .ne [.call 25 [.A3 10],.A3 8])))) [.ret (some (.An (.bl false)))] []]
noncomputable def ku:T:=.comp (.nm 1) .Co [{10}] [] (.call 18 [.A3 3,.A0 .add [.A3 2,.A3 1]]) [none,none,some 3,some 0]
noncomputable def Z2:T:=.call 23 [.A0 (.Cm true false) [.A3 4,{3}],.A3 1,.A3 2,{3}]
def Zo:S:=.C3 (.nm 7) .op [.A0 (.Cm false true) [.A3 4,{3}]] wI
def wL:List S:=[.asg (.nm 4) ku,.asg (.nm 5) Z2,.asg (.nm 6) (.call 25 [.A3 5]),Zo,.ifs (.not (.call 24 [.call 17 [.A3 6],.A3 5])) [.ret (some (.An (.bl false)))] []]
variable{x0 x1 x2 x3 x4 x5 y8 y9 y10 x11:Option C}
theorem We{s:List Nat}(hs:s.length<=15000):∃z8 z9 z10,(k+55)<<<wI>>>[x0,x1,x2,x3,x4,x5,Cx (tx s),Ci c,y8,y9,y10,x11]= .ok .nx [x0,x1,x2,x3,x4,x5,Cx (tx s),Ci c,z8,z9,z10,x11]:=by
 obtain⟨t,ht,hsp⟩:=OP (k:=k+54) (s:=s) (c:=c) (by lia)
 have h26:(k+55)|||(.call 26 [.A3 6,.A3 7])&&&[x0,x1,x2,x3,x4,x5,Cx (tx s),Ci c,y8,y9,y10,x11]= .ok (.p (.str (tx t))) [x0,x1,x2,x3,x4,x5,Cx (tx s),Ci c,y8,y9,y10,x11]:=by
  rw[Bs];exact BS (U:=[x0,x1,x2,x3,x4,x5,Cx (tx s),Ci c,y8,y9,y10,x11]) (hs:=[.A4 6,.A4 7]) (cs:=[.p (.str (tx s)),.p (.int c)]) rfl (λc hc=>by rcases mK hc with z|z;(· rw[z];rfl);(· rw[mE z];rfl)) hsp rfl
 have h31:exec (~~~(k+55)) mt Ai (.asg (.tup [9,10]) (.call 31 [.A3 8])) [x0,x1,x2,x3,x4,x5,Cx (tx s),Ci c,Cx (tx t),y9,y10,x11]= .ok .nx [x0,x1,x2,x3,x4,x5,Cx (tx s),Ci c,Cx (tx t),sP (.bl true),sP ((R4 t).getD .Az),x11]:=YG (EB (h:=.A4 8) rfl rfl (DW (k:=k+54) (JF (k:=k) (s:=t) (by lia))));refine#[Cx (tx t),sP (.bl true),sP ((R4 t).getD .Az),?_];cases e:R4 t with
 |none=>
   rw[e]at h31;generalize tx s=x at h26 h31 ⊢;generalize tx t=y at h26 h31 ⊢;have h31:exec (~~~(k+55)) mt Ai (.asg (.tup [9,10]) (.call 31 [.A3 8])) [x0,x1,x2,x3,x4,x5,Cx x,Ci c,Cx y,y9,y10,x11]= .ok .nx [x0,x1,x2,x3,x4,x5,Cx x,Ci c,Cx y,sP (.bl true),sP .Az,x11]:=h31;show _=Res.ok Fl.nx [x0,x1,x2,x3,x4,x5,Cx x,Ci c,Cx y,sP (.bl true),sP .Az,x11];unfold wI;simp! [↓h26,↓h31,Su]
 |some p=>
   obtain⟨hp,hsh⟩:=Zr e;rw[e]at h31;have hne:¬p= .Az:=by cases hp<;>exact nofun
   have c30:(k+55)|||(.call 30 [.A3 10])&&&[x0,x1,x2,x3,x4,x5,Cx (tx s),Ci c,Cx (tx t),sP (.bl true),sP p,x11]= .ok (.p (.bl true)) [x0,x1,x2,x3,x4,x5,Cx (tx s),Ci c,Cx (tx t),sP (.bl true),sP p,x11]:=EB (h:=.A4 10) rfl rfl (by have:=MG 12 (k+29) hp;exact this);have c25:(k+55)|||(.call 25 [.A3 10])&&&[x0,x1,x2,x3,x4,x5,Cx (tx s),Ci c,Cx (tx t),sP (.bl true),sP p,x11]= .ok (.p (.str (tx t))) [x0,x1,x2,x3,x4,x5,Cx (tx s),Ci c,Cx (tx t),sP (.bl true),sP p,x11]:=EB (h:=.A4 10) rfl rfl (by have:=Gy (k:=k+43) 12 hp (by rw[<-hsh];lia);rw[<-hsh]at this;exact this);have he:=GC (tx t);generalize tx s=x at h26 h31 c30 c25 ⊢;generalize tx t=y at h26 h31 c30 c25 he ⊢;have h31:exec (~~~(k+55)) mt Ai (.asg (.tup [9,10]) (.call 31 [.A3 8])) [x0,x1,x2,x3,x4,x5,Cx x,Ci c,Cx y,y9,y10,x11]= .ok .nx [x0,x1,x2,x3,x4,x5,Cx x,Ci c,Cx y,sP (.bl true),sP p,x11]:=h31;show _=Res.ok Fl.nx [x0,x1,x2,x3,x4,x5,Cx x,Ci c,Cx y,sP (.bl true),sP p,x11];unfold wI;simp! [↓h26,↓h31,Su,hne,↓c30,↓c25,he]
variable{ns:List Int}
theorem SY{a:Nat}{y1 y2:Option C}{ys:Iv.Env}:
 (k+1)|||ku&&&(some (.b (.ro (ns.map .int)))::y1::y2::Ci (a:Int)::ys)= .ok (CH ((List.range 10).map λj=>B1 ns (a+j))) (some (.b (.ro (ns.map .int)))::y1::y2::Ci (a:Int)::ys):=by
 have h:=E7 (cf:= ~~~(k+1)) (mt:=mt) (kd:=.Co) (t:={10}) (elt:=.call 18 [.A3 3,.A0 .add [.A3 2,.A3 1]]) (fr:=[none,none,some 3,some 0]) (h:=.AN (.p (.int 10))) (c:=.p (.int 10)) (xs:=Aq 0 10) (F:=λq=>match q with| .int j=>.int (B1 ns (a+j.toNat))|q=>q) (U:=some (.b (.ro (ns.map .int)))::y1::y2::Ci (a:Int)::ys) (r:=[Ci (a:Int),some (.b (.ro (ns.map .int)))]) rfl rfl rfl rfl rfl rfl (by rw[AA];unfold big;lia) rfl rfl (λ_=>rfl) (λq hq=>by
  unfold Aq at hq;obtain⟨j,hj,rfl⟩:=mem_map.mp hq;rw[show(0:Int)+(j:Int)=(j:Int)by lia];show _=Res.ok (C.p (.int (B1 ns (a+j)))) _;rw[Bs]
  have ha:Ae (~~~(k+1)) mt [.A3 3,.A0 .add [.A3 2,.A3 1]] [none,Ci (j:Int),Ci (a:Int),some (.b (.ro (ns.map .int)))]= .ok [.A4 3,.AN (.p (.int ((a:Int)+(j:Int))))] [none,Ci (j:Int),Ci (a:Int),some (.b (.ro (ns.map .int)))]:=by
   generalize ns.map Iv.P.int=l;simp! []
  rw[ha];rw[Res.A5]
  exact BS (hs:=[.A4 3,.AN (.p (.int ((a:Int)+(j:Int))))]) (U:=[none,Ci (j:Int),Ci (a:Int),some (.b (.ro (ns.map .int)))]) (cs:=[.b (.ro (ns.map .int)),.p (.int ((a:Int)+(j:Int)))]) rfl (λc hc=>by rcases mK hc with z|z;(· rw[z];rfl);(· rw[mE z];rfl)) (Oq (k:=k) (ns:=ns) (j:=a+j)) rfl)
 unfold ku;rw[h];refine congrArg (λz=>Res.ok (C.lst z) _) ?_;unfold Aq;rw[map_map,map_map]
 exact map_congr_left λj _=>by
  show Iv.P.int (B1 ns (a+(0+(j:Int)).toNat))=_;rw[show(0+(j:Int)).toNat=j by lia];rfl
theorem TC{l lz:List Iv.P}{y0 y3:Option C}{ys:Iv.Env}(he:cf 23 [.lst (l.drop 3),.lst n,.lst m,.p (.int 3)]= .ok z [sL lz,sL n,sL m,Ci 3]):
 ev cf mt Z2 (y0::some (.lst n)::some (.lst m)::y3::some (.lst l)::ys)= .ok z (y0::some (.lst n)::some (.lst m)::y3::some (.lst l)::ys):=by
 have hc:=SS (xs:=l) (i:=3) (by decide);have hc:CI (.b (.lst l)) (some 3) none=some (.lst (l.drop 3)):=hc
 have ha:Ae cf mt [.A0 (.Cm true false) [.A3 4,{3}],.A3 1,.A3 2,{3}] (y0::some (.lst n)::some (.lst m)::y3::some (.lst l)::ys)= .ok [.AN (.lst (l.drop 3)),.A4 1,.A4 2,.AN (.p (.int 3))] (y0::some (.lst n)::some (.lst m)::y3::some (.lst l)::ys):=by
  generalize l.drop 3=l3 at hc ⊢;simp! [hc]
 unfold Z2;rw[Bs,ha];show AK cf 23 [.AN (.lst (l.drop 3)),.A4 1,.A4 2,.AN (.p (.int 3))] (y0::some (.lst n)::some (.lst m)::y3::some (.lst l)::ys)=_;unfold AK;rw[show Ag (y0::some (.lst n)::some (.lst m)::y3::some (.lst l)::ys) [.AN (.lst (l.drop 3)),.A4 1,.A4 2,.AN (.p (.int 3))]=some [.lst (l.drop 3),.lst n,.lst m,.p (.int 3)]from rfl];dsimp only;rw[iP #[by show([1,2]:List Nat).Nodup;decide,rfl],he];rfl
theorem RW{a:Nat}{xs fs:List (List Nat)}{y4 y5 y6 y7 y11:Option C}(S6:YJ xs fs):
 ∃z4 z5 z6 z7 z8 z9 z10,(k+55)<<<wL>>>[some (.b (.ro (ns.map .int))),sL (A9 xs),sL (A9 fs),Ci (a:Int),y4,y5,y6,y7,y8,y9,y10,y11]= .ok .nx [some (.b (.ro (ns.map .int))),sL (A9 xs),sL (A9 fs),Ci (a:Int),z4,z5,z6,z7,z8,z9,z10,y11]:=by
 have hcl:=SY (k:=k+54) (ns:=ns) (a:=a) (y1:=some (.lst (A9 xs))) (y2:=some (.lst (A9 fs))) (ys:=[y4,y5,y6,y7,y8,y9,y10,y11]);have h0:∀i∈(List.range 10).map (λj=>B1 ns (a+j)),(0:Int)<=i:=λi hi=>by obtain⟨j,_,rfl⟩:=mem_map.mp hi;exact bz _ _
 have hl10:((List.range 10).map λj=>B1 ns (a+j)).length=10:=by simp
 generalize (List.range 10).map (λj=>B1 ns (a+j))=cs at hcl h0 hl10;obtain⟨p,c',r1,r2,r3,r4,r5⟩:=Tz S6 3 (k+50) (cs.drop 3) (λi hi=>h0 i (mem_of_mem_drop hi)) (by rw[length_drop];lia);have r5: ~~~(k+55) 23 [CH (cs.drop 3),.lst (A9 xs),.lst (A9 fs),.p (.int 3)]= .ok (.p p) [some (CH c'),sL (A9 xs),sL (A9 fs),Ci 3]:=r5;unfold CH at r5 hcl;rw[map_drop]at r5;have r1:Ex 4 p:=r1;have hsz:sz 4 p<=36:=by have r4:sz 4 p+5*c'.length<=1+5*(cs.drop 3).length:=r4;rw[length_drop]at r4;lia
 have hlen:=eN r1 (Nat.le_refl 4);have hany:=TC (cf:= ~~~(k+55)) (y0:=some (.b (.ro (ns.map .int)))) (y3:=Ci (a:Int)) (ys:=[y5,y6,y7,y8,y9,y10,y11]) r5;have htx:(k+55)|||(.call 25 [.A3 5])&&&[some (.b (.ro (ns.map .int))),sL (A9 xs),sL (A9 fs),Ci (a:Int),sL (cs.map .int),sP p,y6,y7,y8,y9,y10,y11]= .ok (.p (.str (tx (sh 4 p)))) [some (.b (.ro (ns.map .int))),sL (A9 xs),sL (A9 fs),Ci (a:Int),sL (cs.map .int),sP p,y6,y7,y8,y9,y10,y11]:=EB (h:=.A4 5) rfl rfl (Gy (k:=k+51) 4 r1 (by lia))
 obtain⟨U',⟨z7,z8,z9,z10,rfl⟩,hloop⟩:=Dq (g:=.nm 7) (gs:=[]) (b:=execs (~~~(k+55)) mt Ai wI) (all:=(cs.take 3).map Iv.P.int)
  (J:=λ_ U=>∃z7 z8 z9 z10:Option C,U=[some (.b (.ro (ns.map .int))),sL (A9 xs),sL (A9 fs),Ci (a:Int),sL (cs.map .int),sP p,Cx (tx (sh 4 p)),z7,z8,z9,z10,y11])
  (λ_ _ _=>rfl) (by
    intro dn x r hall U hJ;obtain⟨z7,z8,z9,z10,rfl⟩:=hJ;have hx:x∈(cs.take 3).map Iv.P.int:=by rw[<-hall];simp
    obtain⟨c,_,rfl⟩:=mem_map.mp hx;obtain⟨w8,w9,w10,e⟩:=We (k:=k) (s:=sh 4 p) (c:=c) (x0:=some (.b (.ro (ns.map .int)))) (x1:=some (.lst (A9 xs))) (x2:=some (.lst (A9 fs))) (x3:=Ci (a:Int)) (x4:=some (.lst (cs.map .int))) (x5:=some (.p p)) (y8:=z8) (y9:=z9) (y10:=z10) (x11:=y11) (by lia)
    exact#[_,_,.nx,rfl,e,.inl rfl,_,_,_,_,rfl]) _ [] [some (.b (.ro (ns.map .int))),sL (A9 xs),sL (A9 fs),Ci (a:Int),sL (cs.map .int),sP p,Cx (tx (sh 4 p)),y7,y8,y9,y10,y11] rfl #[_,_,_,_,rfl]
 have hfor:exec (~~~(k+55)) mt Ai Zo [some (.b (.ro (ns.map .int))),sL (A9 xs),sL (A9 fs),Ci (a:Int),sL (cs.map .int),sP p,Cx (tx (sh 4 p)),y7,y8,y9,y10,y11]= .ok .nx [some (.b (.ro (ns.map .int))),sL (A9 xs),sL (A9 fs),Ci (a:Int),sL (cs.map .int),sP p,Cx (tx (sh 4 p)),z7,z8,z9,z10,y11]:=by
  refine(Oc ?_).trans hloop;have hc:CI (.b (.lst (cs.map .int))) none (some 3)=some (.lst ((cs.map .int).take 3)):=SR (by decide);rw[map_take];clear hloop;generalize (cs.map Iv.P.int).take 3=u at hc ⊢;generalize cs.map Iv.P.int=v at hc ⊢;generalize ns.map Iv.P.int=l;generalize A9 xs=N;generalize A9 fs=F;simp! [hc]
 have h17:=JF (k:=k+1) (s:=sh 4 p) (by lia);rw[R3 r1 (by lia)]at h17;have h24:=V6 (k:=k+42) 13 r1.sm
 have hsm:(k+55)|||(.call 24 [.call 17 [.A3 6],.A3 5])&&&[some (.b (.ro (ns.map .int))),sL (A9 xs),sL (A9 fs),Ci (a:Int),sL (cs.map .int),sP p,Cx (tx (sh 4 p)),z7,z8,z9,z10,y11]= .ok (.p (.bl true)) [some (.b (.ro (ns.map .int))),sL (A9 xs),sL (A9 fs),Ci (a:Int),sL (cs.map .int),sP p,Cx (tx (sh 4 p)),z7,z8,z9,z10,y11]:=by
  have c17:(k+55)|||(.call 17 [.A3 6])&&&[some (.b (.ro (ns.map .int))),sL (A9 xs),sL (A9 fs),Ci (a:Int),sL (cs.map .int),sP p,Cx (tx (sh 4 p)),z7,z8,z9,z10,y11]= .ok (.p p) [some (.b (.ro (ns.map .int))),sL (A9 xs),sL (A9 fs),Ci (a:Int),sL (cs.map .int),sP p,Cx (tx (sh 4 p)),z7,z8,z9,z10,y11]:=EB (h:=.A4 6) rfl rfl h17
  have ha:Ae (~~~(k+55)) mt [.call 17 [.A3 6],.A3 5] [some (.b (.ro (ns.map .int))),sL (A9 xs),sL (A9 fs),Ci (a:Int),sL (cs.map .int),sP p,Cx (tx (sh 4 p)),z7,z8,z9,z10,y11]= .ok [.AN (.p p),.A4 5] [some (.b (.ro (ns.map .int))),sL (A9 xs),sL (A9 fs),Ci (a:Int),sL (cs.map .int),sP p,Cx (tx (sh 4 p)),z7,z8,z9,z10,y11]:=by
   rw[Bb,Ea,c17];rfl
  rw[Bs,ha];exact BS (U:=[some (.b (.ro (ns.map .int))),sL (A9 xs),sL (A9 fs),Ci (a:Int),sL (cs.map .int),sP p,Cx (tx (sh 4 p)),z7,z8,z9,z10,y11]) (hs:=[.AN (.p p),.A4 5]) (cs:=[.p p,.p p]) rfl (λc hc=>by rcases mK hc with z|z;(· rw[z];rfl);(· rw[mE z];rfl)) h24 rfl
 refine#[some (.lst (cs.map .int)),sP p,Cx (tx (sh 4 p)),z7,z8,z9,z10,?_];have e4:∀ss,(k+55)<<<(Zo::ss)>>>_=(k+55)<<<ss>>>_:=λss=>by rw[AJ,hfor];rfl
 exact(Dr hcl).trans ((Dr hany).trans ((Dr htx).trans ((e4 _).trans (Ez (EN (OI hsm))))))
noncomputable def GI:List (List Nat):=[[],[32],[48,48],[48,49],[45,48],[45],[45,45,49],List.replicate 61 49,[65],[97,32,98],[97,40],[97,40,98],[97,40,98,44,99,41],[97,40,98,44,32,32,99,41],[70,40,97,41,41]]
noncomputable def GH:List (List Nat):=[[91,97,58,32,70,40,41,32,98],[91,97,32,70,40,41,32,98,93],[91,97,58,32,70,32,98,93],[91,97,58,32,70,40,120,44,32,120,41,32,98,93],[91,97,58,32,70,40,41,98,93],[91,97,58,32,93],[91,97,58,32,70,40,41,32,98,59,71,40,41,32,99,93]]
noncomputable def HB:List (List Nat):=[[102,40,97,44,32,98,44,32,99,44,32,100,41],[70,40,97,44,32,98,44,32,99,44,32,100,41],[91,97,58,32,102,40,41,32,98,93],[91,97,58,32,70,40,88,41,32,98,93]]
noncomputable def others:List Iv.P:=[.Az,.int 7,.tup [.str BA,.str (tx [97])],.box 0 [],.box 0 [.str (tx [97])]]
noncomputable def wO:List S:=[.asg (.tup [9,10]) (.call 31 [.A3 6]),.ifs (.or (.not (.A3 9)) (.A0 .Uy [.A3 10,.An .Az])) [.ret (some (.An (.bl false)))] []]
noncomputable def kn:T:=.lst [#[],#[32],#[48,48],#[48,49],#[45,48],#[45],#[45,45,49],.A0 .mul [#[49],{61}],#[65],#[97,32,98],#[97,40],#[97,40,98],#[97,40,98,44,99,41],#[97,40,98,44,32,32,99,41],#[70,40,97,41,41]]
def nu:T:=.lst ((A9 GH).map .An)
def nq:T:=.lst ((A9 HB).map .An)
noncomputable def eu:T:=.lst [.An .Az,{7},.tup [.An (.str BA),#[97]],.E4 [],.E4 [#[97]]]
def Vc:S:=.C3 (.nm 3) .Co [{2},.A0 .add [{3},.A0 .min [.A0 .len [.A3 0],{30}]],{10}] wL
theorem cj:mI=[.asg (.nm 1) (.call 19 [.call 18 [.A3 0,{0}]]),.asg (.nm 2) (.call 20 [.call 18 [.A3 0,{1}]]),Vc,.asg (.nm 11) kn,.asg (.nm 11) (.A0 .add [.A3 11,nu]),.asg (.nm 11) (.A0 .add [.A3 11,nq]),.C3 (.nm 6) .op [.A0 .add [.A3 11,eu]] wO,.ret (some (.An (.bl true)))]:=by done
theorem ZW:∀s∈GI++GH++HB,R4 s=none:=by
 intro s hs;have:(GI++GH++HB).all (λs=>(R4 s).isNone)=true:=by done
 exact Option.isNone_iff_eq_none.mp (all_eq_true.mp this s hs)
theorem VH:∀s∈GI++GH++HB,s.length<=70000:=by
 intro s hs;have:(GI++GH++HB).all (λs=>decide (s.length<=61))=true:=by done
 have:=of_decide_eq_true (all_eq_true.mp this s hs)
 lia
theorem ZX{q:Iv.P}(hq:q∈A9 GI++A9 GH++A9 HB++others): ~~~(k+55) 31 [.p q]= .ok (.p (.tup [.bl true,.Az])) [sP q]:=by
 rcases mZ hq with z|z
 .rw[show A9 GI++A9 GH++A9 HB=A9 (GI++GH++HB)by unfold A9;simp]at z;obtain⟨s,hs,rfl⟩:=mem_map.mp z;have:=JF (k:=k) (VH s hs);rw[ZW s hs]at this;exact DW (k:=k+54) (o:=none) this
 .have no:∀p,DZ .str (.b (.p p))=some false->~~~(k+55) 31 [.p p]= .ok (.p (.tup [.bl true,.Az])) [sP p]:=λp hp=>DW (k:=k+54) (o:=none) (Vf (k:=k+52) hp)
  unfold others at z;simp only[mem_cons,not_mem_nil,or_false]at z;rcases z with rfl|rfl|rfl|rfl|rfl<;>exact no _ rfl
variable{x7 x8:Option C}
theorem RE{q:Iv.P}(hq:q∈A9 GI++A9 GH++A9 HB++others):(k+55)<<<wO>>>[x0,x1,x2,x3,x4,x5,sP q,x7,x8,y9,y10,x11]= .ok .nx [x0,x1,x2,x3,x4,x5,sP q,x7,x8,sP (.bl true),sP .Az,x11]:=by
 have h2:exec (~~~(k+55)) mt Ai (.asg (.tup [9,10]) (.call 31 [.A3 6])) [x0,x1,x2,x3,x4,x5,sP q,x7,x8,y9,y10,x11]= .ok .nx [x0,x1,x2,x3,x4,x5,sP q,x7,x8,sP (.bl true),sP .Az,x11]:=YG (EB (h:=.A4 6) rfl rfl (ZX hq));unfold wO;simp! [↓h2,Su]
theorem YZ :ev cf mt kn U= .ok (.lst (A9 GI)) U:=by
 unfold kn;rw[Gf];rfl
theorem LB:∀(l:List Iv.P) (U:Iv.Env),Cf cf mt (l.map .An) U= .ok l U
 |[],U=>FL U
 | p::l,U=>by
   rw[map_cons,CU,Hf];show Ux p (Cf cf mt (l.map .An) U)=_;rw[LB l U];rfl
theorem O0{l:List Iv.P}(h:l.length<=1000):ev cf mt (.lst (l.map .An)) U= .ok (.lst l) U:=by
 rw[Gf];dsimp only;rw[iP (by rw[lM];exact h),LB,Res.A5]
theorem YY :ev cf mt eu U= .ok (.lst others) U:=by
 unfold eu;rw[Gf];rfl
theorem add_l{l m:List Iv.P}{x6 x9 x10:Option C}(hl:l.length+m.length<=1000)(hh:∀(v:Iv.Env->Res C) (U:Iv.Env),BP t v U=jH (v U))(ht:∀U,ev cf mt t U= .ok (.lst m) U):ev cf mt (.A0 .add [.A3 11,t]) [x0,x1,x2,x3,x4,x5,x6,x7,x8,x9,x10,sL l]= .ok (.lst (l++m)) [x0,x1,x2,x3,x4,x5,x6,x7,x8,x9,x10,sL l]:=by
 have hadd:LS (.b (.lst l)) (.b (.lst m))=some (.lst (l++m)):=by
  show(Ky (l++m)).map _=_;unfold Ky;rw[iP (by rw[lA];unfold big;lia)];rfl
 generalize l++m=u at hadd ⊢;simp! [hh,ht,hadd,gL]
theorem aC(ns:List Int)(h:ns.length<=63):∃outs,~~~(k+56) 32 [.b (.ro (ns.map .int))]= .ok (.p (.bl true)) outs:=by
 obtain⟨s,i,s1,s2,s3,s4⟩:=Pl (k:=k+54) (c:=B1 ns 0);obtain⟨fs,f1,f2,f3⟩:=PM (k:=k+54) (c:=B1 ns 1);obtain⟨n1,n2⟩:=ag (c:=B1 ns 0) s1 s2 s3;have S6:YJ ((List.range 6).map (Lb s i (B1 ns 0))) fs:=#[by simp,n1,n2,f1,f2];generalize (List.range 6).map (Lb s i (B1 ns 0))=xs at s4 S6
 have hc:∀(j:Nat) (r:Iv.Env),(k+55)|||(.call 18 [.A3 0,.An (.int j)])&&&(some (.b (.ro (ns.map .int)))::r)= .ok (.p (.int (B1 ns j))) (some (.b (.ro (ns.map .int)))::r):=λj r=>by
  rw[Bs];exact BS (hs:=[.A4 0,.AN (.p (.int j))]) (U:=some (.b (.ro (ns.map .int)))::r) (cs:=[.b (.ro (ns.map .int)),.p (.int j)]) rfl (λc hc=>by rcases mK hc with z|z;(· rw[z];rfl);(· rw[mE z];rfl)) (Oq (k:=k+54) (ns:=ns) (j:=j)) rfl
 have e19:(k+55)|||(.call 19 [.call 18 [.A3 0,{0}]])&&&[some (.b (.ro (ns.map .int))),none,none,none,none,none,none,none,none,none,none,none]= .ok (.lst (A9 xs)) [some (.b (.ro (ns.map .int))),none,none,none,none,none,none,none,none,none,none,none]:=
  EB (h:=.AN (.p (.int (B1 ns 0)))) (by rw[Bb,Ea,show(T.An (.int 0))=T.An (.int (0:Nat))from rfl,hc 0];rfl) rfl s4
 have e20:(k+55)|||(.call 20 [.call 18 [.A3 0,{1}]])&&&[some (.b (.ro (ns.map .int))),sL (A9 xs),none,none,none,none,none,none,none,none,none,none]= .ok (.lst (A9 fs)) [some (.b (.ro (ns.map .int))),sL (A9 xs),none,none,none,none,none,none,none,none,none,none]:=
  EB (h:=.AN (.p (.int (B1 ns 1)))) (by rw[Bb,Ea,show(T.An (.int 1))=T.An (.int (1:Nat))from rfl,hc 1];rfl) rfl f3
 obtain⟨m,hm,hmin⟩:∃m:Int,(0<=m/\m<=30)/\(if(30:Int)<(ns.length:Int)then(30:Int)else(ns.length:Int))=m:=#[_,by split<;>lia,rfl]
 have hden:Ae (~~~(k+55)) mt [{2},.A0 .add [{3},.A0 .min [.A0 .len [.A3 0],{30}]],{10}] [some (.b (.ro (ns.map .int))),sL (A9 xs),sL (A9 fs),none,none,none,none,none,none,none,none,none]= .ok [.AN (.p (.int 2)),.AN (.p (.int (3+m))),.AN (.p (.int 10))] [some (.b (.ro (ns.map .int))),sL (A9 xs),sL (A9 fs),none,none,none,none,none,none,none,none,none]:=by
  have hl:=QZ ns;generalize ns.length=L at hl hmin;generalize ns.map Iv.P.int=l at hl ⊢;generalize A9 xs=N;generalize A9 fs=F;simp! [hl,hmin]
 obtain⟨U',⟨y3,y4,y5,y6,y7,y8,y9,y10,rfl⟩,hloop⟩:=Dq (g:=.nm 3) (gs:=[]) (b:=execs (~~~(k+55)) mt Ai wL) (all:=(List.range ((3+m-2+10-1)/10).toNat).map λk=>Iv.P.int (2+10*(k:Nat)))
  (J:=λ_ U=>∃y3 y4 y5 y6 y7 y8 y9 y10:Option C,U=[some (.b (.ro (ns.map .int))),sL (A9 xs),sL (A9 fs),y3,y4,y5,y6,y7,y8,y9,y10,none])
  (λ_ _ _=>rfl) (by
    intro dn x r hall U hJ;obtain⟨y3,y4,y5,y6,y7,y8,y9,y10,rfl⟩:=hJ;have hx:x∈(List.range ((3+m-2+10-1)/10).toNat).map λk=>Iv.P.int (2+10*(k:Nat)):=by rw[<-hall];simp
    obtain⟨j,_,rfl⟩:=mem_map.mp hx;obtain⟨z4,z5,z6,z7,z8,z9,z10,e⟩:=RW (k:=k) (ns:=ns) (a:=2+10*j) (y4:=y4) (y5:=y5) (y6:=y6) (y7:=y7) (y8:=y8) (y9:=y9) (y10:=y10) (y11:=none) S6
    exact#[_,_,.nx,rfl,e,.inl rfl,_,_,_,_,_,_,_,_,rfl]) _ [] [some (.b (.ro (ns.map .int))),sL (A9 xs),sL (A9 fs),none,none,none,none,none,none,none,none,none] rfl #[_,_,_,_,_,_,_,_,rfl]
 have hfor:exec (~~~(k+55)) mt Ai Vc [some (.b (.ro (ns.map .int))),sL (A9 xs),sL (A9 fs),none,none,none,none,none,none,none,none,none]= .ok .nx [some (.b (.ro (ns.map .int))),sL (A9 xs),sL (A9 fs),y3,y4,y5,y6,y7,y8,y9,y10,none]:=by
  unfold Vc;rw[HW];show(if IK.Co.ok=true then(Ae _ mt _ _).bind _ else _)=_;rw[iP (show IK.Co.ok=true from rfl),hden,Res.A5];unfold PN;rw[show Ag [some (.b (.ro (ns.map .int))),sL (A9 xs),sL (A9 fs),none,none,none,none,none,none,none,none,none] [.AN (.p (.int 2)),.AN (.p (.int (3+m))),.AN (.p (.int 10))]=some [.p (.int 2),.p (.int (3+m)),.p (.int 10)]from rfl];dsimp only
  rw[show B5 .Co [.p (.int 2),.p (.int (3+m)),.p (.int 10)]=some ((List.range ((3+m-2+10-1)/10).toNat).map λk=>Iv.P.int (2+10*(k:Nat)))by
    show(if _ then _ else _)=_
    rw[iP #[by decide,by decide,by decide,by lia]]]
  exact hloop
 generalize hA:A9 GI++A9 GH++A9 HB=A;have hA4:A.length+others.length<=1000:=by rw[<-hA];decide
 obtain⟨U2,⟨z6,z9,z10,rfl⟩,hloop2⟩:=Dq (g:=.nm 6) (gs:=[]) (b:=execs (~~~(k+55)) mt Ai wO) (all:=A++others)
  (J:=λ_ U=>∃z6 z9 z10:Option C,U=[some (.b (.ro (ns.map .int))),sL (A9 xs),sL (A9 fs),y3,y4,y5,z6,y7,y8,z9,z10,sL A])
  (λ_ _ _=>rfl) (by
    intro dn x r hall U hJ;obtain⟨z6,z9,z10,rfl⟩:=hJ;have hx:x∈A++others:=by rw[<-hall];simp
    rw[<-hA]at hx
    exact#[_,_,.nx,rfl,RE hx,.inl rfl,_,_,_,rfl]) _ [] [some (.b (.ro (ns.map .int))),sL (A9 xs),sL (A9 fs),y3,y4,y5,y6,y7,y8,y9,y10,sL A] rfl #[_,_,_,rfl]
 have hfor2:exec (~~~(k+55)) mt Ai (.C3 (.nm 6) .op [.A0 .add [.A3 11,eu]] wO) [some (.b (.ro (ns.map .int))),sL (A9 xs),sL (A9 fs),y3,y4,y5,y6,y7,y8,y9,y10,sL A]= .ok .nx [some (.b (.ro (ns.map .int))),sL (A9 xs),sL (A9 fs),y3,y4,y5,z6,y7,y8,z9,z10,sL A]:=by
  refine(Oc ?_).trans hloop2;rw[Bb,LV,add_l hA4 (λ_ _=>rfl) (λ_=>YY)];rfl
 have a2:=λ{x0 x1 x2 x3 x4 x5 x6 x7 x8 x9 x10:Option C}=>add_l (cf:= ~~~(k+55)) (t:=nu) (l:=A9 GI) (m:=A9 GH) (x0:=x0) (x1:=x1) (x2:=x2) (x3:=x3) (x4:=x4) (x5:=x5) (x6:=x6) (x7:=x7) (x8:=x8) (x9:=x9) (x10:=x10) (by decide) (λ_ _=>rfl) (λ_=>O0 (by decide))
 have a3:=λ{x0 x1 x2 x3 x4 x5 x6 x7 x8 x9 x10:Option C}=>add_l (cf:= ~~~(k+55)) (t:=nq) (l:=A9 GI++A9 GH) (m:=A9 HB) (x0:=x0) (x1:=x1) (x2:=x2) (x3:=x3) (x4:=x4) (x5:=x5) (x6:=x6) (x7:=x7) (x8:=x8) (x9:=x9) (x10:=x10) (by decide) (λ_ _=>rfl) (λ_=>O0 (by decide))
 rw[hA]at a3;have e3:∀ss,(k+55)<<<(Vc::ss)>>>_=(k+55)<<<ss>>>_:=λss=>by rw[AJ,hfor];rfl
 have e7:∀ss,(k+55)<<<(.C3 (.nm 6) .op [.A0 .add [.A3 11,eu]] wO::ss)>>>_=(k+55)<<<ss>>>_:=λss=>by rw[AJ,hfor2];rfl
 have e:(k+55)<<<mI>>>[some (.b (.ro (ns.map .int))),none,none,none,none,none,none,none,none,none,none,none]= .ok (.ret (.p (.bl true))) [some (.b (.ro (ns.map .int))),sL (A9 xs),sL (A9 fs),y3,y4,y5,z6,y7,y8,z9,z10,sL A]:=by
  rw[cj];exact(Dr e19).trans ((Dr e20).trans ((e3 _).trans ((Dr YZ).trans ((Dr a2).trans ((Dr a3).trans ((e7 _).trans rfl))))))
 exact#[_,Af jG rfl rfl e rfl]
end Lk52
namespace Lk52
open Iv
theorem VX:∀ns:List Int,ns.length<=63->∃outs,~~~98 32 [.b (.ro (ns.map .int))]= .ok (.p (.bl true)) outs:=λns h=>aC (k:=42) ns h
end Lk52
open PySem PySem.W PyProof.Rows
set_option maxRecDepth 100000 in
set_option maxHeartbeats 0 in
theorem PySem.Challenge.cw_kinddeeds_k52_expressions_read_holds : PySem.Challenge.rw_kinddeeds_k52_expressions_read.Holds := by
  w_on; o_law; k_head; (case hw => w_witness2)
  k_fill
  refine Iv.walk (l := PySem.Challenge.rw_kinddeeds_k52_expressions_read) 63 200 [(293, 289), (307, 303)] rfl (by decide) rfl ⟨rfl, by decide, by decide⟩ (fun w h Y => PySem.W.km_in_of Y) (fun w h Y p hp => PySem.W.km_tabs_of Y p (by simp only [List.map_cons, List.map_nil, List.mem_cons, List.not_mem_nil, or_false] at hp ⊢; exact hp.symm)) ?F
  case F =>
    intro w mg fa h KX G hmg
    refine' Lk52.all_mk (by decide) Lk52.VX KX G hmg ?_ ?_ ?_ ?_ ?_ ?_ ?_ ?_ ?_ ?_ ?_ ?_ ?_ ?_ ?_ ?_ ?_ ?_ ?_ ?_ ?_ ?_ ?_ ?_ ?_ ?_ ?_ ?_ ?_ ?_ ?_ ?_ ?_ ?_ ?_ ?_ ?_ ?_ ?_ ?_ ?_ ?_ ?_ ?_ ?_ ?_ ?_ ?_ ?_ ?_ ?_ ?_ ?_ ?_ ?_ ?_ ?_ ?_ ?_ ?_ ?_ ?_ ?_ ?_ ?_ ?_ ?_ ?_ ?_ ?_ ?_ ?_ ?_ ?_ ?_ ?_ ?_ ?_ ?_ ?_ ?_ ?_ ?_ ?_ ?_ ?_ ?_ ?_ ?_ ?_ ?_ ?_ ?_ ?_ ?_ ?_ ?_ ?_
    all_goals first
      | k_is
      | exact ⟨by k_is, ⟨⟨_, _, _, _, _, _, _, _, _, rfl, by k_is, by k_is⟩, by k_is⟩⟩
      | exact ⟨by k_is, ⟨⟨_, _, _, _, _, _, _, _, _, rfl, by k_is, by k_is⟩, by k_is⟩, by k_is⟩
      | exact ⟨⟨_, _, _, _, _, _, _, _, _, rfl, by k_is, by k_is⟩, by k_is⟩
      | exact ⟨by k_is, by k_is, by k_is, by k_is⟩
      | exact ⟨by k_is, by k_is, by k_is, rfl⟩
      | rfl
      | kernel_rfl
      | (repeat first | exact Iv.Each.nil | refine Iv.Each.cons (by k_is) ?_)
