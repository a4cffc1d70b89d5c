import PyProof.Rows.All
import Wide.All
import OpenK.AllK
import Wide.FinOn
import Lean
import PyProof.EqAt
import PyProof.EqKinds
import PyProof.TupleCall
import PyProof.WalksMore
import PyProof.Rows.SetFrom
import PyProof.CompMap
import PyProof.ZipIter
import KE.IntTextLaws
import KE.KIntText
import KE.KDictSum
import KE.KLam
import PyProof.StationsW
import PyProof.InstStoreFacts
import PyProof.ExcBaseAll.ValueError
import PySem.Challenge.RW_kinddeeds_k50_kinds_written
set_option Elab.async false
set_option linter.all false
set_option compiler.extract_closed false
set_option genSizeOf false
set_option maxRecDepth 100000
set_option maxHeartbeats 4000000
noncomputable section
namespace PySem.W.Fast
theorem tw13268657588908478898:True:=⟨⟩
theorem tw13707364767601545667:True:=⟨⟩
theorem tw12917829246717694245:True:=⟨⟩
theorem tw9305134771734965479:True:=⟨⟩
theorem tw11929095413163190590:True:=⟨⟩
theorem tw8156516300466268582:True:=⟨⟩
theorem tw1709122985415471990:True:=⟨⟩
theorem tw3811269346261819360:True:=⟨⟩
theorem tw9555794503711944681:True:=⟨⟩
theorem tw13361159645271752572:True:=⟨⟩
theorem tw14945858796677680467:True:=⟨⟩
theorem tw7185978609311245076:True:=⟨⟩
theorem tw17356471517838388139:True:=⟨⟩
theorem tw2854638101931305231:True:=⟨⟩
theorem tw6823867228712255750:True:=⟨⟩
theorem tw2971367577974711907:True:=⟨⟩
theorem tw16189581289177631177:True:=⟨⟩
theorem tw13079635972344512628:True:=⟨⟩
theorem tw2071474873948842824:True:=⟨⟩
theorem tw14903067747157867382:True:=⟨⟩
theorem tw7476805386800265847:True:=⟨⟩
theorem tw5277572670477399765:True:=⟨⟩
theorem tw10941743382929072188:True:=⟨⟩
theorem tw11721256463997333303:True:=⟨⟩
theorem tw15615074788264674714:True:=⟨⟩
theorem tw17308746471805761584:True:=⟨⟩
theorem tw3724528473071949645:True:=⟨⟩
theorem tw465526339678972631:True:=⟨⟩
theorem tw11081064140271888869:True:=⟨⟩
theorem tw14937945176323011793:True:=⟨⟩
theorem tw17502746918586056492:True:=⟨⟩
theorem tw14308149301044329424:True:=⟨⟩
theorem tw9610402549311405347:True:=⟨⟩
theorem tw97805179721694305:True:=⟨⟩
theorem tw18046543288670208632:True:=⟨⟩
theorem tw15593589684429172999:True:=⟨⟩
theorem tw206979987869009402:True:=⟨⟩
theorem tw3910832524222520409:True:=⟨⟩
theorem tw17825213580993454565:True:=⟨⟩
theorem tw13748792911567135237:True:=⟨⟩
theorem tw18221961174081077510:True:=⟨⟩
theorem tw1212967571271027791:True:=⟨⟩
theorem tw4014853581265490948:True:=⟨⟩
theorem tw17826316080208721326:True:=⟨⟩
theorem tw8412627320279838143:True:=⟨⟩
theorem tw2273495847694521299:True:=⟨⟩
theorem tw16092129689957844542:True:=⟨⟩
theorem tw12261787982716769401:True:=⟨⟩
theorem tw14456823191182767200:True:=⟨⟩
theorem tw11660033170096185195:True:=⟨⟩
theorem tw16650051804552767022:True:=⟨⟩
theorem tw5892638744646982498:True:=⟨⟩
theorem tw5758679181302368593:True:=⟨⟩
theorem tw15641259355948046648:True:=⟨⟩
theorem tw16202910297652696445:True:=⟨⟩
theorem tw15577030341140664438:True:=⟨⟩
theorem tw6589409076048571987:True:=⟨⟩
theorem tw2726759138633675168:True:=⟨⟩
theorem tw13000263127824932096:True:=⟨⟩
theorem tw7484992930556459314:True:=⟨⟩
theorem tw5183872295720713315:True:=⟨⟩
theorem tw2816755943338584307:True:=⟨⟩
theorem tw4338259195930284885:True:=⟨⟩
theorem tw3583368870530113806:True:=⟨⟩
theorem tw15553142044385010657:True:=⟨⟩
theorem tw15898201580924621199:True:=⟨⟩
theorem tw12310950291994677:True:=⟨⟩
theorem tw15309882398005524547:True:=⟨⟩
theorem tw13530562666066349284:True:=⟨⟩
theorem tw16810362545211288899:True:=⟨⟩
theorem tw6921827696886592465:True:=⟨⟩
theorem tw16785206664536906378:True:=⟨⟩
theorem tw10214778500832580967:True:=⟨⟩
theorem tw11920157278895554701:True:=⟨⟩
theorem tw1218513602738731225:True:=⟨⟩
theorem tw12244946735787309471:True:=⟨⟩
theorem tw9549837821838749343:True:=⟨⟩
theorem tw10771357499931305815:True:=⟨⟩
theorem tw3245127936174503503:True:=⟨⟩
theorem tw5574643790318650665:True:=⟨⟩
theorem tw3230080492258500134:True:=⟨⟩
theorem tw6687137074899122772:True:=⟨⟩
theorem tw17066364204236303775:True:=⟨⟩
theorem tw18268875655645905589:True:=⟨⟩
theorem tw3781907142470673974:True:=⟨⟩
theorem tw104155208572567836:True:=⟨⟩
theorem tw12699233332174891216:True:=⟨⟩
theorem tw10675900338715681251:True:=⟨⟩
theorem tw9997990944912560979:True:=⟨⟩
theorem tw15977671777080807179:True:=⟨⟩
theorem tw3759628383424910492:True:=⟨⟩
theorem tw13296966470985741370:True:=⟨⟩
theorem tw15801645782628009509:True:=⟨⟩
theorem tw15778281261157636391:True:=⟨⟩
theorem tw12481881972656849114:True:=⟨⟩
theorem tw11729108069017223639:True:=⟨⟩
theorem tw5966885394655237961:True:=⟨⟩
theorem tw10670311078034298721:True:=⟨⟩
theorem tw16221213680608530523:True:=⟨⟩
theorem tw15992506463622970938:True:=⟨⟩
theorem tw7219996207090120110:True:=⟨⟩
theorem tw6953417645285798766:True:=⟨⟩
theorem tw6206160132061615304:True:=⟨⟩
theorem tw14779341167761074716:True:=⟨⟩
theorem tw7791719404568456524:True:=⟨⟩
theorem tw3077256749640159610:True:=⟨⟩
theorem tw3037534471858738473:True:=⟨⟩
theorem tw13553857312312780758:True:=⟨⟩
theorem tw8438663319320875180:True:=⟨⟩
theorem tw677715046115760368:True:=⟨⟩
theorem tw7573214466197985769:True:=⟨⟩
theorem tw11758867090258677243:True:=⟨⟩
theorem tw3503438256512465034:True:=⟨⟩
theorem tw16908188622449626702:True:=⟨⟩
theorem tw11093691515294945191:True:=⟨⟩
theorem tw7270117287458224467:True:=⟨⟩
theorem tw2016728459488411438:True:=⟨⟩
theorem tw14437182871188379905:True:=⟨⟩
theorem tw7466636325177980528:True:=⟨⟩
theorem tw9134392624092917990:True:=⟨⟩
theorem tw10186402249105710710:True:=⟨⟩
theorem tw10286514010004005498:True:=⟨⟩
theorem tw1557148715015160901:True:=⟨⟩
theorem tw10702591098738383321:True:=⟨⟩
theorem tw12824696131272573463:True:=⟨⟩
theorem tw7140510097203525182:True:=⟨⟩
theorem tw11200528289446004135:True:=⟨⟩
theorem tw6399257503605346944:True:=⟨⟩
theorem tw17390610085739736469:True:=⟨⟩
theorem tw6166377094692895711:True:=⟨⟩
theorem tw5611552507365741935:True:=⟨⟩
theorem tw9146717639256304225:True:=⟨⟩
theorem tw12971882466018955407:True:=⟨⟩
theorem tw3452183249686573913:True:=⟨⟩
theorem tw5941027020474147528:True:=⟨⟩
theorem tw1847023389503087157:True:=⟨⟩
theorem tw1753643241671142481:True:=⟨⟩
theorem tw14975612937540208352:True:=⟨⟩
theorem tw7701162522568680790:True:=⟨⟩
theorem tw13964697740784017718:True:=⟨⟩
theorem tw560370593151468289:True:=⟨⟩
theorem tw6547248544162508125:True:=⟨⟩
theorem tw17820693078965224794:True:=⟨⟩
theorem tw17572236649249043195:True:=⟨⟩
theorem tw4577790179627456135:True:=⟨⟩
theorem tw3033918741925216626:True:=⟨⟩
theorem tw7567476250281665888:True:=⟨⟩
theorem tw830574948798697367:True:=⟨⟩
theorem tw12191864559365933399:True:=⟨⟩
theorem tw16749340945630204649:True:=⟨⟩
theorem tw10654342076476990891:True:=⟨⟩
theorem tw9211818634881824422:True:=⟨⟩
theorem tw14454807208794346583:True:=⟨⟩
theorem tw5937671406702862547:True:=⟨⟩
theorem tw10322841240696233614:True:=⟨⟩
theorem tw10827111788717256672:True:=⟨⟩
theorem tw5263429652888111317:True:=⟨⟩
theorem tw3190284325359133638:True:=⟨⟩
theorem tw2036630677163968392:True:=⟨⟩
theorem tw13212683428816494407:True:=⟨⟩
theorem tw3927106215289634044:True:=⟨⟩
theorem tw18343667693112121848:True:=⟨⟩
theorem tw16311773002188219264:True:=⟨⟩
theorem tw9631607648941699387:True:=⟨⟩
theorem tw17396919301729012733:True:=⟨⟩
theorem tw17048430089859140351:True:=⟨⟩
theorem tw17213486121197441910:True:=⟨⟩
theorem tw8003643914847415102:True:=⟨⟩
theorem tw6292301299950597135:True:=⟨⟩
theorem tw17967081417072581939:True:=⟨⟩
theorem tw2969571388357558150:True:=⟨⟩
theorem tw13767275989886089114:True:=⟨⟩
theorem tw10275918900356707909:True:=⟨⟩
theorem tw11663160704130535656:True:=⟨⟩
theorem tw2856055740749891620:True:=⟨⟩
theorem tw8366493644080282363:True:=⟨⟩
theorem tw1620824568182931514:True:=⟨⟩
theorem tw9678338856671853151:True:=⟨⟩
theorem tw13652173883177078897:True:=⟨⟩
theorem tw341689682428845219:True:=⟨⟩
theorem tw13149724787900659824:True:=⟨⟩
theorem tw2246431485936394761:True:=⟨⟩
theorem tw4071922411459389314:True:=⟨⟩
theorem tw3624653595401832700:True:=⟨⟩
theorem tw5224169807340251803:True:=⟨⟩
theorem tw3641726776312586796:True:=⟨⟩
theorem tw8677297835566691720:True:=⟨⟩
theorem tw9471968197461885275:True:=⟨⟩
theorem tw3314793950338470160:True:=⟨⟩
theorem tw17752846100263522501:True:=⟨⟩
theorem tw16627579177801378370:True:=⟨⟩
theorem tw7645142908596953383:True:=⟨⟩
theorem tw14402342867243170590:True:=⟨⟩
theorem tw8135411522017053223:True:=⟨⟩
theorem tw90705206245362182:True:=⟨⟩
theorem tw9163925352176577828:True:=⟨⟩
theorem tw8281703270525035261:True:=⟨⟩
theorem tw10301210159879457609:True:=⟨⟩
theorem tw3633896647603268344:True:=⟨⟩
theorem tw5609316975946564182:True:=⟨⟩
theorem tw9127742340540650695:True:=⟨⟩
theorem tw4388065259053400094:True:=⟨⟩
theorem tw1787869662105431805:True:=⟨⟩
theorem tw13093923481402633960:True:=⟨⟩
theorem tw10753232957445021660:True:=⟨⟩
theorem tw6989022891542665114:True:=⟨⟩
theorem tw452692620154102864:True:=⟨⟩
theorem tw6057026929331528034:True:=⟨⟩
theorem tw3891276588169066676:True:=⟨⟩
theorem tw2085921879981475721:True:=⟨⟩
theorem tw6949394276607983649:True:=⟨⟩
theorem tw7640352717748170953:True:=⟨⟩
theorem tw2040969877444281470:True:=⟨⟩
theorem tw7383587473985913459:True:=⟨⟩
theorem tw71993357242927932:True:=⟨⟩
theorem tw2547872716023259852:True:=⟨⟩
theorem tw6660212836575339951:True:=⟨⟩
theorem tw14908486280021663548:True:=⟨⟩
theorem tw8574158431686152767:True:=⟨⟩
theorem tw3718022339765533414:True:=⟨⟩
theorem tw9796881369831594748:True:=⟨⟩
theorem tw12356362936100227107:True:=⟨⟩
theorem tw16445482139410965933:True:=⟨⟩
theorem tw1806983184276496899:True:=⟨⟩
theorem tw5254725059455986731:True:=⟨⟩
theorem tw2328414317633581838:True:=⟨⟩
theorem tw6385511390195979034:True:=⟨⟩
theorem tw15336606471826556190:True:=⟨⟩
theorem tw16073468716797401844:True:=⟨⟩
theorem tw5806195641492794286:True:=⟨⟩
theorem tw5799159942533361188:True:=⟨⟩
theorem tw129781100348287574:True:=⟨⟩
theorem tw5792666510049774043:True:=⟨⟩
theorem tw6511863662792265809:True:=⟨⟩
theorem tw1534671166845325343:True:=⟨⟩
theorem tw8320473264558511781:True:=⟨⟩
theorem tw14553082005021513291:True:=⟨⟩
theorem tw7709330579935900107:True:=⟨⟩
theorem tw15450432785832595888:True:=⟨⟩
theorem tw13697012812411067749:True:=⟨⟩
theorem tw16886185165343912771:True:=⟨⟩
theorem tw13989841578375625882:True:=⟨⟩
theorem tw1039191070040024858:True:=⟨⟩
theorem tw5693891145005013511:True:=⟨⟩
theorem tw4399680200760203708:True:=⟨⟩
theorem tw16156404340007367214:True:=⟨⟩
theorem tw9654998015822098408:True:=⟨⟩
theorem tw6033074306320327249:True:=⟨⟩
theorem tw2282135949749583087:True:=⟨⟩
theorem tw264660827605870438:True:=⟨⟩
theorem tw2435326095325369741:True:=⟨⟩
theorem tw925771160362531575:True:=⟨⟩
theorem tw11912837965874874528:True:=⟨⟩
theorem tw8726573271565480989:True:=⟨⟩
theorem tw1777977088559663508:True:=⟨⟩
theorem tw16853399718506983795:True:=⟨⟩
theorem tw17700007950905933490:True:=⟨⟩
theorem tw1657766143681316500:True:=⟨⟩
theorem tw18262375936352526559:True:=⟨⟩
theorem tw7950032200314528783:True:=⟨⟩
theorem tw17626231231562067248:True:=⟨⟩
theorem tw13382874207287868199:True:=⟨⟩
theorem tw2533992247576712992:True:=⟨⟩
theorem tw11337854189596780040:True:=⟨⟩
theorem tw17443786341066683564:True:=⟨⟩
theorem tw4602378626229834321:True:=⟨⟩
theorem tw5202646404064241970:True:=⟨⟩
theorem tw11735395264314891203:True:=⟨⟩
theorem tw11741169576618309689:True:=⟨⟩
end PySem.W.Fast
open List (mem_cons nodup_append mem_filter mem_range filterMap_cons mem_append mem_filterMap size_toArray map_cons append_nil nodup_cons of_mem_zip length_take length_drop length_nil any_cons map_nil lookup_cons all_eq_true getElem_mem append_assoc perm_append_comm ext_getElem? set_set length_eq_zero_iff length_set zip_cons_cons all_cons foldl_cons nil_append not_lt length_range length_reverse map_congr_left foldl_append contains_cons map_map mem_map_of_mem mem_map not_mem_nil reverse_cons reverse_reverse)
open PySem.W (instObj methodObj hideAll hideAll_size hideAll_get of_hideAll hideAll_none lookIn InstAt plainGet hasDictIn findIn handedIn plainGet_of findObj_own isFn plainOver takerIn set_plain any_some Looks looks_clsIn makesIn typeIn InitBack emptyDict looks_findIn bind_fn keepIn callWith_K callWith_K0 cellsFrom_some codeIn codeRec_of kitOne kia_one kitx_none kitx_bool kitx_int kitx_str kitx_tuple clsIn looks_mroIn mroIn check_slot osa_eq handed_on notCls specialIn takesIn KitX kitAny methodCall_KW CodeHd kla_fn tabObj envX codeHdIn codeHd_of_K subIn kitCls nsIn mg_of)
theorem mS{α:Type}{a:α}{l:List α}:a∈a::l:=List.mem_cons_self
theorem mC{α:Type}{a b:α}{l:List α}(h:b∈l):b∈a::l:=List.mem_cons_of_mem a h
theorem mL{α:Type}{a:α}{l m:List α}(h:a∈l):a∈l++m:=List.mem_append_left m h
theorem mR{α:Type}{a:α}{l m:List α}(h:a∈m):a∈l++m:=List.mem_append_right l h
theorem mE{α:Type}{a b:α}(h:a∈[b]):a=b:=List.mem_singleton.mp h
theorem mK{α:Type}{a b:α}{l:List α}(h:a∈b::l):a=b\/a∈l:=mem_cons.mp h
theorem dF{p:Prop}[Decidable p](h:¬p):decide p=false:=decide_eq_false h
theorem oB{α β:Type}{x:Option α}{f:α->Option β}{b:β}(h:x.bind f=some b):∃a,x=some a/\f a=some b:=Option.bind_eq_some_iff.mp h
theorem oM{α β:Type}{x:Option α}{f:α->β}{b:β}(h:x.map f=some b):∃a,x=some a/\f a=b:=Option.map_eq_some_iff.mp h
theorem lR{n:Nat}:n<=n:=Nat.le_refl n
theorem lA{α:Type}{a b:List α}:(a++b).length=a.length+b.length:=List.length_append
theorem lS{α:Type}{a:α}:[a].length=1:=rfl
theorem lC{α:Type}{a:α}{l:List α}:(a::l).length=l.length+1:=rfl
theorem lM{α β:Type}{f:α->β}{l:List α}:(l.map f).length=l.length:=List.length_map f
theorem bA(a b:Bool):((a&&b)=true)=(a=true/\b=true):=Bool.and_eq_true a b
theorem PySem.wP{α:Type}{M:PySem.Model}{A:PySem.Around}{E:PySem.Value->PySem.Shared->Prop}{s:PySem.Shared}{a:α}{Q:α->PySem.Shared->Prop}(h:Q a s):PySem.wpAny M A (pure a) Q E s:=PySem.wpAny_pure h
theorem PySem.gP{h:PySem.Heap}{b:PySem.Addr}{o u:PySem.Obj}(e:h.get? b=some u):(h.push o).get? b=some u:=PySem.Heap.get?_push_of_some o e
theorem iP{c:Prop}{i:Decidable c}(h:c){α:Type}{t e:α}:(@ite α c i t e)=t:=if_pos h
theorem iN{c:Prop}{i:Decidable c}(h:¬c){α:Type}{t e:α}:(@ite α c i t e)=e:=if_neg h
theorem nA{α:Type}{l m:List α}(h:(l++m).Nodup):l.Nodup/\m.Nodup/\∀a∈l,∀b∈m,a≠b:=nodup_append.mp h
namespace L2
open PySem PySem.Spec PyProof.Rows
abbrev Key:=Sum Int Str
def HI:Key->Value->Bool
 |.inl k,v=>Value.isInt k v
 |.inr x,v=>Value.isStrOf x v
def iU(w:World):Key->Int
 |.inl k=>hashInt k
 |.inr x=>hashStr w x
theorem AV:∀{k:Key} {v:Value},HI k v=true->(∃i t,k=Sum.inl i/\v=Value.int i t)\/(∃x t,k=Sum.inr x/\v=Value.str x t)
 | .inl i,v,h=>by
   obtain⟨t,e⟩:=Value.isInt_shape (k:=i) (v:=v) h;exact .inl ⟨i,t,rfl,e⟩
 | .inr x,v,h=>by
   obtain⟨t,e⟩:=Value.isStrOf_shape (x:=x) (v:=v) h;exact .inr ⟨x,t,rfl,e⟩
theorem Oh(i:Int)(t:Tok):HI (.inl i) (.int i t)=true:=by simp[HI,Value.isInt]
theorem Og(x:Str)(t:Tok):HI (.inr x) (.str x t)=true:=by simp[HI,Value.isStrOf]
theorem Yr(a b:Int):decide ((Sum.inl a:Key)=Sum.inl b)=(a == b):=by
 by_cases e:a=b
 .subst e;simp
 .have h:¬(Sum.inl a:Key)=Sum.inl b:=λq=>e (Sum.inl.inj q)
  rw[dF h];exact(beq_eq_false_iff_ne.mpr e).symm
theorem Yo(a b:Str):decide ((Sum.inr a:Key)=Sum.inr b)=decide (a=b):=by
 by_cases e:a=b
 .subst e;simp
 .have h:¬(Sum.inr a:Key)=Sum.inr b:=λq=>e (Sum.inr.inj q)
  rw[dF h,dF e]
theorem Yq(a:Int)(b:Str):decide ((Sum.inl a:Key)=Sum.inr b)=false:=dF (λq=>nomatch q)
theorem Yp(a:Str)(b:Int):decide ((Sum.inr a:Key)=Sum.inl b)=false:=dF (λq=>nomatch q)
noncomputable def AU(prog:Program)(w:World):PySem.KeyKind prog w Key where
 is:=HI
 hash:=iU w
 inj :=λv a b ha hb=>by
  rcases AV ha with⟨i,t,rfl,rfl⟩|⟨x,t,rfl,rfl⟩
  .rcases AV hb with⟨j,u,rfl,e⟩|⟨y,u,rfl,e⟩
   .injection e with e1 _;rw[e1]
   .exact nomatch e
  .rcases AV hb with⟨j,u,rfl,e⟩|⟨y,u,rfl,e⟩
   .exact nomatch e
   .injection e with e1 _;rw[e1]
 byValue:=λk v h=>by
  rcases AV h with⟨i,t,rfl,rfl⟩|⟨x,t,rfl,rfl⟩<;>rfl
 pyHash:=λhv h=>by
  rcases AV hv with⟨i,t,rfl,rfl⟩|⟨x,t,rfl,rfl⟩
  .exact wpAny_pyHash_int h
  .exact wpAny_pyHash_str h
 eqBool:=λhu hv h=>by
  rcases AV hu with⟨i,t,rfl,rfl⟩|⟨x,t,rfl,rfl⟩
  .rcases AV hv with⟨j,u,rfl,rfl⟩|⟨y,u,rfl,rfl⟩
   .rw[Yr]at h;exact wpAny_eqBool_int h
   .rw[Yq]at h;exact SeqAt.EqAt.int_str i t y u _ _ _ _ h
  .rcases AV hv with⟨j,u,rfl,rfl⟩|⟨y,u,rfl,rfl⟩
   .rw[Yp]at h;exact SeqAt.EqAt.str_int x t j u _ _ _ _ h
   .rw[Yo]at h;exact wpAny_eqBool_str h
 «strs»:=λk x t v h=>by
  rcases AV h with⟨i,u,rfl,e⟩|⟨y,u,rfl,e⟩
  .exact nomatch e
  .injection e with e1 _
   subst e1;cases v<;>rfl
theorem K6(prog:Program)(w:World)(i:Int)(t:Tok):(AU prog w).is (.inl i) (.int i t)=true:=Oh i t
theorem K5(prog:Program)(w:World)(x:Str)(t:Tok):(AU prog w).is (.inr x) (.str x t)=true:=Og x t
inductive V where
 |Ai|bl (b:Bool)|int (i:Int)|str (x:Str)|WE (b:Array UInt8)|gg (b:UInt64)|ref (a:Addr)|ty (n:String)
 deriving DecidableEq
noncomputable def RelV:V->Value->Prop
 |.Ai,u=>u=Value.none
 |.bl b,u=>u=Value.bool b
 |.int i,u=>∃t,u=Value.int i t
 |.str x,u=>∃t,u=Value.str x t
 |.WE b,u=>∃t,u=Value.bytes b t
 |.gg b,u=>∃t,u=Value.float b t
 |.ref a,u=>u=Value.ref a
 |.ty n,u=>u=Value.type n
abbrev Vals:List V->List Value->Prop:=Paired RelV
variable{us:List Value}
theorem Vals.length{xs:List V}(r:Vals xs us):xs.length=us.length:=Paired.length r
theorem Vals.get:∀{xs:List V} {us:List Value} {i:Nat} {x:V},Vals xs us->xs[i]? =some x->∃u,us[i]? =some u/\RelV x u
 |_,_,_,_,.nil,e=>by simp at e
 |_,_,0,_,.cons r _,e=>by simp at e;subst e;exact⟨_,rfl,r⟩
 | _,_,i + 1,x,.cons _ t,e=>by
   obtain⟨u,h1,h2⟩:=Vals.get (i:=i) (x:=x) t (by simpa using e);exact⟨u,by simpa using h1,h2⟩
theorem Vals.append:∀{xs ys:List V} {us ws:List Value},Vals xs us->Vals ys ws->Vals (xs++ys) (us++ws)
 |_,_,_,_,.nil,s=>s
 |_,_,_,_,.cons r t,s=>.cons r (Vals.append t s)
theorem Vals.take:∀{xs:List V} {us:List Value} (n:Nat),Vals xs us->Vals (xs.take n) (us.take n)
 |_,_,0,_=>.nil
 |_,_,_+1,.nil=>.nil
 |_,_,n+1,.cons r t=>.cons r (Vals.take n t)
theorem Vals.drop:∀{xs:List V} {us:List Value} (n:Nat),Vals xs us->Vals (xs.drop n) (us.drop n)
 |_,_,0,r=>r
 |_,_,_+1,.nil=>.nil
 |_,_,n+1,.cons _ t=>Vals.drop n t
def Fe:Option V->Option Value->Prop
 |some v,some u=>RelV v u
 |none,none=>True
 |_,_=>False
def KV{κ:Type}:List (κ×V)->List (κ×Value)->Prop:=Paired λ(p:κ×V) (q:κ×Value)=>p.1=q.1/\RelV p.2 q.2
def kV:Key->V
 |.inl i=>.int i
 |.inr x=>.str x
inductive HO where
 |lst (xs:List V)
 |tup (xs:List V)
 |dK (kvs:List (Key×V))|dT (kvs:List (List Key×V))
 |set (S:Int->Bool)(n:Nat)
 |ins (C dx:Addr)(fs:List (Str×V))
 |own (x:Addr)
 |xd (fs:List (Str×V))
 |met (f x:Addr)
 |BZ (lo hi:Int)
 |Dl (o:Obj)(u:HO)
 |Iy (ps:Array Value)
 |ext (φ:Heap->Prop)
abbrev Hp:=Addr->Option HO
def upd(H:Hp)(a:Addr)(o:HO):Hp:=λb=>if b=a then some o else H b
variable{H:Hp}
theorem Ac:upd H a o a=some o:=by unfold upd;rw[iP rfl]
theorem A5{a b:Addr}(h:b≠a):upd H a o b=H b:=by unfold upd;rw[iN h]
theorem Mm:upd (upd H a o) a u=upd H a u:=by
 funext b;unfold upd;split<;>rfl
theorem Av{o:HO}(h:H a=some o)(h':H b=none):a≠b:=by
 intro e;subst e;rw[h]at h';cases h'
section
variable (P:Program)(w:World)
noncomputable def Bc(H:Hp)(h:Heap)(a:Addr):HO->Prop
 |.lst xs=>xs.length<=sizeLine/\∃(its:List Value) (n:Nat),Vals xs its/\h.get? a=some {cls:=.type "list",data:=.seq its.toArray n}
 |.tup xs=>xs.length<=sizeLine/\∃its:List Value,Vals xs its/\IsTup h a its.toArray
 |.dK kvs=>kvs.length<=sizeLine/\(a == sysModules)=false/\∃vs,KV kvs vs/\h.DictOf (AU P w) a vs
 | .dT kvs=>kvs.length<=sizeLine/\(a == sysModules)=false/\∃xs:List (List Key×Addr×Value),
  Paired (λ(p:List Key×V) (q:List Key×Addr×Value)=>p.1=q.1/\H q.2.1=some (.tup (p.1.map kV))/\RelV p.2 q.2.2) kvs xs/\
  ∃o es ep,h.get? a=some o/\o.ExactDict/\o.data= .dict es ep/\es.toList=xs.map (entryOfKey (tupleKind (AU P w)))/\(xs.map (·.1)).Nodup
 |.set S n=>h.SetOf (intKind P w) a S n
 | .ins C dx fs=>H dx=some (.own a)/\fs.length<=1000/\dx≠a/\h.get? a=some (instObj C dx)/\
  ∃mA,h.Ns1 dx mA/\(∀f,Fe (fs.lookup f) (mA f))/\PySem.Within mA (fs.map (·.1))
 |.own _=>∃o,h.get? a=some o
 |.xd fs=>∃mA,h.Ns1 a mA/\∀f,Fe (fs.lookup f) (mA f)
 |.BZ lo hi=>∃t u v,h.get? a=some {cls:=.type "range",data:=.fields #[.int lo t,.int hi u,.int 1 v]}
 |.Dl o u=>h.get? a=some o/\Bc H h a u
 |.Iy ps=>h.get? a=some {cls:=.none,data:=.fields ps}
 |.met f x=>h.get? a=some (methodObj (.ref f) (.ref x))
 |.ext φ=>φ h/\(∃o,h.get? a=some o)/\∀h1 h2:Heap,φ h1->(∀o,h1.get? a=some o->h2.get? a=some o)->φ h2
def Dm(H:Hp)(h:Heap):Prop:=∀a o,H a=some o->Bc P w H h a o
end
section
variable{P:Program}{w:World}{H H':Hp}{h h':Heap}{a:Addr}{o:HO}
theorem Bc.lt(x:Bc P w H h a o):a < h.objs.size:=by
 cases o with
 |lst xs=>obtain⟨_,_,_,_,e⟩:=x;exact Heap.lt_size e
 |tup xs=>obtain⟨_,_,_,p⟩:=x;exact p.lt
 |dK kvs=>obtain⟨_,_,_,_,o,_,_,e,_⟩:=x;exact Heap.lt_size e
 |dT kvs=>obtain⟨_,_,_,_,o,_,_,e,_⟩:=x;exact Heap.lt_size e
 |set S n=>obtain⟨o,_,_,_,e,_⟩:=x;exact Heap.lt_size e
 |ins C dx fs=>obtain⟨_,_,_,e,_⟩:=x;exact Heap.lt_size e
 |own y=>obtain⟨_,e⟩:=x;exact Heap.lt_size e
 |xd fs=>obtain⟨_,⟨_,_,_,e,_⟩,_⟩:=x;exact Heap.lt_size e
 |BZ lo hi=>obtain⟨_,_,_,e⟩:=x;exact Heap.lt_size e
 |Dl ob u=>obtain⟨e,_⟩:=x;exact Heap.lt_size e
 |Iy ps=>exact Heap.lt_size (show h.get? a=some _ from x)
 |met f y=>exact Heap.lt_size (show h.get? a=some _ from x)
 |ext φ=>obtain⟨_,⟨_,e⟩,_⟩:=x;exact Heap.lt_size e
theorem Paired.Yi{α β:Type}{F G:α->β->Prop}:∀{l₁:List α} {l₂:List β},Paired F l₁ l₂->(∀a b,F a b->G a b)->Paired G l₁ l₂
 |_,_,.nil,_=>.nil
 |_,_,.cons r t,f=>.cons (f _ _ r) (Paired.Yi t f)
theorem Bc.CJ(x:Bc P w H h a o)(k:∀b u,(b=a\/H b=some (.own a))->h.get? b=some u->h'.get? b=some u)
 (ho:∀b,H b=some (.own a)->H' b=some (.own a))(ht:∀b xs,H b=some (.tup xs)->H' b=some (.tup xs)):Bc P w H' h' a o:=by
 induction o with
 |lst xs=>obtain⟨z,its,n,r,e⟩:=x;exact⟨z,its,n,r,k _ _ (.inl rfl) e⟩
 |tup xs=>obtain⟨z,its,r,ob,e,c⟩:=x;exact⟨z,its,r,ob,k _ _ (.inl rfl) e,c⟩
 |dK kvs=>obtain⟨z,y,vs,r,ob,es,ep,e,c⟩:=x;exact⟨z,y,vs,r,ob,es,ep,k _ _ (.inl rfl) e,c⟩
 |dT kvs=>
   obtain⟨z,y,xs,r,ob,es,ep,e,c⟩:=x;exact⟨z,y,xs,Paired.Yi r λp q z=>⟨z.1,ht _ _ z.2.1,z.2.2⟩,ob,es,ep,k _ _ (.inl rfl) e,c⟩
 |set S n=>obtain⟨ob,es,ep,t,e,c⟩:=x;exact⟨ob,es,ep,t,k _ _ (.inl rfl) e,c⟩
 |ins C dx fs=>
   obtain⟨d,z,ne,e,mA,⟨od,es,ep,e2,c⟩,r⟩:=x;exact⟨ho _ d,z,ne,k _ _ (.inl rfl) e,mA,⟨od,es,ep,k _ _ (.inr d) e2,c⟩,r⟩
 |own y=>obtain⟨ob,e⟩:=x;exact⟨ob,k _ _ (.inl rfl) e⟩
 |xd fs=>obtain⟨mA,⟨od,es,ep,e,c⟩,r⟩:=x;exact⟨mA,⟨od,es,ep,k _ _ (.inl rfl) e,c⟩,r⟩
 |BZ lo hi=>obtain⟨t,u,v,e⟩:=x;exact⟨t,u,v,k _ _ (.inl rfl) e⟩
 |Dl ob u ih=>obtain⟨e,q⟩:=x;exact⟨k _ _ (.inl rfl) e,ih q⟩
 |Iy ps=>
   have e:h.get? a=some {cls:=.none,data:=.fields ps}:=x;show h'.get? a=some {cls:=.none,data:=.fields ps};exact k a _ (.inl rfl) e
 |met f y=>
   have e:h.get? a=some (methodObj (.ref f) (.ref y)):=x;show h'.get? a=some (methodObj (.ref f) (.ref y));exact k a _ (.inl rfl) e
 |ext φ=>obtain⟨p,⟨o,e⟩,st⟩:=x;exact⟨st _ _ p λo q=>k _ _ (.inl rfl) q,⟨o,k _ _ (.inl rfl) e⟩,st⟩
theorem Dm.lt(x:Dm P w H h)(e:H a=some o):a < h.objs.size:=(x a o e).lt
theorem Dm.fresh(x:Dm P w H h)(e:h.objs.size<=a):H a=none:=by
 cases q:H a with
 |none=>rfl
 |some u=>exact absurd (Nat.lt_of_lt_of_le (x.lt q) e) (Nat.lt_irrefl _)
theorem Dm.kept(x:Dm P w H h)(k:∀b u,h.get? b=some u->h'.get? b=some u):Dm P w H h':=λa o e=>
 (x a o e).CJ (λb u _ q=>k b u q) (λ_ q=>q) λ_ _ q=>q
theorem Dm.laid(x:Dm P w H h)(k:∀b u,h.get? b=some u->h'.get? b=some u)(hp:h.objs.size<=a)(new:Bc P w (upd H a o) h' a o):Dm P w (upd H a o) h':=λb u e=>by
 have hn:=x.fresh hp
 by_cases hb:b=a
 .subst hb;rw[Ac]at e;cases e;exact new
 .rw[A5 hb]at e;exact(x b u e).CJ (λc v _ q=>k c v q) (λc q=>by rw[A5 (Av q hn)];exact q) λc xs q=>by rw[A5 (Av q hn)];exact q
end
def Rd(H:Hp)(a:Addr)(u:HO):Prop:=H a=some u\/∃o,H a=some (.Dl o u)
variable{w:World}{h:Heap}
theorem Rd.ok{P:Program}(r:Rd H a u)(x:Dm P w H h):Bc P w H h a u:=by
 rcases r with r|⟨o,r⟩
 .exact x a u r
 .obtain⟨_,q⟩:=x a _ r;exact q
noncomputable def fE:Option HO->Prop
 |some (.lst _)=>True
 |some (.dK _)=>True
 |some (.dT _)=>True
 |some (.set _ _)=>True
 |some (.ins _ _ _)=>True
 |some (.ext _)=>True
 |_=>False
section
variable{P:Program}{w:World}{H:Hp}{h h':Heap}{x e:Addr}{o':HO}
theorem Dm.write(ok:Dm P w H h)(mu:fE (H x))(he:e=x\/H e=some (.own x))(k:∀b u,b≠e->h.get? b=some u->h'.get? b=some u)(heo:∃u,h'.get? e=some u)
 (new:Bc P w (upd H x o') h' x o'):Dm P w (upd H x o') h':=λb u q=>by
 have nown:∀c y,H c=some (.own y)->c≠x:=λc y r z=>by subst z;rw[r]at mu;exact mu
 have ntup:∀c xs,H c=some (.tup xs)->c≠x:=λc xs r z=>by subst z;rw[r]at mu;exact mu
 by_cases hb:b=x
 .subst hb;rw[Ac]at q;cases q;exact new
 .rw [A5 hb]at q
  by_cases hbe:b=e
  .have q':H b=some (.own x):=by
    rcases he with z|z
    .exact absurd (hbe.trans z) hb
    .rw[hbe];exact z
   rw[q]at q';cases q';obtain⟨v,hv⟩:=heo;exact⟨v,by rw[hbe];exact hv⟩
  .refine(ok b u q).CJ (λc v hc r=>k c v ?_ r) (λc r=>by rw[A5 (nown c b r)];exact r) λc xs r=>by rw[A5 (ntup c xs r)];exact r
   rcases hc with rfl|hc
   .exact hbe
   .rintro rfl
    rcases he with z|z
    .exact nown c b hc z
    .rw[hc]at z;cases z;exact hb rfl
end
structure Un(fs ex:List Addr)(H H':Hp)(h h':Heap):Prop where
 keep:∀b o,h.get? b=some o->H b=none->b∉fs->b∉ex->h'.get? b=some o
 slot:∀b o,h.get? b=some o->H b=none->b∈fs->b∉ex->∃sl,h'.get? b=some {o with slots:=sl}
 free:∀b o,h.get? b=some o->H b=none->b∉ex->H' b=none
 there:∀b o,h.get? b=some o->b∉ex->∃o',h'.get? b=some o'
 Fi:∀b xs,H b=some (.tup xs)->H' b=some (.tup xs)
 Dk:∀b o u,H b=some (.Dl o u)->H' b=some (.Dl o u)
 EI:∀b ps,H b=some (.Iy ps)->∃more,H' b=some (.Iy (ps++more))
section
variable{fs fs' ex ex':List Addr}{H H1 H2:Hp}{h h1 h2 h':Heap}{a x e:Addr}{o:HO}
theorem Un.any(u:Un fs ex H H1 h h1){ob:Obj}(q:h.get? b=some ob)(n:H b=none)(hx:b∉ex):∃sl,h1.get? b=some {ob with slots:=sl}:=by
 by_cases hb:b∈fs
 .exact u.slot b ob q n hb hx
 .exact⟨ob.slots,u.keep b ob q n hb hx⟩
theorem Un.kept(k:∀b u,h.get? b=some u->h'.get? b=some u):Un fs ex H H h h':=
 ⟨λb ob q _ _ _=>k b ob q,λb ob q _ _ _=>⟨ob.slots,k b ob q⟩,λ_ _ _ n _=>n,λb ob q _=>⟨ob,k b ob q⟩,λ_ _ q=>q,λ_ _ _ q=>q,λ_ ps q=>⟨#[],by rw[q];simp⟩⟩
theorem Un.refl:Un fs ex H H h h:=Un.kept λ_ _ q=>q
theorem Un.laid(k:∀b u,h.get? b=some u->h'.get? b=some u)(hp:h.objs.size<=a)(hn:H a=none):Un fs ex H (upd H a o) h h' where
 keep:=λb u q _ _ _=>k b u q
 slot:=λb u q _ _ _=>⟨u.slots,k b u q⟩
 free:=λb u q n _=>by rw[A5 (Nat.ne_of_lt (Nat.lt_of_lt_of_le (Heap.lt_size q) hp))];exact n
 there:=λb u q _=>⟨u,k b u q⟩
 Fi:=λb xs q=>by rw[A5 (Av q hn)];exact q
 Dk:=λb u xs q=>by rw[A5 (Av q hn)];exact q
 EI:=λb ps q=>⟨#[],by rw[A5 (Av q hn),q];simp⟩
theorem Un.write(mu:fE (H x))(he:e=x\/H e=some (.own x))(k:∀b u,b≠e->h.get? b=some u->h'.get? b=some u)(heo:∃u,h'.get? e=some u):Un fs ex H (upd H x o) h h':=by
 have hx:∀b,H b=none->b≠x:=λb n z=>by subst z;rw[n]at mu;exact mu
 have hb:∀b,H b=none->b≠e:=λb n z=>by
  subst z;rcases he with r|r
  .exact hx b n r
  .rw[n]at r;cases r
 have hm:∀b u,H b=some u->¬fE (some u)->b≠x:=λb u q nm z=>by subst z;rw[q]at mu;exact nm mu
 refine⟨λb u q n _ _=>k b u (hb b n) q,λb u q n _ _=>⟨u.slots,k b u (hb b n) q⟩,λb u q n _=>by rw[A5 (hx b n)];exact n,λb u q _=>?_,
  λb xs q=>by rw[A5 (hm b _ q λz=>z)];exact q,λb u xs q=>by rw[A5 (hm b _ q λz=>z)];exact q,λb ps q=>⟨#[],by rw[A5 (hm b _ q λz=>z),q];simp⟩⟩
 by_cases hbe:b=e
 .subst hbe;exact heo
 .exact⟨u,k b u hbe q⟩
end
def fQ(h:Heap)(H:Hp):List Addr:=(List.range h.objs.size).filter λa=>(H a).isSome
def Hm(h:Heap)(H:Hp):Heap:=hideAll h (fQ h H)
theorem Om(h:Heap)(H:Hp):(Hm h H).objs.size=h.objs.size:=hideAll_size _ _
theorem QV{o:Obj}(e:h.get? b=some o)(n:H b=none):(Hm h H).get? b=some o:=
 hideAll_get _ e λhm=>by
  have q:(H b).isSome=true:=(mem_filter.mp hm).2;rw[n]at q;simp at q
theorem TZ{o:Obj}(e:(Hm h H).get? b=some o):h.get? b=some o/\H b=none:=by
 have e':h.get? b=some o:=of_hideAll (fQ h H) e;refine⟨e',?_⟩;cases q:H b with
 |none=>rfl
 |some x=>
   have hm:b∈fQ h H:=mem_filter.mpr ⟨mem_range.mpr (Heap.lt_size e'),by simp[q]⟩;have z:(Hm h H).get? b=none:=hideAll_none (fQ h H) hm;rw[z]at e;cases e
noncomputable def Vd(g h:Heap)(L:Addr):List (Addr×Obj):=(List.range h.objs.size).filterMap λa=>if a=L\/(g.get? a).isSome=true then none else(h.get? a).map λo=>(a,o)
def rest(g h:Heap)(L d:Addr):List (Addr×Obj):=(Vd g h L).filter λp=>decide (p.1≠d)
structure Mod(K:PySem.W.Frag)(mg:Str->Option Value)(base:Heap):Prop where
 Of:K.In base
 glob:base.Ns mainGlobals mg
 blt:∃mb,base.Ns builtinsNs mb/\∀x:Str,x≠"__name__"->mb x=bootBuiltins x
 nolimit:base.NoLimit
structure Cx where
 prog:Program
 w:World
 K:PySem.W.Frag
 mg:Str->Option Value
 base:Heap
 A:Around
 N:List Str
 s₀:Shared
 H₀:Hp
 env:Env
 outer:List Env
 stack:List Env
 ex:List Addr
 fn:Str->Bool
 calm:Bool
 pn:List (Addr×Obj)
 xe:Value->Shared->Prop
def C6(l:List Env):List Addr:=l.filterMap (·.frame)
abbrev Cx.fs(X:Cx):List Addr:=C6 X.outer
def aQ(sc:Scope)(x:Str):Prop:=sc.names.lookup x=some .local\/sc.names.lookup x=some .cell\/sc.names.lookup x=some .free
def Loc(sc:Scope)(x:Str):Prop:=sc.names.lookup x=some .local\/sc.names.lookup x=some .cell
def Look(env:Env)(h:Heap)(m:Str->Option Value)(x:Str)(u:Value):Prop:=
 (env.kindOf x=some .local/\m x=some u)\/((env.kindOf x=some .cell\/env.kindOf x=some .free)/\∃c,env.cells.lookup x=some c/\h.IsCell c (some u))
structure Cx.Ok(X:Cx):Prop where
 mod:Mod X.K X.mg X.base
 kind:X.env.scope.kind= .function
 glob:X.env.globals=mainGlobals
 blt:X.env.builtins=builtinsNs
 above:X.s₀.heap.objs.size<=X.env.locals
 inj:∀x y c,X.env.cells.lookup x=some c->X.env.cells.lookup y=some c->x=y
 has:∀x,(X.env.kindOf x=some .cell\/X.env.kindOf x=some .free)->∃c,X.env.cells.lookup x=some c
 Zb:∀x c,X.fn x=true->X.env.cells.lookup x=some c->X.s₀.heap.objs.size<=c
 hd:X.calm=true->X.A.handled=none
 frames:X.A.frames=some X.stack
 bE:X.stack=X.outer\/(X.stack=X.env::X.outer/\X.env.frame=some X.env.locals)
 dY:∀b∈X.ex,b≠X.env.locals/\∀x c,X.env.cells.lookup x=some c->c≠b
 bs:∀b o,X.base.get? b=some o->X.s₀.heap.get? b=some o/\X.H₀ b=none
 RD:X.base.objs.size<=X.s₀.heap.objs.size
 O1:∀b o,X.base.get? b=some o->b∉X.ex
 Ov:∀b∈X.ex,b∉X.fs
 E6:X.s₀.heap.FunFrames X.base X.outer
 Uz:∀b∈X.fs,X.H₀ b=none
structure Inv(X:Cx)(pins:List (Addr×Obj))(σ:List (Option V))(H:Hp)(s:Shared):Prop where
 ok:X.Ok
 os:s.os=X.s₀.os
 bare:AllBare s.gens
 base:Un X.fs X.ex X.H₀ H X.s₀.heap s.heap
 loc:∃m,s.heap.Ns X.env.locals m/\∀(i:Nat) (x:Str) (v:V),X.N[i]? =some x->σ[i]? =some (some v)->aQ X.env.scope x->∃u,RelV v u/\Look X.env s.heap m x u
 cell:∀x c,X.env.cells.lookup x=some c->∃v,s.heap.IsCell c v
 free:H X.env.locals=none
 Cu:∀x c,X.env.cells.lookup x=some c->H c=none
 pin:∀p∈X.pn++pins,s.heap.get? p.1=some p.2/\H p.1=none/\p.1≠X.env.locals/\p.1∉X.fs/\∀v,p.2.data≠.cell v
 Ak:Dm X.prog X.w H s.heap
 len:σ.length=X.N.length
variable{X:Cx}{pins:List (Addr×Obj)}{σ:List (Option V)}{H H':Hp}{s:Shared}{h':Heap}
theorem Cx.Ok.iH(ok:X.Ok){o:Obj}(e:X.base.get? b=some o):b∉X.fs:=λhb=>by
 have:=(ok.E6.mem hb).1;rw[e]at this;cases this
theorem Inv.bs(I:Inv X pins σ H s):∀b o,X.base.get? b=some o->s.heap.get? b=some o/\H b=none:=λb o e=>
 ⟨I.base.keep b o (I.ok.bs b o e).1 (I.ok.bs b o e).2 (I.ok.iH e) (I.ok.O1 b o e),I.base.free b o (I.ok.bs b o e).1 (I.ok.bs b o e).2 (I.ok.O1 b o e)⟩
theorem Inv.bk(I:Inv X pins σ H s):∀b o,X.base.get? b=some o->s.heap.get? b=some o:=λb o e=>(I.bs b o e).1
theorem Inv.mod(I:Inv X pins σ H s):Mod X.K X.mg X.base:=I.ok.mod
theorem Inv.BX(I:Inv X pins σ H s):X.K.In s.heap:=I.ok.mod.Of.keeps I.bk
theorem Inv.nolimit(I:Inv X pins σ H s):s.heap.NoLimit:=I.ok.mod.nolimit.keeps I.bk
theorem Inv.lt(I:Inv X pins σ H s):X.env.locals < s.heap.objs.size:=let⟨_,hn,_⟩:=I.loc;hn.lt
theorem Inv.sz(I:Inv X pins σ H s):X.s₀.heap.objs.size<=s.heap.objs.size:=Nat.le_trans I.ok.above (Nat.le_of_lt I.lt)
theorem Inv.Y7(I:Inv X pins σ H s){a:Addr}(h:s.heap.objs.size<=a):a∉X.fs:=λhb=>by
 obtain⟨_,o,ho,_⟩:=I.ok.E6.mem hb;exact absurd (Nat.lt_of_lt_of_le (Heap.lt_size ho) (Nat.le_trans I.sz h)) (Nat.lt_irrefl _)
theorem Inv.SE(I:Inv X pins σ H s):∀x c,X.env.cells.lookup x=some c->c≠X.env.locals:=λx c e z=>by
 obtain⟨v,o,ho,hd⟩:=I.cell x c e;obtain⟨m,⟨o',es,ep,ho',hd',_⟩,_⟩:=I.loc;rw[z,ho']at ho;cases ho;rw[hd']at hd;cases hd
theorem Inv.E6(I:Inv X pins σ H s):s.heap.FunFrames X.base X.outer:=by
 have all:∀(l:List Env),(∀b∈C6 l,b∈X.fs)->X.s₀.heap.FunFrames X.base l->s.heap.FunFrames X.base l:=by
  intro l
  induction l with
  |nil=>intro _ _;trivial
  |cons env r ih=>
    intro hs hl;obtain⟨hk,⟨L,o,hf,hn,ho,hd⟩,hr⟩:=hl;have hL:L∈X.fs:=hs L (by unfold C6;rw[filterMap_cons,hf];exact mS);obtain⟨sl,e⟩:=I.base.slot L o ho (I.ok.Uz L hL) hL λz=>I.ok.Ov L z hL
    exact⟨hk,⟨L,_,hf,hn,e,hd⟩,ih (λb hb=>hs b (by unfold C6;rw[filterMap_cons,hf];exact mC hb)) hr⟩
 exact all X.outer (λ_ hb=>hb) I.ok.E6
theorem Inv.stack(I:Inv X pins σ H s):s.heap.FunFrames X.base X.stack:=by
 rcases I.ok.bE with e|⟨e,hf⟩
 .rw[e];exact I.E6
 .rw[e];obtain⟨m,hn,_⟩:=I.loc;refine .cons (by rw[I.ok.kind];decide) hf hn ?_ I.E6;exact Heap.get?_none_of_le (Nat.le_trans I.ok.RD I.ok.above)
theorem Inv.Gh(I:Inv X pins σ H s):∀b∈C6 X.stack,b∈X.env.locals::X.fs:=λb hb=>by
 rcases I.ok.bE with e|⟨e,hf⟩
 .rw[e]at hb;exact mC hb
 .rw[e]at hb;unfold C6 at hb;rw[filterMap_cons,hf]at hb;exact hb
theorem Inv.DJ(I:Inv X pins σ H s):∀b∈C6 X.stack,H b=none:=λb hb=>by
 rcases mK (I.Gh b hb)with e|hb
 .rw[e];exact I.free
 .obtain⟨_,o,ho,_⟩:=I.ok.E6.mem hb;exact I.base.free b o ho (I.ok.Uz b hb) λz=>I.ok.Ov b z hb
variable{g':Array GenState}{t':Nat}{d':Drawn}{ch:List Addr}
theorem Inv.step(I:Inv X pins σ H s)
 (hch:∀b∈ch,(b∈X.ex\/X.s₀.heap.objs.size<=b)/\b≠X.env.locals/\(∀x c,X.env.cells.lookup x=some c->c≠b)/\∀p∈X.pn++pins,p.1≠b)
 (keep:∀b o,b≠X.env.locals->b∉X.fs->b∉ch->s.heap.get? b=some o->H b=none->h'.get? b=some o)
 (slot:∀b o,b≠X.env.locals->b∈X.fs->b∉ch->s.heap.get? b=some o->H b=none->∃sl,h'.get? b=some {o with slots:=sl})(free:∀b o,b∉ch->s.heap.get? b=some o->H b=none->H' b=none)
 (there:∀b o,b∉ch->s.heap.get? b=some o->∃o',h'.get? b=some o')
 (Fi:∀b xs,H b=some (.tup xs)->H' b=some (.tup xs))(Dk:∀b o u,H b=some (.Dl o u)->H' b=some (.Dl o u))(EI:∀b ps,H b=some (.Iy ps)->∃more,H' b=some (.Iy (ps++more)))
 (ns:∀m,s.heap.Ns X.env.locals m->h'.Ns X.env.locals m)(Ak:Dm X.prog X.w H' h')(hg:AllBare g'):
 Inv X pins σ H' {s with heap:=h',gens:=g',drawn:=d',toks:=t'}:=by
 have neL:∀b o,X.s₀.heap.get? b=some o->b≠X.env.locals:=λb o e=>Nat.ne_of_lt (Nat.lt_of_lt_of_le (Heap.lt_size e) I.ok.above)
 have neC:∀b o,X.s₀.heap.get? b=some o->b∉X.ex->b∉ch:=λb o e hx hb=>by
  rcases(hch b hb).1 with z|z
  .exact hx z
  .exact absurd (Nat.lt_of_lt_of_le (Heap.lt_size e) z) (Nat.lt_irrefl _)
 have cellK:∀x c,X.env.cells.lookup x=some c->∀v,s.heap.IsCell c v->h'.IsCell c v:=λx c e v ⟨o,ho,hd⟩=>by
  have nch:c∉ch:=λz=>(hch c z).2.2.1 x c e rfl
  by_cases hc:c∈X.fs
  .obtain⟨sl,q⟩:=slot c o (I.SE x c e) hc nch ho (I.Cu x c e);exact⟨_,q,hd⟩
  .exact⟨o,keep c o (I.SE x c e) hc nch ho (I.Cu x c e),hd⟩
 refine⟨I.ok,I.os,hg,⟨λb o e n hb hx=>?_,λb o e n hb hx=>?_,λb o e n hx=>?_,λb o e hx=>?_,λb xs e=>Fi b xs (I.base.Fi b xs e),λb o xs e=>Dk b o xs (I.base.Dk b o xs e),λb ps e=>?_⟩,?_,λx c e=>?_,?_,λx c e=>?_,λp hp=>?_,Ak,I.len⟩
 .exact keep b o (neL b o e) hb (neC b o e hx) (I.base.keep b o e n hb hx) (I.base.free b o e n hx)
 .obtain⟨sl,e1⟩:=I.base.slot b o e n hb hx;obtain⟨sl',e2⟩:=slot b _ (neL b o e) hb (neC b o e hx) e1 (I.base.free b o e n hx);exact⟨sl',e2⟩
 .obtain⟨o',e1⟩:=I.base.there b o e hx;exact free b o' (neC b o e hx) e1 (I.base.free b o e n hx)
 .obtain⟨o',e1⟩:=I.base.there b o e hx;exact there b o' (neC b o e hx) e1
 .obtain⟨m1,e1⟩:=I.base.EI b ps e;obtain⟨m2,e2⟩:=EI b _ e1;exact⟨m1++m2,by rw[e2,Array.append_assoc]⟩
 .obtain⟨m,hn,hl⟩:=I.loc;refine⟨m,ns m hn,λi x v e1 e2 e3=>?_⟩;obtain⟨u,r,l⟩:=hl i x v e1 e2 e3;refine⟨u,r,?_⟩;rcases l with l|⟨k,c,e,z⟩
  .exact .inl l
  .exact .inr ⟨k,c,e,cellK x c e _ z⟩
 .obtain⟨v,z⟩:=I.cell x c e;exact⟨v,cellK x c e v z⟩
 .obtain⟨m,⟨o,_,_,ho,_⟩,_⟩:=I.loc;exact free _ o (λz=>(hch _ z).2.1 rfl) ho I.free
 .obtain⟨v,o,ho,hd⟩:=I.cell x c e;exact free c o (λz=>(hch c z).2.2.1 x c e rfl) ho (I.Cu x c e)
 .obtain⟨e,n,ne,nf,d⟩:=I.pin p hp;have nch:p.1∉ch:=λz=>(hch p.1 z).2.2.2 p hp rfl
  exact⟨keep p.1 p.2 ne nf nch e n,free p.1 p.2 nch e n,ne,nf,d⟩
theorem Inv.un(I:Inv X pins σ H s)(u:Un X.fs [] H H' s.heap h')(Ak:Dm X.prog X.w H' h'):Inv X pins σ H' {s with heap:=h',toks:=t'}:=by
 obtain⟨m,⟨o,es,ep,ho,r⟩,_⟩:=id I.loc;obtain⟨sl,hL⟩:=u.any ho I.free (by simp)
 exact I.step (g':=s.gens) (d':=s.drawn) (ch:=[]) (λ_ z=>nomatch z) (λb o _ hb _ e n=>u.keep b o e n hb (by simp)) (λb o _ hb _ e n=>u.slot b o e n hb (by simp)) (λb o _ e n=>u.free b o e n (by simp)) (λb o _ e=>u.there b o e (by simp)) u.Fi u.Dk u.EI (λm' hm=>by
  obtain⟨o',es',ep',ho',r'⟩:=hm;rw[ho]at ho';cases ho'
  exact⟨_,es',ep',hL,r'⟩) Ak I.bare
theorem Inv.call(I:Inv X pins σ H s)(u:Un (C6 X.stack) ch H H' s.heap h')(Ak:Dm X.prog X.w H' h')(hg:AllBare g')
 (hch:∀b∈ch,(b∈X.ex\/X.s₀.heap.objs.size<=b)/\b≠X.env.locals/\(∀x c,X.env.cells.lookup x=some c->c≠b)/\∀p∈X.pn++pins,p.1≠b):
 Inv X pins σ H' {s with heap:=h',gens:=g',drawn:=d',toks:=t'}:=by
 obtain⟨m,⟨o,es,ep,ho,r⟩,_⟩:=id I.loc;obtain⟨sl,hL⟩:=u.any ho I.free λz=>(hch _ z).2.1 rfl
 exact I.step (ch:=ch) hch (λb o hL hb hc e n=>u.keep b o e n (λz=>(mK (I.Gh b z)).elim hL hb) hc) (λb o _ _ hc e n=>u.any e n hc) (λb o hc e n=>u.free b o e n hc) (λb o hc e=>u.there b o e hc) u.Fi u.Dk u.EI (λm' hm=>by
  obtain⟨o',es',ep',ho',r'⟩:=hm;rw[ho]at ho';cases ho'
  exact⟨_,es',ep',hL,r'⟩) Ak hg
variable{it:Addr}
theorem Inv.turned(I:Inv X pins σ H s)(k:∀b o,b≠it->s.heap.get? b=some o->h'.get? b=some o)(hn:H it=none)(hL:it≠X.env.locals)
 (h1:it∈X.ex\/X.s₀.heap.objs.size<=it)(h2:∀x c,X.env.cells.lookup x=some c->c≠it)(h3:∀p∈X.pn++pins,p.1≠it):Inv X pins σ H {s with heap:=h',toks:=t'}:=by
 have nit:∀b u,H b=some u->b≠it:=λb u e z=>by rw[z,hn]at e;cases e
 refine I.step (g':=s.gens) (d':=s.drawn) (ch:=[it]) (λb hb=>?_) (λb o _ _ hc e _=>k b o (λz=>hc (by simp[z])) e) (λb o _ _ hc e _=>⟨o.slots,k b o (λz=>hc (by simp[z])) e⟩) (λ_ _ _ _ n=>n)
  (λb o hc e=>⟨o,k b o (λz=>hc (by simp[z])) e⟩) (λ_ _ e=>e) (λ_ _ _ e=>e) (λb ps e=>⟨#[],by rw[e];simp⟩) (λm hm=>?_) (λb u e=>?_) I.bare
 .have e:b=it:=by simpa using hb
  subst e;exact⟨h1,hL,h2,h3⟩
 .obtain⟨o,es,ep,ho,r⟩:=hm;exact⟨o,es,ep,k _ o (Ne.symm hL) ho,r⟩
 .refine(I.Ak b u e).CJ (λc v hc q=>k c v ?_ q) (λ_ q=>q) λ_ _ q=>q
  rcases hc with z|z
  .rw[z];exact nit b u e
  .exact nit c _ z
theorem Inv.tok(I:Inv X pins σ H s)(t:Nat):Inv X pins σ H {s with toks:=t}:=I.un (h':=s.heap) (t':=t) Un.refl I.Ak
theorem Inv.kept(I:Inv X pins σ H s)(k:∀b u,s.heap.get? b=some u->h'.get? b=some u):Inv X pins σ H {s with heap:=h',toks:=t'}:=I.un (Un.kept k) (I.Ak.kept k)
theorem Inv.laid{a:Addr}(I:Inv X pins σ H s)(k:∀b u,s.heap.get? b=some u->h'.get? b=some u)(hp:s.heap.objs.size<=a)(new:Bc X.prog X.w (upd H a o) h' a o):
 Inv X pins σ (upd H a o) {s with heap:=h',toks:=t'}:=I.un (Un.laid k hp (I.Ak.fresh hp)) (I.Ak.laid k hp new)
theorem Inv.write{e:Addr}(I:Inv X pins σ H s)(mu:fE (H x))(he:e=x\/H e=some (.own x))(k:∀b u,b≠e->s.heap.get? b=some u->h'.get? b=some u)(heo:∃u,h'.get? e=some u)
 (new:Bc X.prog X.w (upd H x o) h' x o):Inv X pins σ (upd H x o) {s with heap:=h',toks:=t'}:=I.un (Un.write mu he k heo) (I.Ak.write mu he k heo new)
theorem Inv.D6{pins':List (Addr×Obj)}(I:Inv X pins σ H s)(h:∀p∈pins',s.heap.get? p.1=some p.2/\H p.1=none/\p.1≠X.env.locals/\p.1∉X.fs/\∀v,p.2.data≠.cell v):Inv X pins' σ H s:=
 ⟨I.ok,I.os,I.bare,I.base,I.loc,I.cell,I.free,I.Cu,λp hp=>(mem_append.mp hp).elim (λz=>I.pin p (mL z)) (h p),I.Ak,I.len⟩
variable{j:Nat}
theorem GB{N:List Str}(hN:N.Nodup){i:Nat}{x:Str}(a:N[i]? =some x)(b:N[j]? =some x):i=j:=by
 obtain⟨h1,e1⟩:=List.getElem?_eq_some_iff.mp a;obtain⟨h2,e2⟩:=List.getElem?_eq_some_iff.mp b;exact(List.getElem_inj hN).mp (e1.trans e2.symm)
variable{M:Model}{A:Around}
theorem Ht{E:Value->Shared->Prop}{i:Nat}{x:Str}{Q:Unit->Shared->Prop}(I:Inv X pins σ H s)(hN:X.N.Nodup)(hi:X.N[i]? =some x)(hx:Loc X.env.scope x)(r:RelV v u)
 (h:∀s',Inv X pins (σ.set i (some v)) H s'->(∃a,Heap.SameBut a s.heap s'.heap/\(a=X.env.locals\/X.env.cells.lookup x=some a))->Q () s')(hf:X.fn x=true\/X.env.scope.names.lookup x=some .local:=by first|exact .inl rfl|exact .inr rfl|assumption):wpAny M A (storeName X.env x u) Q E s:=by
 obtain⟨m,hn,hl⟩:=id I.loc;have hcls:(X.env.scope.kind == .class || (X.env.scope.kind == .module && X.env.locals != X.env.globals))=false:=by rw[I.ok.kind];rfl
 have hiσ:i < σ.length:=by rw[I.len];exact(List.getElem?_eq_some_iff.mp hi).1
 have SE:=I.SE
 have tracked:∀{a:Addr} {h':Heap},(∃o,s.heap.get? a=some o/\H a=none)->Heap.SameBut a s.heap h'->Dm X.prog X.w H h':=λ{a h'} ha hs b ob e=>by
  obtain⟨_,_,hfree⟩:=ha;refine(I.Ak b ob e).CJ (λc w' hc q=>(hs.2 c ?_).trans q) (λ_ q=>q) λ_ _ q=>q
  rintro rfl
  rcases hc with rfl|hc
  .rw[hfree]at e;cases e
  .rw[hfree]at hc;cases hc
 rcases hx with hk|hk
 .refine wpAny_storeName_local hk hn (λh' hn' hs=>?_) hcls;obtain⟨oL,_,_,hoL,_⟩:=id hn;refine h _ ⟨I.ok,I.os,I.bare,⟨λb o e n hb hx=>?_,λb o e n hb hx=>?_,I.base.free,λb o e hx=>?_,I.base.Fi,I.base.Dk,I.base.EI⟩,⟨_,hn',λj y v' e1 e2 e3=>?_⟩,λy c e=>?_,I.free,I.Cu,λp hp=>?_,tracked ⟨oL,hoL,I.free⟩ hs,by simpa using I.len⟩ ⟨_,hs,.inl rfl⟩
  .exact(hs.2 b (Nat.ne_of_lt (Nat.lt_of_lt_of_le (Heap.lt_size e) I.ok.above))).trans (I.base.keep b o e n hb hx)
  .obtain⟨sl,e1⟩:=I.base.slot b o e n hb hx;exact⟨sl,(hs.2 b (Nat.ne_of_lt (Nat.lt_of_lt_of_le (Heap.lt_size e) I.ok.above))).trans e1⟩
  .obtain⟨o',e1⟩:=I.base.there b o e hx;exact⟨o',(hs.2 b (Nat.ne_of_lt (Nat.lt_of_lt_of_le (Heap.lt_size e) I.ok.above))).trans e1⟩
  .by_cases hj:j=i
   .subst hj;rw[hi]at e1;cases e1;rw[List.getElem?_set_self hiσ]at e2;cases e2;exact⟨u,r,.inl ⟨hk,by simp⟩⟩
   .rw[List.getElem?_set_ne (Ne.symm hj)]at e2;obtain⟨u',r',q⟩:=hl j y v' e1 e2 e3;refine⟨u',r',?_⟩;rcases q with⟨k,e⟩|⟨k,c,e,z⟩
    .refine .inl ⟨k,?_⟩;have:y≠x:=λe=>hj (GB hN e1 (e▸hi))
     simp[this,e]
    .exact .inr ⟨k,c,e,z.sameBut hs (SE y c e)⟩
  .obtain⟨w',z⟩:=I.cell y c e;exact⟨w',z.sameBut hs (SE y c e)⟩
  .obtain⟨e,n,ne,nf,d⟩:=I.pin p hp;exact⟨(hs.2 p.1 ne).trans e,n,ne,nf,d⟩
 .have hfn:X.fn x=true:=by
   rcases hf with z|z
   .exact z
   .rw[z]at hk;cases hk
  obtain⟨c,hc⟩:=I.ok.has x (.inl hk);obtain⟨w',z⟩:=I.cell x c hc;refine wpAny_storeName_cell I.ok.kind hk hc z (λh' hc' hs=>?_);obtain⟨oc,hoc,hocd⟩:=id z;refine h {s with heap:=h'} ⟨I.ok,I.os,I.bare,⟨λb o e n hb hx=>?_,λb o e n hb hx=>?_,I.base.free,λb o e hx=>?_,I.base.Fi,I.base.Dk,I.base.EI⟩,⟨m,hn.sameBut hs (Ne.symm (SE x c hc)),λj y v' e1 e2 e3=>?_⟩,λy c' e=>?_,I.free,I.Cu,λp hp=>?_,tracked ⟨oc,hoc,I.Cu x c hc⟩ hs,by simpa using I.len⟩ ⟨c,hs,.inr hc⟩
  .exact(hs.2 b (Nat.ne_of_lt (Nat.lt_of_lt_of_le (Heap.lt_size e) (I.ok.Zb x c hfn hc)))).trans (I.base.keep b o e n hb hx)
  .obtain⟨sl,e1⟩:=I.base.slot b o e n hb hx;exact⟨sl,(hs.2 b (Nat.ne_of_lt (Nat.lt_of_lt_of_le (Heap.lt_size e) (I.ok.Zb x c hfn hc)))).trans e1⟩
  .obtain⟨o',e1⟩:=I.base.there b o e hx;exact⟨o',(hs.2 b (Nat.ne_of_lt (Nat.lt_of_lt_of_le (Heap.lt_size e) (I.ok.Zb x c hfn hc)))).trans e1⟩
  .by_cases hj:j=i
   .subst hj;rw[hi]at e1;cases e1;rw[List.getElem?_set_self hiσ]at e2;cases e2;exact⟨u,r,.inr ⟨.inl hk,c,hc,hc'⟩⟩
   .rw[List.getElem?_set_ne (Ne.symm hj)]at e2;obtain⟨u',r',q⟩:=hl j y v' e1 e2 e3;refine⟨u',r',?_⟩;rcases q with q|⟨k,c',e,z'⟩
    .exact .inl q
    .refine .inr ⟨k,c',e,z'.sameBut hs ?_⟩
     rintro rfl
     exact hj (GB hN e1 (I.ok.inj _ _ _ e hc▸hi))
  .by_cases hcc:c'=c
   .subst hcc;exact⟨_,hc'⟩
   .obtain⟨w2,z2⟩:=I.cell y c' e;exact⟨w2,z2.sameBut hs hcc⟩
  .obtain⟨e,n,ne,nf,d⟩:=I.pin p hp;refine⟨(hs.2 p.1 ?_).trans e,n,ne,nf,d⟩;intro q;rw[q,hoc]at e;have q':oc=p.2:=Option.some.inj e;exact d w' (by rw[<-q'];exact hocd)
theorem Dp{E:Value->Shared->Prop}{i:Nat}{x:Str}{Q:Unit->Shared->Prop}(I:Inv X pins σ H s)(hN:X.N.Nodup)(hi:X.N[i]? =some x)(hx:Loc X.env.scope x)(r:RelV v u)
 (h:∀s',Inv X pins (σ.set i (some v)) H s'->Q () s')(hf:X.fn x=true\/X.env.scope.names.lookup x=some .local:=by first|exact .inl rfl|exact .inr rfl|assumption):wpAny M A (storeName X.env x u) Q E s:=
 Ht I hN hi hx r (λs' I' _=>h s' I') hf
theorem Inv.WB{s':Shared}(I:Inv X pins σ H s)(ho:s'.os=s.os)(u:Un (C6 X.stack) ch H H' s.heap s'.heap)(Ak:Dm X.prog X.w H' s'.heap)(hg:AllBare s'.gens)
 (hch:∀b∈ch,(b∈X.ex\/X.s₀.heap.objs.size<=b)/\b≠X.env.locals/\(∀x c,X.env.cells.lookup x=some c->c≠b)/\∀p∈X.pn++pins,p.1≠b):Inv X pins σ H' s':=by
 obtain⟨h',g',d',t',o'⟩:=s';have e:o'=s.os:=ho;subst e;exact I.call (g':=g') (t':=t') (d':=d') u Ak hg hch
abbrev XK:=Value->Option Addr->Hp->Prop
abbrev St:=List (Option V)
abbrev VK:=V->Hp->Prop
abbrev TE:=St->Hp->VK->Prop
abbrev TT:=St->Hp->(Bool->Hp->Prop)->Prop
abbrev TA:=St->Hp->(List V->Hp->Prop)->Prop
structure Ends where
 nx:St->Hp->Prop
 rt:VK
 bk:St->Hp->Prop:=λ_ _=>False
 ct:St->Hp->Prop:=λ_ _=>False
abbrev TS:=Ends->St->Hp->Prop
def EP(X:Cx)(pins:List (Addr×Obj))(σ:St)(Q:VK)(u:Value)(s':Shared):Prop:=∃v H',Inv X pins σ H' s'/\RelV v u/\Q v H'
def TP(X:Cx)(pins:List (Addr×Obj))(σ:St)(Q:Bool->Hp->Prop)(b:Bool)(s':Shared):Prop:=∃H',Inv X pins σ H' s'/\Q b H'
def AP(X:Cx)(pins:List (Addr×Obj))(σ:St)(Q:List V->Hp->Prop)(us:List Value)(s':Shared):Prop:=∃vs H',Inv X pins σ H' s'/\Vals vs us/\Q vs H'
def SP(X:Cx)(pins:List (Addr×Obj))(D:Ends)(f:Flow)(s':Shared):Prop:=
 match f with
 |.next=>∃σ' H',Inv X pins σ' H' s'/\D.nx σ' H'
 |.brk=>∃σ' H',Inv X pins σ' H' s'/\D.bk σ' H'
 |.cont=>∃σ' H',Inv X pins σ' H' s'/\D.ct σ' H'
 |.ret u=>∃v σ' H',Inv X pins σ' H' s'/\RelV v u/\D.rt v H'
def PE(X:Cx)(e:Expr)(t:TE):Prop:=
 ∀(pins:List (Addr×Obj)) (s:Shared) (σ:St) (H:Hp) (Q:VK),Inv X pins σ H s->t σ H Q->wpAny (model X.prog X.w) X.A (eval e X.env) (EP X pins σ Q) X.xe s
def PT(X:Cx)(e:Expr)(t:TT):Prop:=
 ∀(pins:List (Addr×Obj)) (s:Shared) (σ:St) (H:Hp) (Q:Bool->Hp->Prop),Inv X pins σ H s->t σ H Q->wpAny (model X.prog X.w) X.A (isTrue e X.env (eval e X.env)) (TP X pins σ Q) X.xe s
def PW(X:Cx)(e:Expr)(t:TT):Prop:=
 ∀(whole:Sem Value) (pins:List (Addr×Obj)) (s:Shared) (σ:St) (H:Hp) (Q:Bool->Hp->Prop),Inv X pins σ H s->t σ H Q->wpAny (model X.prog X.w) X.A (isTrue e X.env whole) (TP X pins σ Q) X.xe s
variable{X:Cx}
theorem PW.pt{t:TT}(h:PW X e t):PT X e t:=h _
def PA(X:Cx)(es:List Expr)(t:TA):Prop:=
 ∀(pos:Pos) (pins:List (Addr×Obj)) (s:Shared) (σ:St) (H:Hp) (Q:List V->Hp->Prop),Inv X pins σ H s->t σ H Q->wpAny (model X.prog X.w) X.A (spliced (backTo pos (starEach es X.env))) (AP X pins σ Q) X.xe s
def PS(X:Cx)(st:Stmt)(t:TS):Prop:=
 ∀(pins:List (Addr×Obj)) (s:Shared) (σ:St) (H:Hp) (D:Ends),Inv X pins σ H s->t D σ H->wpAny (model X.prog X.w) X.A (exec st X.env) (SP X pins D) X.xe s
def Mf(X:Cx)(st:List Stmt)(t:TS):Prop:=
 ∀(pins:List (Addr×Obj)) (s:Shared) (σ:St) (H:Hp) (D:Ends),Inv X pins σ H s->t D σ H->wpAny (model X.prog X.w) X.A (execs st X.env) (SP X pins D) X.xe s
variable{s:Shared}
theorem AI{α:Type}{t:Sem α}{Q Q':α->Shared->Prop}{E:Value->Shared->Prop}(h:wpAny M A t Q E s)(hQ:∀a s,Q a s->Q' a s):wpAny M A t Q' E s:=wpAny_mono h hQ λ_ _ x=>x
section
variable{pins:List (Addr×Obj)}{s:Shared}{H:Hp}
theorem bin{ta tb:TE}(ha:PE X a ta)(hb:PE X b tb){σ:St}{R:V->V->Hp->Prop}(I:Inv X pins σ H s)(h:ta σ H λx H1=>tb σ H1 λy H2=>R x y H2)
 {α:Type}{Q:α->Shared->Prop}{f:Value->Value->Sem α}
 (hf:∀v u s2 x y H2,Inv X pins σ H2 s2->RelV x v->RelV y u->R x y H2->wpAny (model X.prog X.w) X.A (f v u) Q X.xe s2):
 wpAny (model X.prog X.w) X.A (eval a X.env) (λv s₁=>wpAny (model X.prog X.w) X.A (eval b X.env) (λu s₂=>wpAny (model X.prog X.w) X.A (f v u) Q X.xe s₂) X.xe s₁) X.xe s:=by
 refine AI (ha pins s σ H _ I h) λv s1 ⟨x,H1,I1,r1,q1⟩=>?_
 refine AI (hb pins s1 σ H1 _ I1 q1) λu s2 ⟨y,H2,I2,r2,q2⟩=>?_
 exact hf v u s2 x y H2 I2 r1 r2 q2
def Ej(i:Nat):TE:=λσ H Q=>∃v,σ[i]? =some (some v)/\Q v H
def tC(v:V):TE:=λ_ H Q=>Q v H
variable{pos:Pos}
theorem Fn{i:Nat}{x:Str}(hN:X.N[i]? =some x)(hv:aQ X.env.scope x)(hd:(x == ("__debug__":Str))=false:=by decide)(hcd:(x == ("__classdict__":Str))=false:=by decide):PE X (.Name x pos) (Ej i):=by
 intro pins s σ H Q I h;obtain⟨v,e,h⟩:=h;obtain⟨m,hn,hl⟩:=I.loc;obtain⟨u,r,l⟩:=hl i x v hN e hv;have fin:EP X pins σ Q u s:=⟨v,H,I,r,h⟩;rcases l with⟨hk,hm⟩|⟨hk,c,hc,hcell⟩
 .exact wpAny_Name (wpAny_loadName_local I.ok.kind hk hn hm fin) hd
 .rcases hk with hk|hk
  .exact wpAny_Name (wpAny_loadName_cell I.ok.kind hk hc hcell fin) hd
  .exact wpAny_Name (wpAny_loadName_free I.ok.kind hk hc hcell fin hcd) hd
theorem Lj{i j pos}:PE X (.Constant (.int i) j pos) (tC (.int i)):=λ_ _ _ H _ I h=>wpAny_Constant_int ⟨.int i,H,I.tok _,⟨_,rfl⟩,h⟩
theorem cG{b j pos}:PE X (.Constant (.bool b) j pos) (tC (.bl b)):=λ_ _ _ H _ I h=>Constant_bool ⟨.bl b,H,I,rfl,h⟩
theorem Li{j pos}:PE X (.Constant .none j pos) (tC .Ai):=λ_ _ _ H _ I h=>Constant_none ⟨.Ai,H,I,rfl,h⟩
theorem Q4{x j pos}:PE X (.Constant (.str x) j pos) (tC (.str x)):=λ_ _ _ H _ I h=>Calls.Constant_str ⟨.str x,H,I.tok _,⟨_,rfl⟩,h⟩
def Gl(X:Cx)(x:Str):Prop:=X.env.kindOf x=some .globalImplicit
theorem D8{E:Value->Shared->Prop}{σ:St}{u:Value}{Q:Value->Shared->Prop}(I:Inv X pins σ H s)(hg:Gl X x)(hm:X.mg x=some u)(h:Q u s)
 (hd:(x == ("__debug__":Str))=false:=by decide):wpAny (model X.prog X.w) X.A (eval (.Name x pos) X.env) Q E s:=
 Calls.Name_function_global I.ok.kind hg (Calls.loadGlobal_global (by rw[I.ok.glob];exact I.mod.glob.keeps I.bk) hm h) hd
theorem Er{E:Value->Shared->Prop}{σ:St}{u:Value}{Q:Value->Shared->Prop}(I:Inv X pins σ H s)(hg:Gl X x)(hm:X.mg x=none)(hv:bootBuiltins x=some u)(h:Q u s)
 (hn:x≠"__name__":=by decide)(hd:(x == ("__debug__":Str))=false:=by decide):wpAny (model X.prog X.w) X.A (eval (.Name x pos) X.env) Q E s:=by
 obtain⟨mb,h1,h2⟩:=I.mod.blt;exact Calls.Name_function_global I.ok.kind hg (Calls.loadGlobal_builtin (by rw[I.ok.glob];exact I.mod.glob.keeps I.bk) hm (by rw[I.ok.blt];exact h1.keeps I.bk) ((h2 x hn).trans hv) h) hd
theorem DP{u:Value}(hg:Gl X x)(hm:X.mg x=some u)(r:RelV v u)(hd:(x == ("__debug__":Str))=false:=by decide):PE X (.Name x pos) (tC v):=
 λ_ _ _ H _ I h=>D8 I hg hm ⟨v,H,I,r,h⟩ hd
theorem MJ{u:Value}(hg:Gl X x)(hm:X.mg x=none)(hv:bootBuiltins x=some u)(r:RelV v u)(hn:x≠"__name__":=by decide)(hd:(x == ("__debug__":Str))=false:=by decide):PE X (.Name x pos) (tC v):=
 λ_ _ _ H _ I h=>Er I hg hm hv ⟨v,H,I,r,h⟩ hn hd
variable{a b:Expr}{ta tb:TE}{pos:Pos}
def tB(t:TE):TT:=λσ H Q=>t σ H λx H1=>∃c,x= .bl c/\Q c H1
variable{tA tB':TT}{rest:List Expr}
def bB(t u:TT):TT:=λσ H Q=>t σ H λc H1=>if c=true then u σ H1 Q else Q false H1
def jQ(t u:TT):TT:=λσ H Q=>t σ H λc H1=>if c=true then Q true H1 else u σ H1 Q
def gN(t:TT):TT:=λσ H Q=>t σ H λc H1=>Q (!c) H1
theorem To(ha:PT X a tA):PW X (.BoolOp .And [a] pos) tA:=by
 intro wh pins s σ H Q I h;refine isTrue_and (AI (ha pins s σ H Q I h) λc s1 e=>?_);cases c with
 |true=>exact isTrue_and_nil e
 |false=>exact e
theorem XD(ha:PT X a tA):PW X (.BoolOp .Or [a] pos) tA:=by
 intro wh pins s σ H Q I h;refine isTrue_or (AI (ha pins s σ H Q I h) λc s1 e=>?_);cases c with
 |false=>exact isTrue_or_nil e
 |true=>exact e
theorem XE(ha:PT X a tA)(hb:PW X (.BoolOp .And (b::rest) pos) tB'):PW X (.BoolOp .And (a::b::rest) pos) (bB tA tB'):=by
 intro wh pins s σ H Q I h;refine isTrue_and (AI (ha pins s σ H _ I h) λc s1 ⟨H1,I1,q1⟩=>?_);cases c with
 |true=>exact hb wh pins s1 σ H1 Q I1 q1
 |false=>exact⟨H1,I1,q1⟩
theorem cy(ha:PT X a tA)(hb:PW X (.BoolOp .Or (b::rest) pos) tB'):PW X (.BoolOp .Or (a::b::rest) pos) (jQ tA tB'):=by
 intro wh pins s σ H Q I h;refine isTrue_or (AI (ha pins s σ H _ I h) λc s1 ⟨H1,I1,q1⟩=>?_);cases c with
 |true=>exact⟨H1,I1,q1⟩
 |false=>exact hb wh pins s1 σ H1 Q I1 q1
theorem XF(ha:PT X a tA):PT X (.UnaryOp .Not a pos) (gN tA):=by
 intro pins s σ H Q I h;exact isTrue_not (ha pins s σ H (λc H1=>Q (!c) H1) I h)
noncomputable def VS(ta tb:TE):TE:=λσ H Q=>ta σ H λx H1=>∃c,x= .bl c/\if c=true then tb σ H1 Q else Q (.bl false) H1
noncomputable def bo(ta tb:TE):TE:=λσ H Q=>ta σ H λx H1=>∃c,x= .bl c/\if c=true then Q (.bl true) H1 else tb σ H1 Q
def bq(ta:TE):TE:=λσ H Q=>ta σ H λx H1=>∃c,x= .bl c/\Q (.bl (!c)) H1
theorem Lh{op}{t:TE}(h:PE X a t):PE X (.BoolOp op [a] pos) t:=λpins s σ H Q I hw=>BoolOp_one (h pins s σ H Q I hw)
theorem IP(ha:PE X a ta)(hb:PE X (.BoolOp .And (b::rest) pos) tb):PE X (.BoolOp .And (a::b::rest) pos) (VS ta tb):=by
 intro pins s σ H Q I h;refine BoolOp_and (AI (ha pins s σ H _ I h) λv s1 ⟨x,H1,I1,r1,q1⟩=>?_);obtain⟨c,rfl,q1⟩:=q1;cases r1;refine wpAny_truthy_bool ?_;cases c with
 |true=>exact hb pins s1 σ H1 Q I1 q1
 |false=>exact⟨.bl false,H1,I1,rfl,q1⟩
theorem cD(ha:PE X a ta)(hb:PE X (.BoolOp .Or (b::rest) pos) tb):PE X (.BoolOp .Or (a::b::rest) pos) (bo ta tb):=by
 intro pins s σ H Q I h;refine BoolOp_or (AI (ha pins s σ H _ I h) λv s1 ⟨x,H1,I1,r1,q1⟩=>?_);obtain⟨c,rfl,q1⟩:=q1;cases r1;refine wpAny_truthy_bool ?_;cases c with
 |false=>exact hb pins s1 σ H1 Q I1 q1
 |true=>exact⟨.bl true,H1,I1,rfl,q1⟩
theorem Q6(ha:PE X a ta):PE X (.UnaryOp .Not a pos) (bq ta):=by
 intro pins s σ H Q I h;refine UnaryOp_ (AI (ha pins s σ H _ I h) λv s1 ⟨x,H1,I1,r1,q1⟩=>?_);obtain⟨c,rfl,q1⟩:=q1;cases r1;exact not_of (wpAny_truthy_bool ⟨.bl (!c),H1,I1,rfl,q1⟩)
end
def Eg(K:PySem.W.Frag)(H:Hp)(a:Addr)(xs:List V):Prop:=
 Rd H a (.lst xs)\/
  ∃(o:Obj) (its:Array Value) (n:Nat),K.lookup a=some o/\o.cls= .type "list"/\o.dict=none/\o.data= .seq its n/\its.size<=sizeLine/\Vals xs its.toList
def ED(K:PySem.W.Frag)(H:Hp)(a:Addr)(xs:List V):Prop:=
 Rd H a (.tup xs)\/
  ∃(o:Obj) (its:Array Value) (n:Nat),K.lookup a=some o/\o.cls= .type "tuple"/\o.data= .seq its n/\its.size<=sizeLine/\Vals xs its.toList
noncomputable def jE:Value->Option V
 |.none=>some .Ai
 |.bool b=>some (.bl b)
 |.int i _=>some (.int i)
 |.str x _=>some (.str x)
 |.bytes b _=>some (.WE b)
 |.float b _=>some (.gg b)
 |.ref a=>some (.ref a)
 |.type n=>some (.ty n)
 |_=>none
theorem RelV.abs(r:RelV x u):jE u=some x:=by
 cases x with
 |Ai=>cases r;rfl
 |bl _=>cases r;rfl
 |int _=>obtain⟨t,rfl⟩:=r;rfl
 |str _=>obtain⟨t,rfl⟩:=r;rfl
 |WE _=>obtain⟨t,rfl⟩:=r;rfl
 |gg _=>obtain⟨t,rfl⟩:=r;rfl
 |ref _=>cases r;rfl
 |ty _=>cases r;rfl
theorem RelV.inj(r:RelV x u)(q:RelV y u):x=y:=Option.some.inj (r.abs.symm.trans q.abs)
theorem Vals.inj:∀{xs ys:List V} {us:List Value},Vals xs us->Vals ys us->xs=ys
 |_,_,_,.nil,.nil=>rfl
 |_,_,_,.cons r t,.cons r' t'=>by rw[r.inj r',Vals.inj t t']
section
variable{σ:St}{a:Addr}{xs ys:List V}
theorem Eg.of{K:PySem.W.Frag}(h:H a=some (.lst xs)):Eg K H a xs:=.inl (.inl h)
theorem ED.of{K:PySem.W.Frag}(h:H a=some (.tup xs)):ED K H a xs:=.inl (.inl h)
theorem Inv.list(I:Inv X pins σ H s)(h:Eg X.K H a xs):∃its:List Value,Vals xs its/\PlainL s.heap a its.toArray/\xs.length<=sizeLine:=by
 rcases h with h|⟨o,its,n,hk,hc,hd,hs,hz,r⟩
 .obtain⟨z,its,n,r,e⟩:=h.ok I.Ak;exact⟨its,r,⟨_,n,e,rfl,rfl,rfl⟩,z⟩
 .refine⟨its.toList,r,⟨o,n,I.BX a o hk,hc,hd,by simpa using hs⟩,?_⟩;have e:=r.length;simp only[Array.length_toList]at e
  lia
theorem Inv.tuple(I:Inv X pins σ H s)(h:ED X.K H a xs):∃its:List Value,Vals xs its/\IsTup s.heap a its.toArray/\xs.length<=sizeLine:=by
 rcases h with h|⟨o,its,n,hk,hc,hs,hz,r⟩
 .obtain⟨z,its,r,p⟩:=h.ok I.Ak;exact⟨its,r,p,z⟩
 .refine⟨its.toList,r,⟨o,I.BX a o hk,hc,n,by simpa using hs⟩,?_⟩;have e:=r.length;simp only[Array.length_toList]at e
  lia
theorem Inv.Ka(I:Inv X pins σ H s)(h:Eg X.K H a xs)(h':Eg X.K H a ys):xs=ys:=by
 obtain⟨its,r,⟨o,n,e,_,_,d⟩,_⟩:=I.list h;obtain⟨its',r',⟨o',n',e',_,_,d'⟩,_⟩:=I.list h';rw[e]at e';cases e';rw[d]at d';injection d' with d1 _
 have:its=its':=by simpa using congrArg Array.toList d1
 subst this;exact r.inj r'
theorem Inv.Nn(I:Inv X pins σ H s)(h:ED X.K H a xs)(h':ED X.K H a ys):xs=ys:=by
 obtain⟨its,r,⟨o,e,_,n,d⟩,_⟩:=I.tuple h;obtain⟨its',r',⟨o',e',_,n',d'⟩,_⟩:=I.tuple h';rw[e]at e';cases e';rw[d]at d';injection d' with d1 _
 have:its=its':=by simpa using congrArg Array.toList d1
 subst this;exact r.inj r'
end
abbrev Cx.EF(X:Cx)(E:Value->Shared->Prop):Cx:={X with xe:=E}
theorem Cx.Ok.EF(ok:X.Ok)(E:Value->Shared->Prop):(X.EF E).Ok:=
 ⟨ok.mod,ok.kind,ok.glob,ok.blt,ok.above,ok.inj,ok.has,ok.Zb,ok.hd,ok.frames,ok.bE,ok.dY,ok.bs,ok.RD,ok.O1,ok.Ov,ok.E6,ok.Uz⟩
theorem Cx.Ok.Ir{E:Value->Shared->Prop}(ok:(X.EF E).Ok):X.Ok:=
 ⟨ok.mod,ok.kind,ok.glob,ok.blt,ok.above,ok.inj,ok.has,ok.Zb,ok.hd,ok.frames,ok.bE,ok.dY,ok.bs,ok.RD,ok.O1,ok.Ov,ok.E6,ok.Uz⟩
section
variable{σ:St}{E:Value->Shared->Prop}
theorem Inv.EF(I:Inv X pins σ H s)(E:Value->Shared->Prop):Inv (X.EF E) pins σ H s:=⟨I.ok.EF E,I.os,I.bare,I.base,I.loc,I.cell,I.free,I.Cu,I.pin,I.Ak,I.len⟩
theorem Inv.Ir(I:Inv (X.EF E) pins σ H s):Inv X pins σ H s:=⟨I.ok.Ir,I.os,I.bare,I.base,I.loc,I.cell,I.free,I.Cu,I.pin,I.Ak,I.len⟩
end
section
variable{st:Stmt}{rest:List Stmt}{t u:TS}{e:Expr}{te:TE}{pos:Pos}
def Mp:TS:=λD σ H=>D.nx σ H
def bh(t u:TS):TS:=λD σ H=>t {D with nx:=u D} σ H
theorem MD:Mf X [] Mp:=λ_ _ σ H _ I h=>wpAny_execs_nil ⟨σ,H,I,h⟩
theorem Gs(h1:PS X st t)(h2:Mf X rest u):Mf X (st::rest) (bh t u):=by
 intro pins s σ H D I h;refine wpAny_execs_cons (AI (h1 pins s σ H {D with nx:=u D} I h) λf s1 q=>?_);cases f with
 |next=>
   obtain⟨σ',H',I',q⟩:=q;exact h2 pins s1 σ' H' D I' q
 |ret v=>exact q
 |brk=>exact q
 |cont=>exact q
def OZ:TS:=λD σ H=>D.bk σ H
def VR:TS:=λD σ H=>D.ct σ H
theorem Tt:PS X (.Pass pos) Mp:=λ_ _ σ H _ I h=>wpAny_Pass ⟨σ,H,I,h⟩
theorem PU:PS X (.Break pos) OZ:=λ_ _ σ H _ I h=>wpAny_Break ⟨σ,H,I,h⟩
theorem JW:PS X (.Continue pos) VR:=λ_ _ σ H _ I h=>wpAny_Continue ⟨σ,H,I,h⟩
theorem Inv.quiet{pins:List (Addr×Obj)}{σ:St}{H:Hp}{s:Shared}(I:Inv X pins σ H s):interactive X.env=false:=by simp[interactive,I.ok.kind]
theorem XJ{x j pos pos'}:PS X (.Expr (.Constant (.str x) j pos) pos') Mp:=λ_ s σ H _ I h=>wpAny_Expr (Calls.Constant_str (show SP X _ _ .next {s with toks:=s.toks+1}from⟨σ,H,I.tok _,h⟩)) I.quiet
def VQ(te:TE):TS:=λD σ H=>te σ H λ_ H1=>D.nx σ H1
theorem Tu(he:PE X e te)(hs:swapsWith e none pos.line X.env=pure false:=by rfl):PS X (.Expr e pos) (VQ te):=by
 intro pins s σ H D I h;exact wpAny_Expr_any (AI (he pins s σ H _ I h) λv s1 ⟨x,H1,I1,r1,q1⟩=>⟨σ,H1,I1,q1⟩) I.quiet hs
def bj(te:TE):TS:=λD σ H=>te σ H D.rt
theorem XG(he:PE X e te):PS X (.Return (some e) pos) (bj te):=by
 intro pins s σ H D I h;exact wpAny_Return_some (AI (he pins s σ H _ I h) λv s1 ⟨x,H1,I1,r1,q1⟩=>⟨x,σ,H1,I1,r1,q1⟩)
def VO:TS:=λD _ H=>D.rt .Ai H
theorem Ts:PS X (.Return none pos) VO:=λ_ _ σ H _ I h=>wpAny_Return_none ⟨.Ai,σ,H,I,rfl,h⟩
def br(c:TT)(t u:TS):TS:=λD σ H=>c σ H λb H1=>if b=true then t D σ H1 else u D σ H1
theorem cz{a b:List Stmt}{tc:TT}(hc:PT X c tc)(ha:Mf X a t)(hb:Mf X b u):PS X (.If c a b pos) (br tc t u):=by
 intro pins s σ H D I h;refine wpAny_If (AI (hc pins s σ H _ I h) λd s1 ⟨H1,I1,q1⟩=>?_);cases d with
 |true=>exact ha pins s1 σ H1 D I1 q1
 |false=>exact hb pins s1 σ H1 D I1 q1
end
abbrev TG:=V->St->Hp->(St->Hp->Prop)->Prop
abbrev WL:=List V->St->Hp->(St->Hp->Prop)->Prop
def PG(X:Cx)(target:Expr)(t:TG):Prop:=
 ∀ (pins:List (Addr×Obj)) (s:Shared) (σ:St) (H:Hp) (v:V) (u:Value) (Q:St->Hp->Prop),Inv X pins σ H s->RelV v u->t v σ H Q->
   wpAny (model X.prog X.w) X.A (assign target X.env u) (λ_ s'=>∃σ' H',Inv X pins σ' H' s'/\Q σ' H') X.xe s
def fB(X:Cx)(ts:List Expr)(t:WL):Prop:=
 ∀ (pins:List (Addr×Obj)) (s:Shared) (σ:St) (H:Hp) (vs:List V) (us:List Value) (Q:St->Hp->Prop),Inv X pins σ H s->Vals vs us->t vs σ H Q->
   wpAny (model X.prog X.w) X.A (assignInOrder ((assignEach ts X.env).map (·.2)) us) (λ_ s'=>∃σ' H',Inv X pins σ' H' s'/\Q σ' H') X.xe s
variable{pos:Pos}
def Ed(i:Nat):TG:=λv σ H Q=>Q (σ.set i (some v)) H
theorem MH{i:Nat}{x:Str}(hN:X.N.Nodup)(hi:X.N[i]? =some x)(hx:Loc X.env.scope x)(hf:X.fn x=true\/X.env.scope.names.lookup x=some .local:=by first|exact .inl rfl|exact .inr rfl|assumption):PG X (.Name x pos) (Ed i):=by
 intro pins s σ H v u Q I r h;exact wpAny_assign_Name (Dp I hN hi hx r (λs' I'=>⟨_,H,I',h⟩) hf)
def dN:WL:=λvs σ H Q=>vs=[]/\Q σ H
def Wu(t:TG)(u:WL):WL:=λvs σ H Q=>∃v r,vs=v::r/\t v σ H λσ' H'=>u r σ' H' Q
theorem TH:fB X [] dN:=by
 intro pins s σ H vs us Q I r h;obtain⟨e,h⟩:=h;subst e;cases r;exact assignInOrder_nil ⟨σ,H,I,h⟩
theorem Q1{es:List Expr}{t:TG}{u:WL}(h1:PG X e t)(h2:fB X es u)
 (hs:(assignEach (e::es) X.env).map (·.2)=assign e X.env::(assignEach es X.env).map (·.2):=by rfl):fB X (e::es) (Wu t u):=by
 intro pins s σ H vs us Q I r h;obtain⟨v,vr,e1,h⟩:=h;subst e1;cases r with
 |cons r rr=>
   rw[hs];refine assignInOrder_cons (AI (h1 pins s σ H _ _ _ I r h) λ_ s1 ⟨σ1,H1,I1,q1⟩=>?_);exact h2 pins s1 σ1 H1 _ _ Q I1 rr q1
noncomputable def YJ(K:PySem.W.Frag)(n:Nat)(t:WL):TG:=λv σ H Q=>∃a xs,v= .ref a/\ED K H a xs/\xs.length=n/\t xs σ H Q
variable{n:Nat}
theorem XO{es:List Expr}{k:Nat}{t:WL}(hc:X.calm=true)(h:fB X es t)
 (hn:(assignEach es X.env).length=n:=by rfl)(hst:(assignEach es X.env).findIdx? (·.1)=none:=by rfl):PG X (.Tuple es k pos) (YJ X.K n t):=by
 intro pins s σ H v u Q I r hw;obtain⟨a,xs,e1,hq,hl,hw⟩:=hw;subst e1;cases r;obtain⟨its,rv,ht,hz⟩:=I.tuple hq;refine assign_Tuple_tuple (I.ok.hd hc) ht (by simp[hn,<-hl,rv.length]) hst λh' hx=>?_
 have I1:Inv X pins σ H {s with heap:=h'}:=I.kept (t':=s.toks) λb o e=>hx b o (Nat.ne_of_lt (Heap.lt_size e)) e
 exact h pins _ σ H xs _ Q I1 (by simpa using rv) hw
def P0(te:TE)(g:TG):TS:=λD σ H=>te σ H λx H1=>g x σ H1 D.nx
variable{te:TE}
theorem XM{tg:Expr}{g:TG}(he:PE X e te)(hg:PG X tg g)(hs:swapsWithSole [tg] e pos.line X.env=pure false:=by rfl)(hw:swappedStores [tg] e X.env=pure none:=by rfl)
 (h1:(assignEach [tg] X.env).map (·.2)=[assign tg X.env]:=by rfl):PS X (.Assign [tg] e pos) (P0 te g):=by
 intro pins s σ H D I h;refine wpAny_Assign_stores (AI (he pins s σ H _ I h) λv s1 ⟨x,H1,I1,r1,q1⟩=>?_) hs hw;rw[h1];exact AI (hg pins s1 σ H1 x v _ I1 r1 q1) λ_ s2 q=>q
theorem En{i:Nat}{x:Str}{pos':Pos}(hN:X.N.Nodup)(hi:X.N[i]? =some x)(hx:Loc X.env.scope x)(he:PE X e te)(hs:swapsWith e (some (.Name x pos')) pos.line X.env=pure false:=by rfl)(hf:X.fn x=true\/X.env.scope.names.lookup x=some .local:=by first|exact .inl rfl|exact .inr rfl|assumption):
 PS X (.Assign [.Name x pos'] e pos) (P0 te (Ed i)):=by
 intro pins s σ H D I h;refine wpAny_Assign_Name (AI (he pins s σ H _ I h) λv s1 ⟨y,H1,I1,r1,q1⟩=>?_) hs;exact Dp I1 hN hi hx r1 (λs2 I2=>⟨_,H1,I2,q1⟩) hf
noncomputable def OV(c:TT)(tb:TS):TS:=λD σ H=>∃W:Nat->St->Hp->Prop,(∃m,W m σ H)/\∀m σ H,W m σ H->
 c σ H λb H1=>if b=true then ∃N:St->Hp->Prop,(∀σ' H',N σ' H'->∃m',m' < m/\W m' σ' H')/\tb {D with nx:=N,ct:=N,bk:=D.nx} σ H1 else D.nx σ H1
variable{body:List Stmt}
theorem PO{tc:TT}{tb:TS}(hp:PassesOwn (model X.prog X.w) X.A X.env X.xe)(hc:PT X c tc)(hb:Mf X body tb):PS X (.While c body [] pos) (OV tc tb):=by
 intro pins s σ H D I h;obtain⟨W,⟨m0,w0⟩,turn⟩:=h;refine wpAny_While (codeAny_whileLoop (λn s'=>∃σ' H',Inv X pins σ' H' s'/\W n σ' H') ?_ m0 ⟨σ,H,I,w0⟩)
 rintro n s1 ⟨σ1,H1,I1,w1⟩
 refine wpAny_passesOwn hp (AI (hc pins s1 σ1 H1 _ I1 (turn n σ1 H1 w1)) λb s2 ⟨H2,I2,q2⟩=>?_);cases b with
 |true=>
   obtain⟨N,hN,q2⟩:=q2;rw[iP rfl];refine wpAny_passesOwn hp (AI (hb pins s2 σ1 H2 _ I2 q2) λf s3 q3=>?_);cases f with
   |next=>
     obtain⟨σ3,H3,I3,n3⟩:=q3;obtain⟨m',hm,w3⟩:=hN σ3 H3 n3;exact⟨m',hm,σ3,H3,I3,w3⟩
   |cont=>
     obtain⟨σ3,H3,I3,n3⟩:=q3;obtain⟨m',hm,w3⟩:=hN σ3 H3 n3;exact⟨m',hm,σ3,H3,I3,w3⟩
   |brk=>exact q3
   |ret v=>exact q3
 |false=>
   rw[iN Bool.false_ne_true];exact wpAny_execs_nil ⟨σ1,H2,I2,q2⟩
structure It where
 go:Nat->Hp->Prop
 KY:Nat->Hp->V->Hp->Prop
 stop:Nat->Hp->Prop
def FF(X:Cx)(pins:List (Addr×Obj))(H:Hp)(b:Addr):Prop:=
 H b=none/\b≠X.env.locals/\b∉X.fs/\(b∈X.ex\/X.s₀.heap.objs.size<=b)/\(∀x c,X.env.cells.lookup x=some c->c≠b)/\∀p∈X.pn++pins,p.1≠b
theorem Inv.Ou{pins:List (Addr×Obj)}{σ:St}{H':Hp}{b:Addr}(I:Inv X pins σ H s)(hb:s.heap.objs.size<=b)(hn:H' b=none):FF X pins H' b:=by
 refine⟨hn,Nat.ne_of_gt (Nat.lt_of_lt_of_le I.lt hb),I.Y7 hb,.inr (Nat.le_trans I.sz hb),λx c e z=>?_,λp hp z=>?_⟩
 .obtain⟨v,q⟩:=I.cell x c e;exact absurd (Nat.lt_of_lt_of_le q.lt (by rw[z];exact hb)) (Nat.lt_irrefl _)
 .exact absurd (Nat.lt_of_lt_of_le (Heap.lt_size (I.pin p hp).1) (by rw[z];exact hb)) (Nat.lt_irrefl _)
structure Turn(P:Program)(w:World)(K:PySem.W.Frag)(tg:Expr)(J:It)(fp:List Addr)(it:Addr)(tn:Nat->Heap->Prop):Prop where
 mem:it∈fp
 obj:∀i h,tn i h->∀b∈fp,∃o,h.get? b=some o/\∀v,o.data≠.cell v
 keep:∀i h h',tn i h->(∀b∈fp,∀o,h.get? b=some o->h'.get? b=some o)->tn i h'
 item:∀(X:Cx),X.prog=P->X.w=w->X.K=K->X.calm=true->∀(i:Nat) (pins:List (Addr×Obj)) (s:Shared) (σ:St) (H:Hp) (E:Value->Shared->Prop),Inv X pins σ H s->(∀b∈fp,FF X pins H b)->tn i s.heap->J.go i H->
  wpAny (model P w) X.A (pyNext (.ref it)) (λr s1=>∃u,r=some u/\
   wpAny (model P w) X.A (letOwnedTupleGo tg (.ref it) u) (λ_ s2=>∃x H',Inv X pins σ H' s2/\RelV x u/\J.KY i H x H'/\tn (i+1) s2.heap/\∀b∈fp,H' b=none) E s1) E s
 done:∀(X:Cx),X.prog=P->X.w=w->X.K=K->X.calm=true->∀(i:Nat) (pins:List (Addr×Obj)) (s:Shared) (σ:St) (H:Hp) (E:Value->Shared->Prop),Inv X pins σ H s->(∀b∈fp,FF X pins H b)->tn i s.heap->J.stop i H->
  wpAny (model P w) X.A (pyNext (.ref it)) (λr s1=>r=none/\Inv X pins σ H s1) E s
 self:∀(A:Around) (i:Nat) (s:Shared) (Q:Value->Shared->Prop) (E:Value->Shared->Prop),tn i s.heap->Q (.ref it) s->wpAny (model P w) A (pyIter (.ref it)) Q E s
abbrev TI:=St->Hp->(It->Hp->Prop)->Prop
def kh(X:Cx)(pins:List (Addr×Obj))(σ:St)(tg:Expr)(R:It->Hp->Prop)(itv:Value)(s2:Shared):Prop:=
 ∃(it:Addr) (fp:List Addr) (tn:Nat->Heap->Prop) (J:It) (H':Hp),itv= .ref it/\Inv X pins σ H' s2/\Turn X.prog X.w X.K tg J fp it tn/\tn 0 s2.heap/\(∀b∈fp,FF X pins H' b)/\R J H'
def PI(X:Cx)(tg iter:Expr)(wi:TI):Prop:=
 ∀ (pins:List (Addr×Obj)) (s:Shared) (σ:St) (H:Hp) (R:It->Hp->Prop),Inv X pins σ H s->wi σ H R->
   wpAny (model X.prog X.w) X.A (eval iter X.env) (λv s1=>wpAny (model X.prog X.w) X.A (pyIter v) (kh X pins σ tg R) X.xe s1) X.xe s
theorem HP{E:Value->Shared->Prop}{tg:Expr}{u:Value}{o:Obj}{n:String}{vs:Array Value}{Q:Unit->Shared->Prop}(ho:s.heap.get? it=some o)(hc:o.cls= .type n)(hd:o.data= .fields vs)
 (hn:["enumerate","zip","dict_itemiterator","dict_reverseitemiterator","odict_iterator","itertools.zip_longest","itertools.pairwise"].contains n=false)(hQ:Q () s):wpAny M A (letOwnedTupleGo tg (.ref it) u) Q E s:=by
 unfold letOwnedTupleGo
 cases tg <;>first
  |exact wP hQ
  |(cases u<;>first
   |exact wP hQ
   | (refine wpAny_bind (wpAny_load ho ?_)
      rw[hc,hd];show wpAny M A (if(["enumerate","zip","dict_itemiterator","dict_reverseitemiterator","odict_iterator","itertools.zip_longest","itertools.pairwise"].contains n && vs[0]? == some (rawInt _))=true then _ else _) Q E s;rw[iN (by intro h;rw[hn,Bool.false_and]at h;cases h)]
      exact wP hQ))
noncomputable def kn(K:PySem.W.Frag)(a:Addr):It:=
 ⟨λi H=>∃xs x,Eg K H a xs/\xs[i]? =some x,λi H x H'=>H'=H/\∀xs,Eg K H a xs->xs[i]? =some x,λi H=>∃xs,Eg K H a xs/\xs.length<=i⟩
noncomputable def kj(K:PySem.W.Frag)(a:Addr):It:=
 ⟨λi H=>∃xs x,ED K H a xs/\xs[i]? =some x,λi H x H'=>H'=H/\∀xs,ED K H a xs->xs[i]? =some x,λi H=>∃xs,ED K H a xs/\xs.length<=i⟩
def aS(lo:Int)(n:Nat):It:=⟨λi _=>i < n,λi H x H'=>H'=H/\x= .int (lo+i),λi _=>n<=i⟩
theorem Nm{P:Program}{K:PySem.W.Frag}{tg:Expr}(a it:Addr):Turn P w K tg (kn K a) [it] it (λi h=>h.IsListIter it a i) where
 mem:=by simp
 obj:=λi h st b hb=>by
  have e:b=it:=by simpa using hb
  subst e;obtain⟨o,e,c,d⟩:=st;exact⟨o,e,λv z=>by rw[d]at z;cases z⟩
 keep:=λi h h' st k=>st.at λo e=>k it (by simp) o e
 item:=by
  intro X hP hw hK hc i pins s σ H E I hf st hg;subst hP hw hK;obtain⟨xs,x,hq,hx⟩:=hg;obtain⟨its,rv,p,hz⟩:=I.list hq;obtain⟨u,hu,ru⟩:=rv.get hx;obtain⟨f0,f1,f2,f3,f4,f5⟩:=hf it (by simp);refine wpAny_pyNext_list_item st p.isList (x:=u) (by simpa using hu) λh' st' sb=>?_
  have I1:Inv X pins σ H {s with heap:=h'}:=I.turned (t':=s.toks) (λb o hb e=>(sb.2 b hb).trans e) f0 f1 f3 f4 f5;obtain⟨o,e,c,d⟩:=id st';exact⟨u,rfl,HP (s:={s with heap:=h'}) e c d (by decide) ⟨x,H,I1,ru,⟨rfl,λys hy=>by rw[I.Ka hy hq];exact hx⟩,st',λb hb=>(hf b hb).1⟩⟩
 done:=by
  intro X hP hw hK hc i pins s σ H E I hf st hg;subst hP hw hK;obtain⟨xs,hq,hx⟩:=hg;obtain⟨its,rv,p,hz⟩:=I.list hq;obtain⟨f0,f1,f2,f3,f4,f5⟩:=hf it (by simp);have hl:=rv.length;exact wpAny_pyNext_list_end (I.ok.hd hc) st p.isList (by simp;lia) λh' eb=>⟨rfl,I.turned (t':=s.toks) (λb o hb e=>eb b o hb e) f0 f1 f3 f4 f5⟩
 self:=λ_ _ _ _ _ st h=>wpAny_pyIter_listiter st h
theorem L1{P:Program}{K:PySem.W.Frag}{tg:Expr}(a it:Addr):Turn P w K tg (kj K a) [it] it (λi h=>h.IsTupleIter it a i) where
 mem:=by simp
 obj:=λi h st b hb=>by
  have e:b=it:=by simpa using hb
  subst e;obtain⟨o,e,c,d⟩:=st;exact⟨o,e,λv z=>by rw[d]at z;cases z⟩
 keep:=λi h h' st k=>st.at λo e=>k it (by simp) o e
 item:=by
  intro X hP hw hK hc i pins s σ H E I hf st hg;subst hP hw hK;obtain⟨xs,x,hq,hx⟩:=hg;obtain⟨its,rv,p,hz⟩:=I.tuple hq;obtain⟨u,hu,ru⟩:=rv.get hx;obtain⟨f0,f1,f2,f3,f4,f5⟩:=hf it (by simp);refine wpAny_pyNext_tuple_item st (show s.heap.IsTuple a its.toArray from p) (x:=u) (by simpa using hu) λh' st' sb=>?_
  have I1:Inv X pins σ H {s with heap:=h'}:=I.turned (t':=s.toks) (λb o hb e=>(sb.2 b hb).trans e) f0 f1 f3 f4 f5;obtain⟨o,e,c,d⟩:=id st';exact⟨u,rfl,HP (s:={s with heap:=h'}) e c d (by decide) ⟨x,H,I1,ru,⟨rfl,λys hy=>by rw[I.Nn hy hq];exact hx⟩,st',λb hb=>(hf b hb).1⟩⟩
 done:=by
  intro X hP hw hK hc i pins s σ H E I hf st hg;subst hP hw hK;obtain⟨xs,hq,hx⟩:=hg;obtain⟨its,rv,p,hz⟩:=I.tuple hq;obtain⟨f0,f1,f2,f3,f4,f5⟩:=hf it (by simp);have hl:=rv.length;exact wpAny_pyNext_tuple_end (I.ok.hd hc) st (show s.heap.IsTuple a its.toArray from p) (by simp;lia) λh' eb=>⟨rfl,I.turned (t':=s.toks) (λb o hb e=>eb b o hb e) f0 f1 f3 f4 f5⟩
 self:=λ_ _ _ _ _ st h=>wpAny_pyIter_tupleiter st h
theorem L4{P:Program}{K:PySem.W.Frag}{tg:Expr}(it:Addr)(lo:Int)(n:Nat):Turn P w K tg (aS lo n) [it] it (λi h=>IsRangeIter h it (lo + (i:Nat) * 1) ((n:Int) - (i:Nat)) 1) where
 mem:=by simp
 obj :=λi h st b hb=>by
  have e:b=it:=by simpa using hb
  subst e
  exact⟨_,st,λv z=>by
   have z':Data.fields _=Data.cell v:=z
   cases z'⟩
 keep:=λi h h' st k=>k it (by simp) _ st
 item:=by
  intro X hP hw hK hc i pins s σ H E I hf st hg;subst hP hw hK;obtain⟨f0,f1,f2,f3,f4,f5⟩:=hf it (by simp);have W:=Walks.range (prog:=X.prog) (w:=X.w) (I.ok.hd hc) it lo 1 n;refine W.item i s _ _ hg st λv h' tk hv st' kk=>?_
  obtain⟨t,rfl⟩:=hv;have I1:Inv X pins σ H {s with heap:=h',toks:=tk}:=I.turned (λb o hb e=>kk b o (by simpa using hb) e) f0 f1 f3 f4 f5;refine⟨_,rfl,HP (s:={s with heap:=h',toks:=tk}) (n:="range_iterator") st' rfl rfl (by decide) ⟨.int (lo+i),H,I1,⟨t,?_⟩,⟨rfl,rfl⟩,st',λb hb=>(hf b hb).1⟩⟩;rw[Int.mul_one]
 done:=by
  intro X hP hw hK hc i pins s σ H E I hf st hg;subst hP hw hK;obtain⟨f0,f1,f2,f3,f4,f5⟩:=hf it (by simp);exact wpAny_pyNext_range_end (I.ok.hd hc) st (by have:n<=i:=hg;lia) λh' eb=>⟨rfl,I.turned (t':=s.toks) (λb o hb e=>eb b o hb e) f0 f1 f3 f4 f5⟩
 self:=λ_ _ _ _ _ st h=>wpAny_pyIter_rangeiter st h
section
variable{tg:Expr}
variable{pins:List (Addr×Obj)}{H:Hp}{s:Shared}
theorem JS{σ:St}{R:It->Hp->Prop}{E:Value->Shared->Prop}{lo hi:Int}{t u v:Tok}{tk:Nat}(I:Inv X pins σ H s)(h1: -(2 ^ 62)<=lo)(h2:lo < 2 ^ 62)(h3: -(2 ^ 62)<=hi)(h4:hi < 2 ^ 62)
 (q:R (aS lo (hi-lo).toNat) H):wpAny (model X.prog X.w) X.A (pyIter (.ref s.heap.objs.size)) (kh X pins σ tg R) E {s with heap:=s.heap.push {cls:=.type "range",data:=.fields #[.int lo t,.int hi u,.int 1 v]},toks:=tk}:=by
 refine wpAny_pyIter_range (IsRange.new ..) (small_one h1 h2 h3 h4) ?_;have I1:Inv X pins σ H {s with heap:=s.heap.push {cls:=.type "range",data:=.fields #[.int lo t,.int hi u,.int 1 v]},toks:=tk}:=I.kept λb o e=>gP e
 refine⟨(s.heap.push {cls:=.type "range",data:=.fields #[.int lo t,.int hi u,.int 1 v]}).objs.size,[(s.heap.push {cls:=.type "range",data:=.fields #[.int lo t,.int hi u,.int 1 v]}).objs.size],_,_,H,rfl,
  I1.kept (t':=tk) λb o e=>gP e,L4 _ lo (hi-lo).toNat,?_,λb hb=>?_,q⟩
 .have e1:lo+((0:Nat):Int)*1=lo:=by simp
  have e2:(((hi-lo).toNat:Nat):Int)-((0:Nat):Int)=Builtin.Range.rangeSize lo hi 1:=by rw[rangeSize_one];split<;>lia
  show IsRangeIter _ _ (lo+((0:Nat):Int)*1) ((((hi-lo).toNat:Nat):Int)-((0:Nat):Int)) 1;rw[e1,e2];exact Heap.get?_push_size _ rfl
 .have e:b=(s.heap.push {cls:=.type "range",data:=.fields #[.int lo t,.int hi u,.int 1 v]}).objs.size:=by simpa using hb
  subst e;exact I1.Ou (lR) (I1.Ak.fresh (lR))
noncomputable def dI(ta:TA):TI:=λσ H R=>ta σ H λvs H1=>∃j:Int,vs=[.int j]/\-(2 ^ 62)<=j/\j < 2 ^ 62/\R (aS 0 j.toNat) H1
noncomputable def dH(ta:TA):TI:=λσ H R=>ta σ H λvs H1=>∃i j:Int,vs=[.int i,.int j]/\(-(2 ^ 62)<=i/\i < 2 ^ 62/\-(2 ^ 62)<=j/\j < 2 ^ 62)/\R (aS i (j-i).toNat) H1
variable{pos:Pos}
theorem NR{a:Expr}{ta:TA}{p:Pos}(hg:Gl X "range")(hm:X.mg "range"=none)(ha:PA X [a] ta)(hs:starEach [a] X.env=[(false,eval a X.env)]:=by rfl):PI X tg (.Call (.Name "range" p) [a] [] pos) (dI ta):=by
 intro pins s σ H R I h;refine Call_ (Er I hg hm boot_range (PyProof.Rows.callWith_type1 (AI (ha pos pins s σ H _ I h) λus s1 ⟨vs,H1,I1,r1,q1⟩=>?_) hs rfl));obtain⟨j,e,q1,q2,q⟩:=q1;subst e;cases r1 with
 |cons r rr=>
   cases rr;obtain⟨t,rfl⟩:=r;exact call_range_1 (JS I1 (by lia) (by lia) q1 q2 (by simpa using q))
theorem NQ{a b:Expr}{ta:TA}{p:Pos}(hg:Gl X "range")(hm:X.mg "range"=none)(ha:PA X [a,b] ta)(hs:starEach [a,b] X.env=[(false,eval a X.env),(false,eval b X.env)]:=by rfl)(hs2:starEach [b] X.env=[(false,eval b X.env)]:=by rfl):
 PI X tg (.Call (.Name "range" p) [a,b] [] pos) (dH ta):=by
 intro pins s σ H R I h;refine Call_ (Er I hg hm boot_range (PyProof.Rows.callWith_type1 (AI (ha pos pins s σ H _ I h) λus s1 ⟨vs,H1,I1,r1,q1⟩=>?_) (by rw[hs,hs2]) (by rw[hs2];rfl)));obtain⟨i,j,e,⟨q1,q2,q3,q4⟩,q⟩:=q1;subst e;cases r1 with
 |cons r rr=>
   cases rr with
   |cons r' rr=>
     cases rr;obtain⟨t,rfl⟩:=r;obtain⟨t',rfl⟩:=r';exact call_range_2 (JS I1 q1 q2 q3 q4 q)
noncomputable def bu(wi:TI)(g:TG)(tb:TS):TS:=λD σ H=>wi σ H λJ H1=>∃W:Nat->Nat->St->Hp->Prop,(∃m,W 0 m σ H1)/\∀i m σ H,W i m σ H->
 (J.stop i H/\D.nx σ H)\/(J.go i H/\∃N:St->Hp->Prop,(∀σ' H',N σ' H'->∃m',m' < m/\W (i+1) m' σ' H')/\∀x H',J.KY i H x H'->g x σ H' λσ2 H2=>tb {D with nx:=N,ct:=N,bk:=D.nx} σ2 H2)
def IL(fp:List Addr)(h:Heap):List (Addr×Obj):=fp.filterMap λb=>(h.get? b).map λo=>(b,o)
variable{fp:List Addr}{h:Heap}
theorem BJ{b:Addr}{o:Obj}(hb:b∈fp)(e:h.get? b=some o):(b,o)∈IL fp h:=mem_filterMap.mpr ⟨b,hb,by rw[e];rfl⟩
theorem NW{p:Addr×Obj}(hp:p∈IL fp h):p.1∈fp/\h.get? p.1=some p.2:=by
 obtain⟨b,hb,e⟩:=mem_filterMap.mp hp;cases q:h.get? b with
 |none=>rw[q]at e;cases e
 |some o=>
   rw[q]at e;have e':(b,o)=p:=Option.some.inj e;subst e';exact⟨hb,q⟩
theorem Inv.pinned{σ:St}(I:Inv X pins σ H s)(hf:∀b∈fp,FF X pins H b)(ho:∀b∈fp,∃o,s.heap.get? b=some o/\∀v,o.data≠.cell v):Inv X (pins++IL fp s.heap) σ H s:=
 I.D6 λp hp=>(mem_append.mp hp).elim (λz=>I.pin p (mR z)) λz=>by
  obtain⟨hb,e⟩:=NW z;obtain⟨f0,f1,f2,_⟩:=hf p.1 hb;obtain⟨o,e',d⟩:=ho p.1 hb;rw[e]at e';cases e';exact⟨e,f0,f1,f2,d⟩
theorem Inv.Ga{pl:List (Addr×Obj)}{σ:St}(I:Inv X (pins++pl) σ H s):Inv X pins σ H s:=I.D6 λp hp=>I.pin p (mR (mL hp))
theorem XH{iter:Expr}{body:List Stmt}{wi:TI}{g:TG}{tb:TS}(hp:PassesOwn (model X.prog X.w) X.A X.env X.xe)(hc:X.calm=true)(hi:PI X tg iter wi)(hg:PG X tg g)(hb:Mf X body tb)
 (hs:∀x,foldedSetIterable iter X.env x=pure x:=by intro _;rfl):PS X (.For tg iter body [] pos) (bu wi g tb):=by
 intro pins s σ H D I h;refine wpAny_For (AI (hi pins s σ H _ I h) λv s1 h1=>AI h1 λitv s2 h2=>?_) hs;obtain⟨it,fp,tn,J,H2,e,I2,T,st2,f2,W,⟨m0,w0⟩,turn⟩:=h2;subst e;have stat:∀{H':Hp},(∀b∈fp,H' b=none)->∀b∈fp,FF X pins H' b:=λhn b hb=>⟨hn b hb,(f2 b hb).2⟩
 refine codeAny_forLoop_any (λn s'=>∃i σ' H',Inv X pins σ' H' s'/\tn i s'.heap/\(∀b∈fp,H' b=none)/\W i n σ' H') ?_ m0 ⟨0,σ,H2,I2,st2,λb hb=>(f2 b hb).1,w0⟩
 rintro n s3 ⟨i,σ3,H3,I3,st3,fr3,w3⟩
 rcases turn i n σ3 H3 w3 with⟨stop,qn⟩|⟨go,N,hN,step⟩
 .refine wpAny_passesOwn hp (AI (T.done X rfl rfl rfl hc i pins s3 σ3 H3 X.xe I3 (stat fr3) st3 stop) λr s4 ⟨hr,I4⟩=>?_);subst hr;exact wpAny_execs_nil ⟨σ3,H3,I4,qn⟩
 .refine wpAny_passesOwn hp (AI (T.item X rfl rfl rfl hc i pins s3 σ3 H3 X.xe I3 (stat fr3) st3 go) λr s4 ⟨u,hr,h4⟩=>?_);subst hr;refine wpAny_passesOwn hp (AI h4 λ_ s5 ⟨x,H5,I5,r5,y5,st5,fr5⟩=>?_);have I5':=I5.pinned (stat fr5) (T.obj _ _ st5);refine wpAny_passesOwn hp (AI (hg _ s5 σ3 H5 x u _ I5' r5 (step x H5 y5)) λ_ s6 ⟨σ6,H6,I6,q6⟩=>?_);refine wpAny_passesOwn hp (AI (hb _ s6 σ6 H6 _ I6 q6) λf s7 q7=>?_)
  have again:∀{σ7:St} {H7:Hp},Inv X (pins++IL fp s5.heap) σ7 H7 s7->N σ7 H7->∃m,m < n/\∃i σ' H',Inv X pins σ' H' s7/\tn i s7.heap/\(∀b∈fp,H' b=none)/\W i m σ' H':=λ{σ7 H7} I7 n7=>by
   obtain⟨m',hm,w7⟩:=hN σ7 H7 n7;refine⟨m',hm,i+1,σ7,H7,I7.Ga,T.keep _ _ _ st5 λb hb o e=>(I7.pin (b,o) (mR (mR (BJ hb e)))).1,λb hb=>?_,w7⟩;obtain⟨o,e,d⟩:=T.obj _ _ st5 b hb;exact(I7.pin (b,o) (mR (mR (BJ hb e)))).2.1
  cases f with
  |next=>obtain⟨σ7,H7,I7,n7⟩:=q7;exact again I7 n7
  |cont=>obtain⟨σ7,H7,I7,n7⟩:=q7;exact again I7 n7
  |brk=>obtain⟨σ7,H7,I7,q7⟩:=q7;exact⟨σ7,H7,I7.Ga,q7⟩
  |ret v=>obtain⟨x7,σ7,H7,I7,r7,q7⟩:=q7;exact⟨x7,σ7,H7,I7.Ga,r7,q7⟩
end
abbrev R2:=V->V->Hp->VK->Prop
def BP(X:Cx)(f:Value->Value->Sem Value)(r:R2):Prop:=
 ∀ (pins:List (Addr×Obj)) (s:Shared) (σ:St) (H:Hp) (x y:V) (v u:Value) (Q:VK),Inv X pins σ H s->RelV x v->RelV y u->r x y H Q->
   wpAny (model X.prog X.w) X.A (f v u) (EP X pins σ Q) X.xe s
def WK(X:Cx)(f:Value->Sem Value)(r:V->Hp->VK->Prop):Prop:=
 ∀ (pins:List (Addr×Obj)) (s:Shared) (σ:St) (H:Hp) (x:V) (v:Value) (Q:VK),Inv X pins σ H s->RelV x v->r x H Q->
   wpAny (model X.prog X.w) X.A (f v) (EP X pins σ Q) X.xe s
def Bk(X:Cx)(f:Value)(r:List V->Hp->VK->Prop):Prop:=
 ∀ (pins:List (Addr×Obj)) (s:Shared) (σ:St) (H:Hp) (xs:List V) (us:List Value) (Q:VK),Inv X pins σ H s->Vals xs us->r xs H Q->
   wpAny (model X.prog X.w) X.A (call f us) (EP X pins σ Q) X.xe s
def fz(X:Cx)(r:V->Hp->(Bool->Hp->Prop)->Prop):Prop:=
 ∀ (pins:List (Addr×Obj)) (s:Shared) (σ:St) (H:Hp) (x:V) (v:Value) (Q:Bool->Hp->Prop),Inv X pins σ H s->RelV x v->r x H Q->
   wpAny (model X.prog X.w) X.A (truthy v) (TP X pins σ Q) X.xe s
def fS(r:R2)(ta tb:TE):TE:=λσ H Q=>ta σ H λx H1=>tb σ H1 λy H2=>r x y H2 Q
def kr(r:V->Hp->VK->Prop)(ta:TE):TE:=λσ H Q=>ta σ H λx H1=>r x H1 Q
noncomputable def rI(C:Int->Int->Prop)(g:Int->Int->V):R2:=λx y H Q=>∃i j,x= .int i/\y= .int j/\C i j/\Q (g i j) H
def W4(g:Int->Int->V):R2:=λx y H Q=>∃i j,x= .int i/\y= .int j/\Q (g i j) H
def rU(g:Int->V):V->Hp->VK->Prop:=λx H Q=>∃i,x= .int i/\Q (g i) H
section
variable{a b c:Expr}{ta tb tc:TE}
theorem Zq(ha:PE X a ta)(hb:PE X b tb){pins:List (Addr×Obj)}{s:Shared}{σ:St}{H:Hp}{R:V->V->Hp->Prop}(I:Inv X pins σ H s)
 (h:ta σ H λx H1=>tb σ H1 λy H2=>R x y H2){Q:Value->Shared->Prop}{f:Value->Value->Sem Value}
 (hf:∀v u s2 x y H2,Inv X pins σ H2 s2->RelV x v->RelV y u->R x y H2->wpAny (model X.prog X.w) X.A (f v u) Q X.xe s2):
 wpAny (model X.prog X.w) X.A (eval a X.env) (λv s₁=>wpAny (model X.prog X.w) X.A (eval b X.env) (λu s₂=>wpAny (model X.prog X.w) X.A (f v u) Q X.xe s₂) X.xe s₁) X.xe s:=by
 refine AI (ha pins s σ H _ I h) λv s1 ⟨x,H1,I1,r1,q1⟩=>?_
 refine AI (hb pins s1 σ H1 _ I1 q1) λu s2 ⟨y,H2,I2,r2,q2⟩=>?_
 exact hf v u s2 x y H2 I2 r1 r2 q2
theorem cE{op:Operator}{r:R2}(ho:BP X (binaryOp op) r)(ha:PE X a ta)(hb:PE X b tb):PE X (.BinOp a op b pos) (fS r ta tb):=by
 intro pins s σ H Q I h;exact wpAny_BinOp (Zq ha hb I h λv u s2 x y H2 I2 rx ry q=>ho pins s2 σ H2 x y v u Q I2 rx ry q)
theorem cC{op:UnaryOp}{r:V->Hp->VK->Prop}(ho:WK X (unaryOp op) r)(ha:PE X a ta):PE X (.UnaryOp op a pos) (kr r ta):=by
 intro pins s σ H Q I h;exact UnaryOp_ (AI (ha pins s σ H _ I h) λv s1 ⟨x,H1,I1,r1,q1⟩=>ho pins s1 σ H1 x v Q I1 r1 q1)
theorem fU{f:Value->Value->Sem Value}{C:Int->Int->Prop}{g:Int->Int->Int}
 (rule:∀(i j:Int) (t u:Tok) (s:Shared) (Q:Value->Shared->Prop) (E:Value->Shared->Prop),C i j->Q (.int (g i j) s.toks) {s with toks:=s.toks+1}->wpAny (model X.prog X.w) X.A (f (.int i t) (.int j u)) Q E s):
 BP X f (rI C λi j=>.int (g i j)):=by
 intro pins s σ H x y v u Q I rx ry h;obtain⟨i,j,rfl,rfl,hc,q⟩:=h;obtain⟨t,rfl⟩:=rx;obtain⟨t',rfl⟩:=ry;exact rule i j t t' s _ _ hc ⟨.int (g i j),H,I.tok _,⟨_,rfl⟩,q⟩
theorem cN{f:Value->Value->Sem Value}{g:Int->Int->Int}
 (rule:∀(i j:Int) (t u:Tok) (s:Shared) (Q:Value->Shared->Prop) (E:Value->Shared->Prop),Q (.int (g i j) s.toks) {s with toks:=s.toks+1}->wpAny (model X.prog X.w) X.A (f (.int i t) (.int j u)) Q E s):
 BP X f (W4 λi j=>.int (g i j)):=by
 intro pins s σ H x y v u Q I rx ry h;obtain⟨i,j,rfl,rfl,q⟩:=h;obtain⟨t,rfl⟩:=rx;obtain⟨t',rfl⟩:=ry;exact rule i j t t' s _ _ ⟨.int (g i j),H,I.tok _,⟨_,rfl⟩,q⟩
theorem TU{f:Value->Value->Sem Value}{g:Int->Int->Bool}
 (rule:∀(i j:Int) (t u:Tok) (s:Shared) (Q:Value->Shared->Prop) (E:Value->Shared->Prop),Q (.bool (g i j)) s->wpAny (model X.prog X.w) X.A (f (.int i t) (.int j u)) Q E s):
 BP X f (W4 λi j=>.bl (g i j)):=by
 intro pins s σ H x y v u Q I rx ry h;obtain⟨i,j,rfl,rfl,q⟩:=h;obtain⟨t,rfl⟩:=rx;obtain⟨t',rfl⟩:=ry;exact rule i j t t' s _ _ ⟨.bl (g i j),H,I,rfl,q⟩
def jO(i j:Int):Prop:=0 < j/\j < 1073741824
def jN(i j:Int):Prop:=0<=j/\j<=1000000/\i.natAbs < 2 ^ 64
def ax(i j:Int):Prop:=(-(2 ^ 64) < i/\i < 2 ^ 64)\/(-(2 ^ 64) < j/\j < 2 ^ 64)
theorem ax.ok{i j:Int}(h:ax i j):IntMulOk i j:=by
 rcases h with⟨h1,h2⟩|⟨h1,h2⟩
 .exact .of_left (intBits_le_64 h1 h2)
 .exact .of_right (intBits_le_64 h1 h2)
theorem Y0:BP X (binaryOp .Add) (W4 λi j=>.int (i+j)):=cN λ_ _ _ _ _ _ _ q=>add_int q
theorem XT:BP X (binaryOp .Sub) (W4 λi j=>.int (i-j)):=cN λ_ _ _ _ _ _ _ q=>sub_int q
theorem XW:BP X (binaryOp .Mult) (rI ax λi j=>.int (i*j)):=fU λ_ _ _ _ _ _ _ hc q=>mul_int q hc.ok
theorem TQ:BP X (binaryOp .FloorDiv) (rI jO λi j=>.int (i / j)):=fU λi j _ _ _ _ _ hc q=>by
 have h1:(0:Int) < j:=hc.1;have h2:j < 1073741824:=hc.2;exact floordiv_int (by lia) (by rw[Int.fdiv_eq_ediv_of_nonneg i (by lia)];exact q) (.inl (PyProof.noPylong_small (by lia)))
theorem XX:BP X (binaryOp .Mod) (rI (λ_ j=>0 < j) λi j=>.int (i % j)):=fU λi j _ _ _ _ _ hc q=>by
 have h1:(0:Int) < j:=hc;exact mod_int' (by lia) (by rw[Int.fmod_eq_emod_of_nonneg i (by lia)];exact q)
theorem XU:BP X (binaryOp .Pow) (rI jN λi j=>.int (i ^ j.toNat)):=fU λ_ _ _ _ _ _ _ hc q=>pow_int_small hc.1 hc.2.1 hc.2.2 q
theorem kq{f:Value->Sem Value}{g:Int->Int}
 (rule:∀(i:Int) (t:Tok) (s:Shared) (Q:Value->Shared->Prop) (E:Value->Shared->Prop),Q (.int (g i) s.toks) {s with toks:=s.toks+1}->wpAny (model X.prog X.w) X.A (f (.int i t)) Q E s):
 WK X f (rU λi=>.int (g i)):=by
 intro pins s σ H x v Q I rx h;obtain⟨i,rfl,q⟩:=h;obtain⟨t,rfl⟩:=rx;exact rule i t s _ _ ⟨.int (g i),H,I.tok _,⟨_,rfl⟩,q⟩
theorem WO:WK X (unaryOp .USub) (rU λi=>.int (-i)):=kq λ_ _ _ _ _ q=>neg_int q
end
section
variable{a b c:Expr}{ta tb tc:TE}
variable{pins:List (Addr×Obj)}{H:Hp}{s:Shared}
theorem LZ{σ:St}{Q:VK}{k k':Bool}(I:Inv X pins σ H s)(q:Q (.bl k) H)(e:k=k'):EP X pins σ Q (.bool k') s:=by
 subst e;exact⟨.bl k,H,I,rfl,q⟩
theorem cJ:BP X (compareOp .Lt) (W4 λi j=>.bl (decide (i < j))):=TU λ_ _ _ _ _ _ _ q=>lt_int q
theorem cK:BP X (compareOp .LtE) (W4 λi j=>.bl (decide (i<=j))):=TU λ_ _ _ _ _ _ _ q=>le_int q
theorem cL:BP X (compareOp .Gt) (W4 λi j=>.bl (decide (j < i))):=TU λ_ _ _ _ _ _ _ q=>gt_int q
theorem cM:BP X (compareOp .GtE) (W4 λi j=>.bl (decide (j<=i))):=TU λ_ _ _ _ _ _ _ q=>ge_int q
theorem XY:BP X (compareOp .Is) (λx y H Q=>y= .Ai/\Q (.bl (decide (x= .Ai))) H):=by
 intro pins s σ H x y v u Q I rx ry h;obtain⟨rfl,q⟩:=h;cases ry;refine is_none_gen (LZ I q ?_)
 cases x<;>first
  |(cases rx;rfl)
  |(obtain⟨t,rfl⟩:=rx;rfl)
theorem TN:BP X (compareOp .IsNot) (λx y H Q=>y= .Ai/\Q (.bl (!decide (x= .Ai))) H):=by
 intro pins s σ H x y v u Q I rx ry h;obtain⟨rfl,q⟩:=h;cases ry;refine isnot_none_gen (LZ I q ?_)
 cases x<;>first
  |(cases rx;rfl)
  |(obtain⟨t,rfl⟩:=rx;rfl)
def isObj:HO->Bool
 |.lst _=>true
 |.ins _ _ _=>true
 |_=>false
theorem DQ{σ:St}{a:Addr}{o:HO}(I:Inv X pins σ H s)(h:H a=some o)(p:isObj o=true):∃ob,s.heap.get? a=some ob/\ob.cls≠.type "tuple":=by
 cases o with
 |lst xs=>
   obtain⟨_,its,n,_,e⟩:xs.length<=sizeLine/\∃(its:List Value) (n:Nat),Vals xs its/\s.heap.get? a=some {cls:=.type "list",data:=.seq its.toArray n}:=I.Ak a _ h;exact⟨_,e,(by show Value.type "list"≠.type "tuple";decide +kernel)⟩
 |ins C dx fs=>
   have x:=I.Ak a _ h;obtain⟨_,_,_,e,_⟩:=x;exact⟨_,e,(by show Value.ref C≠.type "tuple";exact λz=>by cases z)⟩
 |_=>exact absurd (show false=true from p) Bool.false_ne_true
variable{op:CmpOp}
theorem Y6(b:Expr)(h:op≠.In:=by decide)(h2:op≠.NotIn:=by decide):behindInMarks op b=false:=by
 have e1:(op == CmpOp.In)=false:=by cases op<;>first|rfl|exact absurd rfl h
 have e2:(op == CmpOp.NotIn)=false:=by cases op<;>first|rfl|exact absurd rfl h2
 cases b<;>simp[behindInMarks,e1,e2]
theorem MI{r:R2}(ho:BP X (compareOp op) r)(ha:PE X a ta)(hb:PE X b tb)(hm:behindInMarks op b=false):PE X (.Compare a [op] [b] pos) (fS r ta tb):=by
 intro pins s σ H Q I h;exact wpAny_Compare1 (Zq ha hb I h λv u s2 x y H2 I2 rx ry q=>ho pins s2 σ H2 x y v u Q I2 rx ry q) hm
def VN(t:TE):TT:=λσ H Q=>t σ H λx H'=>∃k,x= .bl k/\Q k H'
theorem Tq{r:R2}(ho:BP X (compareOp op) r)(ha:PE X a ta)(hb:PE X b tb)(hm:behindInMarks op b=false):PT X (.Compare a [op] [b] pos) (VN (fS r ta tb)):=by
 intro pins s σ H Q I h
 refine wpAny_isTrue_Compare1 (AI (ha pins s σ H _ I h) λv s1 ⟨x,H1,I1,r1,q1⟩=>AI (hb pins s1 σ H1 _ I1 q1) λu s2 ⟨y,H2,I2,r2,q2⟩=>
  AI (ho pins s2 σ H2 x y v u _ I2 r1 r2 q2) λc s3 ⟨z,H3,I3,r3,k,e,q3⟩=>?_) hm
 subst e;cases r3;exact wpAny_truthy_bool ⟨H3,I3,q3⟩
noncomputable def OX(r r':R2)(ta tb tc:TE):TE:=λσ H Q=>ta σ H λx H1=>tb σ H1 λy H2=>r x y H2 λz H3=>∃k,z= .bl k/\
 (if k=true then tc σ H3 λw' H4=>r' y w' H4 Q else Q (.bl false) H3)
variable{op':CmpOp}{r':R2}
theorem Qd{r:R2}(ho:BP X (compareOp op) r)(ho':BP X (compareOp op') r')(ha:PE X a ta)(hb:PE X b tb)(hc:PE X c tc)
 (hm:lastMarks [op,op'] [b,c]=false:=by with_unfolding_all rfl):PE X (.Compare a [op,op'] [b,c] pos) (OX r r' ta tb tc):=by
 intro pins s σ H Q I h
 refine Compare_chain (AI (ha pins s σ H _ I h) λv s1 ⟨x,H1,I1,r1,q1⟩=>chain_link (AI (hb pins s1 σ H1 _ I1 q1) λu s2 ⟨y,H2,I2,r2,q2⟩=>
  AI (ho pins s2 σ H2 x y v u _ I2 r1 r2 q2) λd s3 ⟨z,H3,I3,r3,k,e,q3⟩=>?_)) hm
 subst e;cases r3;refine wpAny_truthy_bool ?_;cases k with
 |false=>exact ite_ff ⟨.bl false,H3,I3,rfl,q3⟩
 |true=>exact ite_tt (chain_last (AI (hc pins s3 σ H3 _ I3 q3) λw' s4 ⟨z',H4,I4,r4,q4⟩=>ho' pins s4 σ H4 y z' u w' Q I4 r2 r4 q4))
theorem PN{r:R2}(ho:BP X (compareOp op) r)(ho':BP X (compareOp op') r')(ha:PE X a ta)(hb:PE X b tb)(hc:PE X c tc)
 (hm:lastMarks [op,op'] [b,c]=false:=by with_unfolding_all rfl):PT X (.Compare a [op,op'] [b,c] pos) (VN (OX r r' ta tb tc)):=by
 intro pins s σ H Q I h
 refine isTrue_chain (AI (ha pins s σ H _ I h) λv s1 ⟨x,H1,I1,r1,q1⟩=>test_link (AI (hb pins s1 σ H1 _ I1 q1) λu s2 ⟨y,H2,I2,r2,q2⟩=>
  AI (ho pins s2 σ H2 x y v u _ I2 r1 r2 q2) λd s3 ⟨z,H3,I3,r3,k,e,q3⟩=>?_)) hm
 subst e;cases r3;refine wpAny_truthy_bool ?_;cases k with
 |false=>
   obtain⟨k',e',q'⟩:=q3;cases e';exact ite_ff ⟨H3,I3,q'⟩
 |true=>
   refine ite_tt (test_last (AI (hc pins s3 σ H3 _ I3 q3) λw' s4 ⟨z',H4,I4,r4,q4⟩=>AI (ho' pins s4 σ H4 y z' u w' _ I4 r2 r4 q4) λd' s5 ⟨z2,H5,I5,r5,k2,e2,q5⟩=>?_));subst e2;cases r5;exact wpAny_truthy_bool ⟨H5,I5,q5⟩
def fy(K:PySem.W.Frag)(x:V)(H:Hp)(k:Bool):Prop:=
 match x with
 |.Ai=>k=false
 |.bl b=>k=b
 |.int i=>k=(i != 0)
 |.str y=>y.length<=sizeLine/\k=((y.length:Int) != 0)
 |.WE y=>y.size<=sizeLine/\k=((y.size:Int) != 0)
 |.ref p=>(∃xs,Eg K H p xs/\k= !xs.isEmpty)\/(∃xs,ED K H p xs/\k= !xs.isEmpty)\/∃kvs,H p=some (.dK kvs)/\k= !kvs.isEmpty
 |_=>False
theorem LS{κ:Type}{kvs:List (κ×V)}{vs:List (κ×Value)}(r:KV kvs vs):(!vs.isEmpty)= !kvs.isEmpty:=by
 cases r<;>rfl
theorem GL{xs:List V}{its:List Value}(r:Vals xs its):(!its.toArray.isEmpty)= !xs.isEmpty:=by
 cases r<;>simp
theorem GF:(sizeLine:Nat) < 2 ^ 63:=by rw[sizeLine_eq];decide
theorem X3:fz X (λx H Q=>∃k,fy X.K x H k/\Q k H):=by
 intro pins s σ H x v Q I rx h;obtain⟨k,e,q⟩:=h;have hl:=GF;have hs:sizeLine=16777216:=sizeLine_eq;cases x with
 |Ai=>
   cases rx;have e':k=false:=e;subst e';exact truthy_none ⟨H,I,q⟩
 |bl b=>
   cases rx;have e':k=b:=e;subst e';exact wpAny_truthy_bool ⟨H,I,q⟩
 |int i=>
   obtain⟨t,rfl⟩:=rx;have e':k=(i != 0):=e;subst e';exact PySem.P.truthy_int ⟨H,I,q⟩
 |str y=>
   obtain⟨t,rfl⟩:=rx;obtain⟨hy,e'⟩:y.length<=sizeLine/\k=((y.length:Int) != 0):=e;subst e';exact PySem.P.truthy_str (by lia) ⟨H,I.tok _,q⟩
 |WE y=>
   obtain⟨t,rfl⟩:=rx;obtain⟨hy,e'⟩:y.size<=sizeLine/\k=((y.size:Int) != 0):=e;subst e';exact PySem.W.truthy_bytes (by lia) ⟨H,I.tok _,q⟩
 |ref p=>
   cases rx;have e':(∃xs,Eg X.K H p xs/\k= !xs.isEmpty)\/(∃xs,ED X.K H p xs/\k= !xs.isEmpty)\/∃kvs,H p=some (.dK kvs)/\k= !kvs.isEmpty:=e;rcases e' with⟨xs,hx,e'⟩|⟨xs,hx,e'⟩|⟨kvs,hx,e'⟩
   .subst e';obtain⟨its,r,pl,hz⟩:=I.list hx;have hlen:=r.length;exact wpAny_truthy_list pl.isList (by simp only[size_toArray];lia) ⟨H,I.tok _,by rw[GL r];exact q⟩
   .subst e';obtain⟨its,r,pl,hz⟩:=I.tuple hx;have hlen:=r.length;exact truthy_tuple pl (by simp only[size_toArray];lia) ⟨H,I.tok _,by rw[GL r];exact q⟩
   .subst e';obtain⟨hz,hS,vs,r,m⟩:kvs.length<=sizeLine/\(p == sysModules)=false/\∃vs,KV kvs vs/\s.heap.DictOf (AU X.prog X.w) p vs:=I.Ak p _ hx;have hlen:kvs.length=vs.length:=Paired.length r;exact wpAny_truthy_dict hS m (by lia) ⟨H,I.tok _,by rw[LS r];exact q⟩
 |_=>exact(show False from e).elim
theorem Lo:BP X (binaryOp .Add) (λx y H Q=>∃i j,x= .str i/\y= .str j/\i.length + j.length<=sizeLine/\Q (.str (i++j)) H):=by
 intro pins s σ H x y v u Q I rx ry h;obtain⟨i,j,rfl,rfl,hz,q⟩:=h;obtain⟨t,rfl⟩:=rx;obtain⟨t',rfl⟩:=ry;exact add_str (λt' tk=>⟨.str (i++j),H,I.tok _,⟨_,rfl⟩,q⟩) hz
variable{us:List Value}
theorem vals1{x:V}(r:Vals [x] us):∃u,us=[u]/\RelV x u:=by
 cases r with
 |cons r1 r2=>cases r2;exact⟨_,rfl,r1⟩
theorem vals2{x y:V}(r:Vals [x,y] us):∃u w',us=[u,w']/\RelV x u/\RelV y w':=by
 cases r with
 |cons r1 r2=>
   cases r2 with
   |cons r3 r4=>cases r4;exact⟨_,_,rfl,r1,r3⟩
theorem OA(hc:X.calm=true):Bk X (.builtin "min") (λxs H Q=>∃i j,xs=[.int i,.int j]/\Q (.int (if j < i then j else i)) H):=by
 intro pins s σ H xs us Q I r h;obtain⟨i,j,rfl,q⟩:=h;obtain⟨u,w',rfl,⟨t,rfl⟩,⟨t',rfl⟩⟩:=vals2 r;refine min_two_ints (I.ok.hd hc) λh' tk k=>⟨_,H,I.kept k,?_,q⟩
 by_cases hj:j < i
 .rw[iP hj,iP hj];exact⟨_,rfl⟩
 .rw[iN hj,iN hj];exact⟨_,rfl⟩
theorem Ig:Bk X (.type "int") (λxs H Q=>(∃i,xs=[.int i]/\Q (.int i) H)\/∃k,xs=[.bl k]/\Q (.int (if k then 1 else 0)) H):=by
 intro pins s σ H xs us Q I r h;rcases h with⟨i,rfl,q⟩|⟨k,rfl,q⟩
 .obtain⟨u,rfl,t,rfl⟩:=vals1 r;exact call_int_int ⟨.int i,H,I,⟨_,rfl⟩,q⟩
 .obtain⟨u,rfl,r1⟩:=vals1 r;cases r1;exact call_int_bool ⟨.int (if k then 1 else 0),H,I.tok _,⟨_,rfl⟩,q⟩
def jG(K:PySem.W.Frag)(x:V)(H:Hp)(n:Nat):Prop:=
 match x with
 |.str y=>y.length<=sizeLine/\n=y.length
 |.WE y=>y.size<=sizeLine/\n=y.size
 |.ref p=>(∃xs,Eg K H p xs/\n=xs.length)\/∃xs,ED K H p xs/\n=xs.length
 |_=>False
theorem GZ:Bk X (.builtin "len") (λxs H Q=>∃x n,xs=[x]/\jG X.K x H n/\Q (.int n) H):=by
 intro pins s σ H xs us Q I r h;obtain⟨x,n,rfl,e,q⟩:=h;obtain⟨u,rfl,rx⟩:=vals1 r;have hl:=GF;have hs:sizeLine=16777216:=sizeLine_eq;cases x with
 |str y=>
   obtain⟨t,rfl⟩:=rx;obtain⟨hy,e'⟩:y.length<=sizeLine/\n=y.length:=e;subst e';exact len_str (by lia) ⟨.int _,H,I.tok _,⟨_,rfl⟩,q⟩
 |WE y=>
   obtain⟨t,rfl⟩:=rx;obtain⟨hy,e'⟩:y.size<=sizeLine/\n=y.size:=e;subst e';exact PySem.W.len_bytes (by lia) ⟨.int _,H,I.tok _,⟨_,rfl⟩,q⟩
 |ref p=>
   cases rx;have e':(∃xs,Eg X.K H p xs/\n=xs.length)\/∃xs,ED X.K H p xs/\n=xs.length:=e;rcases e' with⟨xs,hx,e'⟩|⟨xs,hx,e'⟩
   .subst e';obtain⟨its,r',pl,hz⟩:=I.list hx;have hlen:=r'.length;exact Calls.call_len_list pl.isList (by simp only[size_toArray];lia) ⟨.int xs.length,H,I.tok _,⟨_,by simp only[size_toArray];rw[hlen]⟩,q⟩
   .subst e';obtain⟨its,r',pl,hz⟩:=I.tuple hx;have hlen:=r'.length;exact len_tuple pl (by simp only[size_toArray];lia) ⟨.int xs.length,H,I.tok _,⟨_,by simp only[size_toArray];rw[hlen]⟩,q⟩
 |_=>exact(show False from e).elim
end
structure Mg(h:Heap)(x dx C:Addr)(mA:Str->Option Value):Prop where
 obj:h.get? x=some (instObj C dx)
 ns:h.Ns1 dx mA
 ne:dx≠x
variable{dx:Addr}{mA:Str->Option Value}
theorem HH(n:h.Ns1 dx mA):∃od,h.get? dx=some od/\∀name,lookIn name od=some (mA name):=by
 obtain⟨o,es,ep,ho,hd,hk,_,hm⟩:=n;refine⟨o,ho,λname=>?_⟩;have e:=hm name;unfold nsFind findBy at e;rw[<-Array.find?_toList]at e;unfold lookIn;rw[hd];dsimp only;split
 .rename_i y q;rw[q]at e;exact congrArg some e
 .rename_i q;rw[q]at e
  have a:es.toList.any (·.refKey)=false:=by
   rw[List.any_eq_false];intro y hy;obtain⟨z,t,hkey⟩:=hk y (Array.mem_toList_iff.mp hy);simp[DictEntry.refKey,hkey]
  have a':¬es.toList.any (·.refKey)=true:=by rw[a];exact Bool.false_ne_true
  rw[iN a'];exact congrArg some e
theorem Mg.look{C:Addr}(I:Mg h x dx C mA):∃od,InstAt h x (instObj C dx) C (some od)/\∀name,lookIn name od=some (mA name):=
 let⟨od,ho,hl⟩:=HH I.ns
 ⟨od,⟨I.obj,rfl,rfl,ho⟩,hl⟩
section
variable{prog:Program}{w:World}{A:Around}{E:Value->Shared->Prop}{K:PySem.W.Frag}{x dx C f:Addr}{mA:Str->Option Value}{name:Str}{v:Value}
theorem get_map{expr:Bool}{Q:Value->Shared->Prop}(X:K.In s.heap)(I:Mg s.heap x dx C mA)(hg:plainGet K C name=true)(hh:hasDictIn K C=true)
 (ha:findIn K (.ref C) name=some none)(hv:mA name=some v)(hv':handedIn v=true)(h:Q v {s with toks:=s.toks+1}):
 wpAny (model prog w) A (getAttr (.ref x) name expr) Q E s:=by
 obtain⟨od,J,hl⟩:=I.look;exact PySem.W.get_value X J (plainGet_of hg).1 (findObj_own hh ha rfl (by rw[hl,hv])) hv' h
theorem R6{pl:Sem Bool}{Q:Value×List Value->Shared->Prop}(X:K.In s.heap)(I:Mg s.heap x dx C mA)(hg:plainGet K C name=true)
 (hf:findIn K (.ref C) name=some (some (.ref f)))(ht:isFn K (.ref f)=true)(hv:mA name=none)(h:Q (.ref f,[.ref x]) s):
 wpAny (model prog w) A (getMethod (.ref x) name pl) Q E s:=by
 obtain⟨od,J,hl⟩:=I.look;exact PySem.W.method_fn X J (plainGet_of hg).1 (plainGet_of hg).2 hf (beq_iff_eq.mp ht) (by show(lookIn name od).map (·.isSome)=some false;rw[hl,hv];rfl) h
theorem T3{ns:List Str}{Q:Unit->Shared->Prop}(X:K.In s.heap)(I:Mg s.heap x dx C mA)
 (hs:findIn K (.ref C) "__setattr__"=some (some (.builtin "object.__setattr__")))(hp:plainOver K C=true)(ht:takerIn K C name=some none)(hh:hasDictIn K C=true)
 (hw:PySem.Within mA ns)(hsz:ns.length<=sizeLine)
 (h:∀h',Mg h' x dx C (λy=>if y=name then some v else mA y)->Heap.SameBut dx s.heap h'->Q () {s with heap:=h',toks:=s.toks+2}):
 wpAny (model prog w) A (setAttr (.ref x) name v) Q E s:=by
 obtain⟨od,J,hl⟩:=I.look;refine set_plain X J hs (PySem.W.osa_open (s:={s with toks:=s.toks+1}) (r:=none) X J hp ht λb=>?_);obtain⟨cd,hc,hd'⟩:=any_some hh;have hx:s.heap.get? x=some ⟨.ref C,some dx,.plain,#[]⟩:=I.obj;refine wpAny_bind (wP (wpAny_bind (wpAny_bind (wpAny_loadPart hx (wpAny_bind (Looks.here (s:={s with toks:=s.toks+1}) (looks_clsIn X hc) ?_))))));rw[hd'];refine wP (a:=some dx) (wpAny_bind (wP (wpAny_bind ?_)));refine wpAny_nsSet1 (s:={s with toks:=s.toks+1}) I.ns λh' hn2 hs2=>?_
 obtain⟨oD,esD,epD,hoD,hdD,hcD⟩:=hn2.count (PySem.Within.cons name v hw);refine wpAny_bind (wpAny_lookBehind hoD (by rw[hdD];exact pastItsLine_dict (Nat.le_trans hcD (by rw[lC];lia))) ?_);exact wP (h _ ⟨(hs2.2 _ (Ne.symm I.ne)).trans I.obj,hn2,I.ne⟩ hs2)
theorem Qv{R:Result->Shared->Prop}{vs:List Value}{kw:List (Str×Value)}(X:K.In s.heap)(hm:makesIn K C=true)
 (hi:findIn K (.ref C) "__init__"=some (some (.ref f)))(hf:typeIn K (.ref f)=some (.type "function"))
 (h:codeAny (model prog w) (A.under (.builtin "type.__call__" ⟨.ref C::vs,kw⟩)) (.call (.ref f) ⟨.ref (s.heap.objs.size + 1)::vs,kw⟩) (InitBack (s.heap.objs.size + 1) R)
   {s with heap:=(s.heap.push emptyDict).push (instObj C s.heap.objs.size)}):
 codeAny (model prog w) A (.call (.ref C) ⟨vs,kw⟩) R s:=by
 obtain⟨hh,g,d,t,os⟩:=s;exact PySem.W.make_core (PySem.W.makes_of X hm) (looks_findIn X hi) (λself=>bind_fn X self hf) (.inl rfl) h
end
noncomputable def B6(f:Str)(v:V):List (Str×V)->List (Str×V)
 |[]=>[(f,v)]
 |(g,x)::r=>if g=f then(g,v)::r else(g,x)::B6 f v r
theorem FK(f g:Str)(v:V):∀fs:List (Str×V),(B6 f v fs).lookup g=if g=f then some v else fs.lookup g
 | []=>by
   show List.lookup g [(f,v)]=_
   by_cases h:g=f
   .have hb:(g == f)=true:=beq_iff_eq.mpr h;simp only[List.lookup,hb,iP h]
   .have hb:(g == f)=false:=beq_eq_false_iff_ne.mpr h;simp only[List.lookup,hb,iN h]
 | (k, x)::r=>by
   have ih:=FK f g v r;rw[show B6 f v ((k,x)::r)=(if k=f then(k,v)::r else(k,x)::B6 f v r)from rfl]
   by_cases hk:k=f
   .rw[iP hk]
    by_cases h:g=k
    .have hb:(g == k)=true:=beq_iff_eq.mpr h;simp only[List.lookup,hb,iP (h.trans hk)]
    .have hb:(g == k)=false:=beq_eq_false_iff_ne.mpr h;simp only[List.lookup,hb,iN (λe:g=f=>h (e.trans hk.symm))]
   .rw[iN hk]
    by_cases h:g=k
    .have hb:(g == k)=true:=beq_iff_eq.mpr h;simp only[List.lookup,hb,iN (λe:g=f=>hk (h.symm.trans e))]
    .have hb:(g == k)=false:=beq_eq_false_iff_ne.mpr h;simp only[List.lookup,hb];exact ih
theorem Fs(f:Str)(v:V):∀fs:List (Str×V),f∈(B6 f v fs).map (·.1)/\∀g,g∈fs.map (·.1)->g∈(B6 f v fs).map (·.1)
 |[]=>⟨by simp[B6],λg h=>by simp at h⟩
 | (k, x)::r=>by
   obtain⟨i1,i2⟩:=Fs f v r;rw[show B6 f v ((k,x)::r)=(if k=f then(k,v)::r else(k,x)::B6 f v r)from rfl]
   by_cases hk:k=f
   .rw[iP hk];subst hk;exact⟨by simp,λg h=>by simpa using h⟩
   .rw[iN hk];refine⟨?_,λg h=>?_⟩
    .rw[map_cons];exact mC i1
    .rw[map_cons]at h ⊢;rcases mK h with e|e
     .exact mem_cons.mpr (.inl e)
     .exact mC (i2 g e)
theorem FL(f:Str)(v:V):∀fs:List (Str×V),(B6 f v fs).length<=fs.length + 1
 |[]=>by simp[B6]
 | (k,x)::r=>by
   have ih:=FL f v r;rw[show B6 f v ((k,x)::r)=(if k=f then(k,v)::r else(k,x)::B6 f v r)from rfl]
   by_cases hk:k=f
   .rw[iP hk,lC,lC];lia
   .rw[iN hk,lC,lC];lia
theorem Fe.some_of{o:Option Value}(r:Fe (some v) o):∃u,o=some u/\RelV v u:=by
 cases o with
 |none=>exact(show False from r).elim
 |some u=>exact⟨u,rfl,r⟩
theorem Fe.none_of{o:Option Value}(r:Fe none o):o=none:=by
 cases o with
 |none=>rfl
 |some u=>exact(show False from r).elim
theorem Oo(r:RelV v u):handedIn u=true:=by
 cases v with
 |Ai=>cases (show u=Value.none from r);rfl
 |bl b=>cases (show u=Value.bool b from r);rfl
 |int i=>obtain⟨t,e⟩:=(show ∃t,u=Value.int i t from r);cases e;rfl
 |str x=>obtain⟨t,e⟩:=(show ∃t,u=Value.str x t from r);cases e;rfl
 |WE b=>obtain⟨t,e⟩:=(show ∃t,u=Value.bytes b t from r);cases e;rfl
 |gg b=>obtain⟨t,e⟩:=(show ∃t,u=Value.float b t from r);cases e;rfl
 |ref a=>cases (show u=Value.ref a from r);rfl
 |ty n=>cases (show u=Value.type n from r);rfl
section
variable{P:Program}{w:World}{h:Heap}{a C dx:Addr}{fs fs':List (Str×V)}
theorem Jh(Ak:Dm P w H h)(e:H a=some (.ins C dx fs)):∃mA,Mg h a dx C mA/\(∀f,Fe (fs.lookup f) (mA f))/\PySem.Within mA (fs.map (·.1))/\fs.length<=1000/\H dx=some (.own a):=by
 obtain⟨d,z,ne,ob,mA,n,r,q⟩:=(show Bc P w H h a (.ins C dx fs)from Ak a _ e);exact⟨mA,⟨ob,n,ne⟩,r,q,z,d⟩
end
structure Df(K:PySem.W.Frag)(C:Addr):Prop where
 pg:plainGet K C Str.empty=true
 hd:hasDictIn K C=true
 po:plainOver K C=true
 sa:findIn K (.ref C) "__setattr__"=some (some (.builtin "object.__setattr__"))
theorem Df.get{K:PySem.W.Frag}{C:Addr}(c:Df K C)(f:Str):plainGet K C f=true:=c.pg
def Bu(K:PySem.W.Frag)(C:Addr)(f:Str):Prop:=findIn K (.ref C) f=some none
theorem Bu.bg{K:PySem.W.Frag}{C:Addr}(n:Bu K C f):takerIn K C f=some none:=by
 unfold takerIn;rw[show findIn K (.ref C) f=some none from n];rfl
structure Meth(K:PySem.W.Frag)(C:Addr)(m:Str)(f:Addr):Prop where
 at_:findIn K (.ref C) m=some (some (.ref f))
 fn:isFn K (.ref f)=true
 kp:keepIn K (.ref f)=true
section
variable{σ:St}{a C dx:Addr}{fs:List (Str×V)}{f:Str}{v:V}{A:Around}{E:Value->Shared->Prop}
theorem LX{b:Bool}{Q:Value->Shared->Prop}(I:Inv X pins σ H s)(e:H a=some (.ins C dx fs))(c:Df X.K C)(n:Bu X.K C f)(l:fs.lookup f=some v)
 (h:∀u s',Inv X pins σ H s'->RelV v u->Q u s'):wpAny (model X.prog X.w) A (getAttr (.ref a) f b) Q E s:=by
 obtain⟨mA,O,r,_,_,_⟩:=Jh I.Ak e;obtain⟨u,hu,ru⟩:=Fe.some_of (v:=v) (o:=mA f) (by rw[<-l];exact r f);exact get_map I.BX O (c.get f) c.hd n hu (Oo ru) (h u _ (I.tok _) ru)
theorem Et{pl:Sem Bool}{Q:Value×List Value->Shared->Prop}(I:Inv X pins σ H s)(e:H a=some (.ins C dx fs))(c:Df X.K C)(k:Meth X.K C m g)(l:fs.lookup m=none)
 (h:Q (.ref g,[.ref a]) s):wpAny (model X.prog X.w) A (getMethod (.ref a) m pl) Q E s:=by
 obtain⟨mA,O,r,_,_,_⟩:=Jh I.Ak e;have hn:mA m=none:=Fe.none_of (by rw[<-l];exact r m);exact R6 I.BX O (c.get m) k.at_ k.fn hn h
theorem L9{Q:Unit->Shared->Prop}(I:Inv X pins σ H s)(e:H a=some (.ins C dx fs))(c:Df X.K C)(n:Bu X.K C f)(hl:fs.length < 1000)(ry:RelV y u)
 (h:∀s',Inv X pins σ (upd H a (.ins C dx (B6 f y fs))) s'->Q () s'):wpAny (model X.prog X.w) A (setAttr (.ref a) f u) Q E s:=by
 obtain⟨mA,O,r,wi,_,ho⟩:=Jh I.Ak e;have hz:(fs.map (·.1)).length<=sizeLine:=by rw[lM,sizeLine_eq];lia
 refine T3 I.BX O c.sa c.po n.bg c.hd wi hz λh' O' sb=>h _ ?_
 have hd:∃o,h'.get? dx=some o:=let⟨o,_,_,e',_⟩:=O'.ns;⟨o,e'⟩;refine I.write (x:=a) (e:=dx) (by rw[e];exact True.intro) (.inr ho) (λb q hb z=>(sb.2 b hb).trans z) hd ?_;refine⟨by rw[A5 O.ne];exact ho,?_,O.ne,O'.obj,_,O'.ns,λg=>?_,λg hg=>?_⟩
 .have:=FL f y fs;lia
 .show Fe ((B6 f y fs).lookup g) (if g=f then some u else mA g);rw[FK]
  by_cases q:g=f
  .rw[iP q,iP q];exact ry
  .rw[iN q,iN q];exact r g
 .by_cases q:g=f
  .rw[q];exact(Fs f y fs).1
  .refine(Fs f y fs).2 g (wi g λz=>hg ?_);show(if g=f then some u else mA g)=none;rw[iN q];exact z
theorem Inv.made(I:Inv X pins σ H s):Inv X pins σ (upd (upd H s.heap.objs.size (.own (s.heap.objs.size + 1))) (s.heap.objs.size + 1) (.ins C s.heap.objs.size []))
 {s with heap:=(s.heap.push emptyDict).push (instObj C s.heap.objs.size)}:=by
 have e1:(s.heap.push emptyDict).get? s.heap.objs.size=some emptyDict:=Heap.get?_push_size s.heap rfl
 have e2:((s.heap.push emptyDict).push (instObj C s.heap.objs.size)).get? (s.heap.objs.size + 1)=some (instObj C s.heap.objs.size):=by
  have:=Heap.get?_push_size (s.heap.push emptyDict) (o:=instObj C s.heap.objs.size) rfl;rwa[Heap.size_push]at this
 have e3:(s.heap.push emptyDict).Ns s.heap.objs.size (λ_=>none):=⟨emptyDict,#[],_,e1,rfl,(λe he=>absurd he (by simp)),λ_=>rfl⟩;have I1:=I.laid (a:=s.heap.objs.size) (o:=.own (s.heap.objs.size+1)) (h':=s.heap.push emptyDict) (t':=s.toks) (λb u q=>gP q) (lR) ⟨_,e1⟩;refine I1.laid (a:=s.heap.objs.size+1) (o:=.ins C s.heap.objs.size []) (t':=s.toks) (λb u q=>gP q) (Nat.le_of_eq (Heap.size_push _ _)) ?_;have ne:s.heap.objs.size≠s.heap.objs.size+1:=Nat.ne_of_lt (Nat.lt_succ_self _);refine⟨by rw[A5 ne,Ac],Nat.zero_le _,ne,e2,λ_=>none,(Heap.Ns1.of_empty e3).at λo q=>gP q,λ_=>True.intro,λy hy=>absurd rfl hy⟩
theorem Nc{prog:Program}{w:World}{env:Env}{pos:Pos}{s:Shared}{Q:Value->Shared->Prop}(hb:attributeBase e f env (eval e env)=eval e env)
 (h:wpAny (model prog w) A (eval e env) (λo s₁=>wpAny (model prog w) A (getAttr o f true) Q E s₁) E s):wpAny (model prog w) A (eval (.Attribute e f pos) env) Q E s:=
 Attribute_any_ h (by rw[arm_eval_Attribute,hb])
end
noncomputable def X5(K:PySem.W.Frag)(ta:TE)(f:Str):TE:=λσ H Q=>ta σ H λx H1=>∃a C dx fs v,x= .ref a/\H1 a=some (.ins C dx fs)/\Df K C/\Bu K C f/\fs.lookup f=some v/\Q v H1
noncomputable def hZ(K:PySem.W.Frag)(ta tv:TE)(f:Str):TS:=λD σ H=>tv σ H λy H1=>ta σ H1 λx H2=>∃a C dx fs,x= .ref a/\H2 a=some (.ins C dx fs)/\Df K C/\Bu K C f/\fs.length < 1000/\
 D.nx σ (upd H2 a (.ins C dx (B6 f y fs)))
section
variable{o e value:Expr}{f:Str}{pos' tpos:Pos}{ta tv:TE}
theorem Qa(he:PE X e ta)(hb:attributeBase e f X.env (eval e X.env)=eval e X.env):PE X (.Attribute e f pos) (X5 X.K ta f):=by
 intro pins s σ H Q I h;refine Nc hb (AI (he pins s σ H _ I h) λu s1 ⟨x,H1,I1,rx,a,C,dx,fs,v,ex,ea,c,n,l,q⟩=>?_);subst ex;obtain rfl:u=Value.ref a:=rx;exact LX I1 ea c n l λu' s2 I2 ru=>⟨v,H1,I2,ru,q⟩
theorem XI(ha:PE X o ta)(hv:PE X value tv)(hs:swapsWith value (some (.Attribute o f pos')) pos.line X.env=pure false):PS X (.Assign [.Attribute o f pos'] value pos) (hZ X.K ta tv f):=by
 intro pins s σ H D I h;refine plainObj_wpAny_Assign_Attribute (AI (hv pins s σ H _ I h) λu s1 ⟨y,H1,I1,ry,q⟩=>AI (ha pins s1 σ H1 _ I1 q) λov s2 ⟨x,H2,I2,rx,a,C,dx,fs,ex,ea,c,n,l,q2⟩=>?_) hs;subst ex;obtain rfl:ov=Value.ref a:=rx;exact L9 I2 ea c n l ry λs3 I3=>⟨σ,_,I3,q2⟩
end
structure B3(k:Nat)(A:Around):Prop where
 hd:A.handled=none
 dp:A.depth+3*k+5 < recursionLimit
 un:A.units+16*k+200 < cLine
theorem B3.mono{k:Nat}(r:B3 k A)(h:j<=k):B3 j A:=⟨r.hd,by have:=r.dp;lia,by have:=r.un;lia⟩
theorem B3.deeper{k:Nat}(r:B3 (k + 1) A)(env:Env):B3 k (A.deeper env):=
 ⟨r.hd,by have:=r.dp;show A.depth+1+3*k+5 < _;lia,by have:=r.un;show A.units+3+16*k+200 < _;lia⟩
variable{kw:List (Str×Value)}
theorem Lw{C:Addr}:(A.under (.builtin "type.__call__" ⟨.ref C::us,kw⟩)).depth=A.depth + 1:=by
 first|rfl|simp[Around.under,Code.weight,Code.isCreation,Code.isGuard,Code.isCaller,Code.frames,Code.isFrame,guardIds]
theorem Lv{C:Addr}:(A.under (.builtin "type.__call__" ⟨.ref C::us,kw⟩)).units=A.units + 1:=by
 first|rfl|simp[Around.under,Code.cUnits,Code.frames,Code.isFrame]
theorem B3.make{k:Nat}(r:B3 (k + 1) A)(C:Addr)(us:List Value)(kw:List (Str×Value)):B3 k (A.under (.builtin "type.__call__" ⟨.ref C::us,kw⟩)):=
 ⟨r.hd,by have:=r.dp;rw[Lw];lia,by have:=r.un;rw[Lv];lia⟩
theorem B3.depth{k:Nat}(r:B3 k A):A.depth < recursionLimit:=by have:=r.dp;lia
def E3:TA:=λ_ H Q=>Q [] H
def Bb(ta:TE)(tr:TA):TA:=λσ H Q=>ta σ H λx H1=>tr σ H1 λxs H2=>Q (x::xs) H2
variable{e:Expr}{es:List Expr}{te:TE}{t:TA}
theorem Cf:PA X [] E3:=λ_ _ _ _ H Q I h=>Calls.spliced_nil ⟨[],H,I,.nil,h⟩
theorem AO(ha:PE X e te)(hr:PA X es t)(hs:starEach (e::es) X.env=(false,eval e X.env)::starEach es X.env:=by rfl):PA X (e::es) (Bb te t):=by
 intro pos pins s σ H Q I h;rw[hs];show wpAny _ _ (spliced ((false,eval e X.env)::backTo pos (starEach es X.env))) _ _ s;refine Calls.spliced_cons (AI (ha pins s σ H _ I h) λu s1 ⟨x,H1,I1,r1,q1⟩=>?_);exact AI (hr pos pins s1 σ H1 _ I1 q1) λus s2 ⟨xs,H2,I2,r2,q2⟩=>⟨x::xs,H2,I2,.cons r1 r2,q2⟩
noncomputable def gM(t:TA):TE:=λσ H Q=>t σ H λxs H1=>xs.length<=sizeLine/\∀p,H1 p=none->Q (.ref p) (upd H1 p (.tup xs))
noncomputable def gO(t:TA):TE:=λσ H Q=>t σ H λxs H1=>xs.length<=sizeLine/\∀p,H1 p=none->Q (.ref p) (upd H1 p (.lst xs))
theorem Q3{x1}(h:PA X es t):PE X (.Tuple es x1 pos) (gM t):=by
 intro pins s σ H Q I hq;refine wpAny_Tuple_spliced (AI (h pos pins s σ H _ I hq) λus s1 ⟨xs,H1,I1,r,z,q⟩=>⟨by rw[<-r.length];exact z,?_⟩);have hf:H1 s1.heap.objs.size=none:=I1.Ak.fresh (lR);refine⟨.ref s1.heap.objs.size,upd H1 s1.heap.objs.size (.tup xs),I1.laid (t':=s1.toks) (λb u e=>gP e) (lR) ?_,rfl,q _ hf⟩;exact⟨z,us,r,⟨_,Heap.get?_push_size _ rfl,rfl,_,rfl⟩⟩
theorem XQ(h:PA X es t):PE X (.List es pos) (gO t):=by
 intro pins s σ H Q I hq;refine wpAny_List_spliced (AI (h pos pins s σ H _ I hq) λus s1 ⟨xs,H1,I1,r,z,q⟩=>⟨by rw[<-r.length];exact z,?_⟩);have hf:H1 s1.heap.objs.size=none:=I1.Ak.fresh (lR);refine⟨.ref s1.heap.objs.size,upd H1 s1.heap.objs.size (.lst xs),I1.laid (t':=s1.toks) (λb u e=>gP e) (lR) ?_,rfl,q _ hf⟩;exact⟨z,us,0,r,Heap.get?_push_size _ rfl⟩
abbrev Sp:=List V->Hp->VK->XK->Prop
abbrev aw:=List Env->Hp->Shared->XK->Value->Shared->Prop
structure FG(P:Program)(w:World)(K:PySem.W.Frag)(mg:Str->Option Value)(base:Heap)(A:Around)(outer:List Env)(s:Shared)(H:Hp):Prop where
 frames:A.frames=some outer
 mod:Mod K mg base
 bs:∀b o,base.get? b=some o->s.heap.get? b=some o/\H b=none
 RD:base.objs.size<=s.heap.objs.size
 E6:s.heap.FunFrames base outer
 Uz:∀b∈C6 outer,H b=none
 Ak:Dm P w H s.heap
 bare:AllBare s.gens
def CE(outer:List Env)(P:Program)(w:World)(H:Hp)(s:Shared)(Q:VK)(u:Value)(s':Shared):Prop:=
 ∃v H',s'.os=s.os/\AllBare s'.gens/\Un (C6 outer) [] H H' s.heap s'.heap/\Dm P w H' s'.heap/\RelV v u/\Q v H'
def CR(CX:aw)(outer:List Env)(P:Program)(w:World)(H:Hp)(s:Shared)(Q:VK)(E:XK)(r:Result)(s':Shared):Prop:=
 match r with
 |.ok (.ret u)=>CE outer P w H s Q u s'
 |.ok _=>False
 |.error e=>CX outer H s E e s'
structure CD(P:Program)(w:World)(K:PySem.W.Frag)(mg:Str->Option Value)(base:Heap)(CX:aw)(k:Nat)(f:Addr)(fd:FuncData)(ps:List Str)(sp:Sp):Prop where
 len:∀vs H Q E,sp vs H Q E->vs.length=ps.length
 run:∀(A:Around) (outer:List Env) (s:Shared) (H:Hp) (args:Args) (us:List Value) (vs:List V) (Q:VK) (E:XK),B3 k A->FG P w K mg base A outer s H->BindsTo s fd args (ps.zip us)->Vals vs us->sp vs H Q E->
  codeAny (model P w) A (.call (.ref f) args) (CR CX outer P w H s Q E) s
variable{mg:Str->Option Value}{CX:aw}{ps:List Str}{sp:Sp}
theorem CD.imp{P:Program}{K:PySem.W.Frag}{base:Heap}{k:Nat}{fd:FuncData}{sp':Sp}(F:CD P w K mg base CX k f fd ps sp)
 (h:∀vs H Q E,sp' vs H Q E->sp vs H Q E):CD P w K mg base CX k f fd ps sp':=
 ⟨λvs H Q E q=>F.len vs H Q E (h _ _ _ _ q),λA outer s H args us vs Q E hr he hb hv hs=>F.run A outer s H args us vs Q E hr he hb hv (h _ _ _ _ hs)⟩
theorem FG.make{P:Program}{K:PySem.W.Frag}{base:Heap}{outer:List Env}(e:FG P w K mg base A outer s H)(C:Addr)(us:List Value)(kw:List (Str×Value)):
 FG P w K mg base (A.under (.builtin "type.__call__" ⟨.ref C::us,kw⟩)) outer s H:=⟨by first|exact e.frames|(simpa[Around.under,Code.envs,Code.isFrame,pushEnvs]using e.frames),e.mod,e.bs,e.RD,e.E6,e.Uz,e.Ak,e.bare⟩
section
variable{σ:St}{s':Shared}
theorem Inv.YY(I:Inv X pins σ H s):FG X.prog X.w X.K X.mg X.base X.A X.stack s H:=
 ⟨I.ok.frames,I.ok.mod,I.bs,Nat.le_trans I.ok.RD I.sz,I.stack,I.DJ,I.Ak,I.bare⟩
theorem Inv.after{Q:VK}(I:Inv X pins σ H s)(h:CE X.stack X.prog X.w H s Q u s'):EP X pins σ Q u s':=by
 obtain⟨v,H',os,bare,un,Ak,r,q⟩:=h;obtain⟨hh,g,d,t,os'⟩:=s';obtain rfl:os'=s.os:=os;exact⟨v,H',I.call (h':=hh) (g':=g) (d':=d) (t':=t) (ch:=[]) un Ak bare (λb z=>absurd z (by simp)),r,q⟩
end
noncomputable def JL(C:Addr)(sp:Sp)(dvs:List V)(E:XK)(t:TA):TE:=λσ H Q=>t σ H λvs H1=>∀x dx,H1 x=none->H1 dx=none->dx≠x->
 sp (.ref x::(vs++dvs)) (upd (upd H1 dx (.own x)) x (.ins C dx [])) (λv H2=>v= .Ai/\Q (.ref x) H2) E
def Binds(K:PySem.W.Frag)(fd:FuncData)(ps:List Str)(ds:List Value):Prop:=
 ∀(s:Shared) (us:List Value),K.In s.heap->(us++ds).length=ps.length->BindsTo s fd ⟨us,[]⟩ (ps.zip (us++ds))
theorem Binds.all{K:PySem.W.Frag}{fd:FuncData}(h:∀us:List Value,us.length=ps.length->bindArgs fd ⟨us,[]⟩=pure (ps.zip us)):Binds K fd ps []:=λs us _ hl=>by
 rw[append_nil]at hl ⊢;exact .of_eq (h us hl)
def Passes(CX:aw)(X:Cx)(E:XK):Prop:=∀(pins:List (Addr×Obj)) (σ:St) (H:Hp) (s:Shared) (e:Value) (s':Shared),Inv X pins σ H s->CX X.stack H s E e s'->X.xe e s'
section
variable{CX:aw}{k:Nat}{f C:Addr}{fd:FuncData}{ps:List Str}{sp:Sp}{dvs:List V}{ds:List Value}{E:XK}{x m:Str}{p apos:Pos}{o:Expr}{ta:TE}
structure Mk(K:PySem.W.Frag)(C f:Addr):Prop where
 makes:makesIn K C=true
 init:findIn K (.ref C) "__init__"=some (some (.ref f))
 fn:isFn K (.ref f)=true
 kp:keepIn K (.ref C)=true
theorem JR{pins:List (Addr×Obj)}{σ:St}{H:Hp}{s:Shared}{Q:VK}{us:List Value}{vs:List V}(M:Mk X.K C f)(F:CD X.prog X.w X.K X.mg X.base CX k f fd ps sp)(hr:B3 (k + 1) X.A)(hb:Binds X.K fd ps ds)(hd:Vals dvs ds)
 (hx:Passes CX X E)(I:Inv X pins σ H s)(r:Vals vs us)
 (h:∀x dx,H x=none->H dx=none->dx≠x->sp (.ref x::(vs++dvs)) (upd (upd H dx (.own x)) x (.ins C dx [])) (λv H2=>v= .Ai/\Q (.ref x) H2) E):
 wpAny (model X.prog X.w) X.A (call (.ref C) us) (EP X pins σ Q) X.xe s:=by
 have hq:=h (s.heap.objs.size+1) s.heap.objs.size (I.Ak.fresh (Nat.le_succ _)) (I.Ak.fresh (lR)) (Nat.ne_of_lt (Nat.lt_succ_self _));have I2:=Inv.made (C:=C) I;have r2:Vals (V.ref (s.heap.objs.size+1)::(vs++dvs)) (Value.ref (s.heap.objs.size+1)::(us++ds)):=.cons rfl (r.append hd)
 have hl:(Value.ref (s.heap.objs.size + 1)::us++ds).length=ps.length:=by
  have e:=r2.length;rw[F.len _ _ _ _ hq]at e;exact e.symm
 refine wpAny_call (Qv (f:=f) I.BX M.makes M.init (beq_iff_eq.mp M.fn) (codeAny_mono (F.run _ X.stack _ _ ⟨Value.ref (s.heap.objs.size + 1)::us,[]⟩ (Value.ref (s.heap.objs.size + 1)::(us++ds)) _ _ E (hr.make C us [])
  (I2.YY.make C us []) (hb _ (Value.ref (s.heap.objs.size+1)::us) I2.BX hl) r2 hq) λr s' hq'=>?_))
 cases r with
 |error e=>exact hx pins σ _ _ e s' I2 hq'
 |ok fl=>
   cases fl with
   |ret u=>
     obtain⟨v,H',I3,rv,ev,q3⟩:=I2.after hq';subst ev;exact⟨rv,⟨V.ref (s.heap.objs.size+1),H',I3,rfl,q3⟩⟩
   |next=>exact False.elim hq'
   |brk=>exact False.elim hq'
   |cont=>exact False.elim hq'
theorem TJ(M:Mk X.K C f)(F:CD X.prog X.w X.K X.mg X.base CX k f fd ps sp)(hr:B3 (k + 1) X.A)(hg:Gl X x)(hm:X.mg x=some (.ref C))(hb:Binds X.K fd ps ds)(hd:Vals dvs ds)(hx:Passes CX X E)
 (ha:PA X (e::es) t)(hdb:(x == ("__debug__":Str))=false:=by decide)(he:starEach (e::es) X.env=(false,eval e X.env)::starEach es X.env:=by rfl)(hpl:(backTo pos (starEach es X.env)).any (·.1)=false:=by rfl):
 PE X (.Call (.Name x p) (e::es) [] pos) (JL C sp dvs E t):=by
 intro pins s σ H Q I h;refine wpAny_Call_Name_kw (D8 I hg hm ?_ hdb);refine callWith_K (h₀:=X.base) I.ok.mod.Of M.kp (AI (ha pos pins s σ H _ I h) λus s1 ⟨vs,H1,I1,r,q⟩=>⟨I1.BX,?_⟩) he hpl;exact JR M F hr hb hd hx I1 r q
theorem Q8(M:Mk X.K C f)(F:CD X.prog X.w X.K X.mg X.base CX k f fd ps sp)(hr:B3 (k + 1) X.A)(hg:Gl X x)(hm:X.mg x=some (.ref C))(hb:Binds X.K fd ps ds)(hd:Vals dvs ds)(hx:Passes CX X E)
 (hdb:(x == ("__debug__":Str))=false:=by decide):PE X (.Call (.Name x p) [] [] pos) (JL C sp dvs E E3):=by
 intro pins s σ H Q I h;refine wpAny_Call_Name_kw (D8 I hg hm ?_ hdb);exact callWith_K0 I.BX M.kp (JR (us:=[]) M F hr hb hd hx I .nil h)
end
structure Cv(N P:List Str)(sc:Scope):Prop where
 kind:sc.kind= .function
 co:sc.isCoroutine=false
 gen:sc.isGenerator=false
 nd:N.Nodup
 pre:N.take P.length=P
 par:∀x∈P,sc.names.lookup x=some .local\/sc.names.lookup x=some .cell
 Y8:∀y∈sc.names,y.2≠.free
theorem Ij{kindOf:Str->Option NameKind}{x:Str}:∀{binds:List (Str×Value)} {m:Str->Option Value},(∀v,(x,v)∉binds)->bindL kindOf binds m x=m x
 |[],_,_=>rfl
 | (n,v)::r,m,h=>by
   unfold bindL;rw[Ij λw hw=>h w (mC hw)];split
   .have:x≠n:=by rintro rfl;exact h v mS
    simp[this]
   .rfl
theorem Ik{kindOf:Str->Option NameKind}{x:Str}:∀{binds:List (Str×Value)} {m:Str->Option Value},(∀v,(x,v)∉binds)->bindC kindOf binds m x=m x
 |[],_,_=>rfl
 | (n,v)::r,m,h=>by
   unfold bindC;rw[Ik λw hw=>h w (mC hw)];split
   .rfl
   .have:x≠n:=by rintro rfl;exact h v mS
    simp[this]
theorem E2{kindOf:Str->Option NameKind}{x:Str}{v:Value}:∀{P:List Str} {vs:List Value} {i:Nat} {m:Str->Option Value},P.Nodup->P[i]? =some x->vs[i]? =some v->kindOf x=some .local->
 bindL kindOf (P.zip vs) m x=some v
 |[],_,_,_,_,h,_,_=>by simp at h
 |_::_,[],_,_,_,_,h,_=>by simp at h
 | p::P,w::vs,0,m,nd,h1,h2,hk=>by
   simp at h1 h2;subst h1;subst h2;show bindL kindOf ((p,w)::P.zip vs) m p=_;unfold bindL;rw[Ij λv hv=>(nodup_cons.mp nd).1 (of_mem_zip hv).1,iP hk];simp
 | p::P,w::vs,i + 1,m,nd,h1,h2,hk=>by
   show bindL kindOf ((p,w)::P.zip vs) m x=_;unfold bindL;exact E2 (i:=i) (nodup_cons.mp nd).2 (by simpa using h1) (by simpa using h2) hk
theorem Il{kindOf:Str->Option NameKind}{x:Str}{v:Value}:∀{P:List Str} {vs:List Value} {i:Nat} {m:Str->Option Value},P.Nodup->P[i]? =some x->vs[i]? =some v->kindOf x≠some .local->
 bindC kindOf (P.zip vs) m x=some v
 |[],_,_,_,_,h,_,_=>by simp at h
 |_::_,[],_,_,_,_,h,_=>by simp at h
 | p::P,w::vs,0,m,nd,h1,h2,hk=>by
   simp at h1 h2;subst h1;subst h2;show bindC kindOf ((p,w)::P.zip vs) m p=_;unfold bindC;rw[Ik λv hv=>(nodup_cons.mp nd).1 (of_mem_zip hv).1,iN hk];simp
 | p::P,w::vs,i + 1,m,nd,h1,h2,hk=>by
   show bindC kindOf ((p,w)::P.zip vs) m x=_;unfold bindC;exact Il (i:=i) (nodup_cons.mp nd).2 (by simpa using h1) (by simpa using h2) hk
def start(N:List Str)(vs:List V):St:=vs.map some++List.replicate (N.length-vs.length) none
noncomputable def Kw(CX:aw)(P:Program)(w:World)(K:PySem.W.Frag)(mg:Str->Option Value)(base:Heap)(N:List Str)(qual:Str)(scope:Scope)(f:Addr)(cd:Value)(A:Around)(outer:List Env)(s:Shared)(H:Hp)(E:XK):Cx where
 prog:=P
 w:=w
 K:=K
 mg:=mg
 base:=base
 A:=A.deeper (envOfC qual scope s.heap.objs.size f cd)
 N:=N
 s₀:=s
 H₀:=H
 env:=envOfC qual scope s.heap.objs.size f cd
 outer:=outer
 stack:=envOfC qual scope s.heap.objs.size f cd::outer
 ex:=[]
 calm:=true
 fn:=λ_=>true
 pn:=[]
 xe:=λe s'=>wpAny (model P w) (A.deeper (envOfC qual scope s.heap.objs.size f cd)) (leaving (envOfC qual scope s.heap.objs.size f cd) e) (λ_ s''=>CX outer H s E e s'') (λe' s''=>CX outer H s E e' s'') s'
theorem KA{sc:Scope}(h:sc.names.lookup x=some .cell):∃c,(cellsFrom n sc.names []).lookup x=some c:=by
 have q:=cellsFrom_some sc.names n [] (.inl h);exact Option.isSome_iff_exists.mp q
variable{qual:Str}
theorem Oj{P:Program}{K:PySem.W.Frag}{base:Heap}{N:List Str}{scope:Scope}{cd:Value}{outer:List Env}{s1:Shared}{E:XK}{vs:List V}
 (S:Cv N ps scope)(hd:A.handled=none)(e0:FG P w K mg base A outer s H)(hl:vs.length=ps.length)(r:Vals vs us)
 (x:InCallC s s.heap.objs.size (bindL (envOfC qual scope s.heap.objs.size f cd).kindOf (ps.zip us) λ_=>none) (cellsFrom (s.heap.objs.size+1) scope.names []) (bindC (envOfC qual scope s.heap.objs.size f cd).kindOf (ps.zip us) λ_=>none) s1):
 Inv (Kw CX P w K mg base N qual scope f cd A outer s H E) [] (start N vs) H s1:=by
 have hpl:ps.length<=N.length:=by have:=congrArg List.length S.pre;rw[length_take]at this;lia
 obtain⟨h1,tk,rfl,hk⟩:=x.done;have fW:∀b:Addr,b∉(Kw CX P w K mg base N qual scope f cd A outer s H E).ex:=λb z=>absurd (show b∈([]:List Addr)from z) (by simp)
 refine⟨⟨e0.mod,S.kind,rfl,rfl,lR,λy z c h1 h2=>?_,λy hy=>?_,λy c _ h=>?_,λ_=>hd,Around.frames_deeper e0.frames,.inr ⟨rfl,rfl⟩,λb z=>absurd z (fW b),e0.bs,e0.RD,λb _ _=>fW b,λb z=>absurd z (fW b),e0.E6,e0.Uz⟩,
  rfl,e0.bare,Un.kept hk,⟨_,x.toInCall.ns,λi y v h1 h2 h3=>?_⟩,λy c h=>⟨_,x.cell y c h⟩,e0.Ak.fresh (lR),λy c h=>?_,λp hp=>absurd (show p∈([]:List (Addr×Obj))from hp) (by simp),e0.Ak.kept hk,?_⟩
 .exact name_of_addr x.apart (PySem.mem_of_lookup h1) (PySem.mem_of_lookup h2)
 .have hy:scope.names.lookup y=some .cell\/scope.names.lookup y=some .free:=hy;rcases hy with hy|hy
  .exact KA hy
  .exact absurd rfl (S.Y8 _ (PySem.mem_of_lookup hy))
 .exact Nat.le_of_lt (x.above y c (PySem.mem_of_lookup h))
 .have hi:i < vs.length:=by
   unfold start at h2
   by_cases hi:i < vs.length
   .exact hi
   .rw[List.getElem?_append_right (by simpa using hi)]at h2;rw[List.getElem?_replicate]at h2;split at h2<;>cases h2
  have ha:vs[i]? =some v:=by
   unfold start at h2;rw[List.getElem?_append_left (by simpa using hi),List.getElem?_map]at h2;cases e:vs[i]? with
   |none=>rw[e]at h2;cases h2
   |some a=>rw[e]at h2;cases h2;rfl
  obtain⟨u,hu,rv⟩:=r.get ha
  have hp:ps[i]? =some y:=by
   rw[<-S.pre,List.getElem?_take_of_lt (by lia)];exact h1
  have ndP:ps.Nodup:=by rw[<-S.pre];exact S.nd.sublist (List.take_sublist _ _)
  refine⟨u,rv,?_⟩;rcases S.par y (List.mem_of_getElem? hp)with k|k
  .exact .inl ⟨k,E2 ndP hp hu k⟩
  .obtain⟨c,e⟩:=KA (n:=s.heap.objs.size+1) k;refine .inr ⟨.inl k,c,e,?_⟩;have q:=x.cell y c e;rw[Il ndP hp hu (by show scope.names.lookup y≠_;rw[k];decide)]at q;exact q
 .exact e0.Ak.fresh (Nat.le_of_lt (x.above y c (PySem.mem_of_lookup h)))
 .unfold start;show _=N.length;rw[lA,lM,List.length_replicate]
  lia
theorem dO{P:Program}{K:PySem.W.Frag}{base:Heap}{k:Nat}{name:Str}{params:Arguments}{scope:Scope}{dV kV doc pm cdv ct oc:Value}{an od:Option Addr}
 {osl:Array (Option Value)}{N:List Str}(lk:K.lookup f=some ⟨oc,od,.func (PySem.W.fnOf name qual params body scope dV kV doc pm an cdv ct),osl⟩)(hcd:codeIn K cdv qual=true)(S:Cv N ps scope)
 (len:∀vs H Q E,sp vs H Q E->vs.length=ps.length)
 (hbody:∀(A:Around) (outer:List Env) (s:Shared) (H:Hp) (vs:List V) (Q:VK) (E:XK),B3 k (A.deeper (envOfC qual scope s.heap.objs.size f cdv))->sp vs H Q E->
  ∃t,Mf (Kw CX P w K mg base N qual scope f cdv A outer s H E) body t/\t {nx:=λ_ H'=>Q .Ai H',rt:=Q} (start N vs) H):
 CD P w K mg base CX (k+1) f (PySem.W.fnOf name qual params body scope dV kV doc pm an cdv ct) ps sp:=by
 refine⟨len,λA outer s H args us vs Q E hr e0 hb r hsp=>?_⟩;have hl:=len _ _ _ _ hsp;have KX:K.In s.heap:=e0.mod.Of.keeps λb o e=>(e0.bs b o e).1
 have lim:s.heap.NoLimit:=e0.mod.nolimit.keeps λb o e=>(e0.bs b o e).1
 have hkind:∀y∈ps.zip us,scope.names.lookup y.1=some .local\/(scope.names.lookup y.1=some .cell/\((cellsFrom (s.heap.objs.size + 1) scope.names []).lookup y.1).isSome=true):=λ⟨n,v⟩ hy=>by
  rcases S.par n (of_mem_zip hy).1 with q|q
  .exact .inl q
  .exact .inr ⟨q,cellsFrom_some _ _ _ (.inl q)⟩
 refine codeAny_call_function hr.depth (KX _ _ lk) rfl S.co S.gen rfl (codeRec_of KX hcd) (hb _ _ _ _ ?_);refine wpAny_newFunctionEnv_cells S.kind hkind λenv he s1 x=>?_
 subst he;refine⟨lim.keeps x.toInCall.keep,codeAny_func ?_⟩;obtain⟨t,ht,hq⟩:=hbody A outer s H vs Q E (hr.deeper _) hsp;have I:Inv (Kw CX P w K mg base N qual scope f cdv A outer s H E) [] (start N vs) H s1:=Oj S hr.hd e0 hl r x;refine wpAny_mono (ht [] s1 (start N vs) H _ I hq) (λfl s' hs=>?_) λe s' hs=>hs
 have fin:∀{σ':St} {H':Hp} {v:V} {u:Value},Inv (Kw CX P w K mg base N qual scope f cdv A outer s H E) [] σ' H' s'->RelV v u->Q v H'->CE outer P w H s Q u s':=
  λ{σ' H' v u} J rv q=>⟨v,H',J.os,J.bare,J.base,J.Ak,rv,q⟩
 cases fl with
 |ret u=>
   obtain⟨v,σ',H',J,rv,q⟩:=hs;exact fin J rv q
 |next=>
   obtain⟨σ',H',J,q⟩:=hs;exact fin (v:=V.Ai) (u:=Value.none) J rfl q
 |brk=>
   obtain⟨_,_,_,q⟩:=hs;exact False.elim q
 |cont=>
   obtain⟨_,_,_,q⟩:=hs;exact False.elim q
section
variable{x:Str}{p:Pos}{id T:String}{r:List V->Hp->VK->Prop}
def jR(r:List V->Hp->VK->Prop)(t:TA):TE:=λσ H Q=>t σ H λvs H1=>r vs H1 Q
theorem Dr(hc:Bk X (.builtin id) r)(hg:Gl X x)(hm:X.mg x=none)(hv:bootBuiltins x=some (.builtin id))(ha:PA X (e::es) t)(hn:x≠"__name__":=by decide)(hdb:(x == ("__debug__":Str))=false:=by decide)
 (he:starEach (e::es) X.env=(false,eval e X.env)::starEach es X.env:=by rfl)(hpl:(backTo pos (starEach es X.env)).any (·.1)=false:=by rfl):PE X (.Call (.Name x p) (e::es) [] pos) (jR r t):=by
 intro pins s σ H Q I h;refine wpAny_Call_Name_kw (Er I hg hm hv ?_ hn hdb);exact PyProof.Rows.callWith_builtin1 (AI (ha pos pins s σ H _ I h) λus s1 ⟨vs,H1,I1,r1,q1⟩=>hc pins s1 σ H1 vs us Q I1 r1 q1) he hpl
theorem NT(hc:Bk X (.type T) r)(hg:Gl X x)(hm:X.mg x=none)(hv:bootBuiltins x=some (.type T))(ha:PA X (e::es) t)(hn:x≠"__name__":=by decide)(hdb:(x == ("__debug__":Str))=false:=by decide)
 (he:starEach (e::es) X.env=(false,eval e X.env)::starEach es X.env:=by rfl)(hpl:(backTo pos (starEach es X.env)).any (·.1)=false:=by rfl):PE X (.Call (.Name x p) (e::es) [] pos) (jR r t):=by
 intro pins s σ H Q I h;refine wpAny_Call_Name_kw (Er I hg hm hv ?_ hn hdb);exact PyProof.Rows.callWith_type1 (AI (ha pos pins s σ H _ I h) λus s1 ⟨vs,H1,I1,r1,q1⟩=>hc pins s1 σ H1 vs us Q I1 r1 q1) he hpl
end
end L2
namespace HT
open PySem PyProof.Rows
variable{prog:Program}{w:World}{A:Around}{E:Value->Shared->Prop}{s:Shared}
theorem UY{vs ws:List Value}{Q:Value->Shared->Prop}(ht:IsTup s.heap t vs.toArray)(hb:IsTup s.heap b ws.toArray)(hv:vs≠[])
 (h1:ws=[]->Q (.ref t) s)(h2:ws≠[]->Q (.ref s.heap.objs.size) {s with heap:=s.heap.push {cls:=.type "tuple",data:=.seq (vs++ws).toArray}})
 (hsz:vs.length+ws.length<=sizeLine):wpAny (model prog w) A (binaryOp .Add (.ref t) (.ref b)) Q E s:=by
 obtain⟨⟨cls,dd,data,sl⟩,ho,hc,n,hd⟩:=id ht;obtain⟨⟨cls2,dd2,data2,sl2⟩,ho2,hc2,n2,hd2⟩:=id hb;simp only at hc hd hc2 hd2;subst hc hd hc2 hd2;have e:vs.toArray++ws.toArray=(vs++ws).toArray:=by simp
 by_cases hw:ws=[]
 .exact concat_meets ⟨_,ho,rfl⟩ ⟨_,ho2,rfl⟩ noFill_tuple_add seq_tuple_add PySem.F.slot_tuple_add PySem.F.entry_tuple_add (PySem.F.args_tuple_add_2 _ _)
   (tuple_addW1 t b vs.toArray ws.toArray n n2 dd dd2 sl sl2 (by simpa using hv) (by simp[hw])) ⟨ho,ho2,h1 hw⟩
 .refine concat_meets ⟨_,ho,rfl⟩ ⟨_,ho2,rfl⟩ noFill_tuple_add seq_tuple_add PySem.F.slot_tuple_add PySem.F.entry_tuple_add (PySem.F.args_tuple_add_2 _ _)
   (tuple_addW2 t b vs.toArray ws.toArray n n2 dd dd2 sl sl2 (by simpa using hv) (by simpa using hw) (by rw[size_toArray,size_toArray];exact hsz)) ⟨ho,ho2,?_⟩
  rw[e];exact h2 hw
noncomputable def Br(n d:Nat):Option Int->Nat
 |none=>d
 |some v=>if v < 0 then(v+(n:Int)).toNat else min v.toNat n
theorem Xu(n d:Nat)(hd:d<=n)(o:Option Int):Br n d o<=n:=by
 cases o with
 |none=>exact hd
 |some v=>
   show(if v < 0 then(v+(n:Int)).toNat else min v.toNat n)<=n
   by_cases hv:v < 0
   .rw[iP hv];lia
   .rw[iN hv];exact Nat.min_le_right _ _
theorem Jt(v:Int)(n d:Nat):(if v < 0 then max (v + (n:Int)) 0 else min v (n:Int))=((Br n d (some v):Nat):Int):=by
 show(if v < 0 then max (v+(n:Int)) 0 else min v (n:Int))=(((if v < 0 then(v+(n:Int)).toNat else min v.toNat n):Nat):Int)
 by_cases hv:v < 0
 .simp only[iP hv];lia
 .simp only[iN hv];lia
theorem Me(lo hi:Option Int)(n:Nat):Builtin.Slice.sliceAdjust lo hi 1 (n:Int)=(((Br n 0 lo:Nat):Int),((Br n n hi:Nat):Int)):=by
 have h1:¬((1:Int) < 0):=by lia
 unfold Builtin.Slice.sliceAdjust;simp only[h1,if_false];refine Prod.ext ?_ ?_
 .cases lo with
  |none=>rfl
  |some v=>exact Jt v n 0
 .cases hi with
  |none=>rfl
  |some v=>exact Jt v n n
theorem Lg(i j:Nat):Builtin.Slice.slicePlaces (i:Int) (j:Int) 1=j - i:=by
 unfold Builtin.Slice.slicePlaces;have h1:(1:Int) > 0:=by lia
 simp only[h1,if_true,Int.ediv_one];split<;>lia
theorem Gm{o:Option Int}{Q:Option Int->Shared->Prop}(p:IsPart v o)(h:Q o s):wpAny (model prog w) A (Builtin.Slice.slicePartIndex v) Q E s:=by
 cases p with
 |none=>exact slicePart_none h
 |int i t=>exact slicePart_int h
variable{sl:Addr}{vl vu:Value}
theorem CK{lo hi:Option Int}{n:Nat}{Q:Int×Int×Nat->Shared->Prop}(hs:s.heap.IsSliceOf sl vl vu .none)(pl:IsPart vl lo)(pu:IsPart vu hi)
 (h:Q (((Br n 0 lo:Nat):Int),1,Br n n hi-Br n 0 lo) s):wpAny (model prog w) A (Builtin.Slice.sliceApplied (.ref sl) (pure (n:Int))) Q E s:=by
 obtain⟨os,hos,hcs,hds⟩:=id hs;unfold Builtin.Slice.sliceApplied Builtin.Slice.sliceFields;refine wpAny_bind (wpAny_bind (wpAny_field hos hds (x:=vl) rfl (wpAny_bind (wpAny_field hos hds (x:=vu) rfl (wpAny_bind (wpAny_field hos hds (x:=.none) rfl (wP ?_)))))));refine wpAny_bind (slicePart_none ?_);show wpAny _ _ (if((1:Int) == 0)=true then _ else _) _ _ s;rw[iN (by decide)];refine wpAny_bind (Gm pl (wpAny_bind (Gm pu (wpAny_bind (wP ?_)))));show wpAny _ _ (match Builtin.Slice.sliceAdjust lo hi 1 (n:Int)with|(lo,hi)=>pure (lo,(1:Int),Builtin.Slice.slicePlaces lo hi 1)) _ _ s;rw[Me lo hi n];show wpAny _ _ (pure (((Br n 0 lo:Nat):Int),(1:Int),Builtin.Slice.slicePlaces ((Br n 0 lo:Nat):Int) ((Br n n hi:Nat):Int) 1)) _ _ s;rw[Lg];exact wP h
theorem PZ(xs:Array Value)(i k:Nat):((List.range k).filterMap λ(m:Nat)=>xs[((i:Int) + (m:Int) * 1).toNat]?).toArray=((xs.toList.drop i).take k).toArray:=by
 have e:(λ(m:Nat)=>xs[((i:Int) + (m:Int) * 1).toNat]?)=λm=>xs[i + m]? :=by
  funext m
  have:((i:Int)+(m:Int)*1).toNat=i+m:=by lia
  rw[this]
 rw[e];have:=pick_run xs i k;rw[List.filterMap_map]at this;have e2:((λx=>xs[x]?) ∘ λx=>i+x)=λm=>xs[i+m]? :=rfl
 rw[e2]at this;rw[this]
theorem F3{items:Array Value}{lo hi:Option Int}{Q:Value->Shared->Prop}(ht:IsTup s.heap t items)(hs:s.heap.IsSliceOf sl vl vu .none)(pl:IsPart vl lo)(pu:IsPart vu hi)
 (hw:¬(Br items.size 0 lo=0/\Br items.size items.size hi=items.size))
 (h:Q (.ref s.heap.objs.size) {s with heap:=s.heap.push {cls:=.type "tuple",data:=.seq ((items.toList.drop (Br items.size 0 lo)).take (Br items.size items.size hi-Br items.size 0 lo)).toArray}})
 (hsz:items.size<=sizeLine):wpAny (model prog w) A (getItem (.ref t) (.ref sl)) Q E s:=by
 have htake:sizeOk (.seq ((items.toList.drop (Br items.size 0 lo)).take (Br items.size items.size hi - Br items.size 0 lo)).toArray):=by
  show((items.toList.drop (Br items.size 0 lo)).take (Br items.size items.size hi-Br items.size 0 lo)).toArray.size<=sizeLine;rw[size_toArray,length_take,length_drop,Array.length_toList]
  lia
 have hj:Br items.size items.size hi<=items.size:=Xu _ _ (lR) hi;obtain⟨os,hos,hcs,hds⟩:=id hs;have hTs:s.TypeIs (.ref sl) "slice":=⟨os,hos,hcs⟩;unfold getItem
 try with_reducible refine wpAny_holding ?_
 first|refine wpAny_bind (wP ?_)|skip
 refine wpAny_bind (wpAny_sequenceKey ht.typeIs (by decide) ?_)
 refine wpAny_bind (wpAny_callSpecial?_slot (name:=Str.ofString "__getitem__") ht.typeIs PyProof.Rows.slot_tuple_getitem
  (wpAny_call_entry PyProof.Rows.slot_tuple_getitem ht.typeIs entry_tuple_getitem ?_ (args_tuple_getitem _ _)))
 show wpAny _ _ (Builtin.Tuple.tupleItemsOf (.ref t) >>= _) _ _ s;refine wpAny_bind (tupleItemsOf_ ht ?_);refine wpAny_bind (wpAny_typeOf hTs ?_);rw[iP (by decide)];refine wpAny_bind (CK hs pl pu ?_)
 have hno:¬((((Br items.size 0 lo:Nat):Int) == 0 && (1:Int) == 1 && (Br items.size items.size hi - Br items.size 0 lo) == items.size)=true):=by
  intro q;rw[bA,bA]at q;have q1:((Br items.size 0 lo:Nat):Int)=0:=eq_of_beq q.1.1;have q2:Br items.size items.size hi-Br items.size 0 lo=items.size:=eq_of_beq q.2;exact hw ⟨by lia,by lia⟩
 show wpAny _ _ (if(((Br items.size 0 lo:Nat):Int) == 0 && (1:Int) == 1 && (Br items.size items.size hi-Br items.size 0 lo) == items.size)=true then _ else _) _ _ s;rw[iN hno,PZ]
 first
  |exact wpAny_bind (m:=Builtin.Tuple.tupleExact _) (wpAny_newObj_type (wP ⟨_,rfl,wP h⟩) htake)
  |exact wpAny_bind (m:=Builtin.Tuple.tupleExact _) (wpAny_newObj_type (wpAny_bind (wP (wP ⟨_,rfl,wP h⟩))) htake)
  |exact wpAny_bind (wpAny_bind (m:=Builtin.Tuple.tupleExact _) (wpAny_newObj_type (wP (wP ⟨_,rfl,wP h⟩)) htake))
  |exact wpAny_bind (wpAny_bind (m:=Builtin.Tuple.tupleExact _) (wpAny_newObj_type (wP ⟨_,rfl,wP h⟩) htake))
end HT
namespace L2
open PySem PySem.Spec PyProof.Rows
section
variable{X:Cx}{e:Expr}{te:TE}{lo hi:Option Expr}{tl th:TO}{pos p2:Pos}
def aR(X:Cx)(r:V->Option Int->Option Int->Hp->VK->Prop):Prop:=
 ∀ (pins:List (Addr×Obj)) (s:Shared) (σ:St) (H:Hp) (x:V) (v vl vu:Value) (lo hi:Option Int) (sl:Addr) (Q:VK),Inv X pins σ H s->RelV x v->s.heap.IsSliceOf sl vl vu .none->IsPart vl lo->IsPart vu hi->r x lo hi H Q->
   ∃T id,typeLookup (.type T) "__getitem__"=pure (some (.builtin id))/\s.TypeIs v T/\wpAny (model X.prog X.w) X.A (getItem v (.ref sl)) (EP X pins σ Q) X.xe s
noncomputable def Kx(xs:List V)(lo hi:Option Int):List V:=(xs.drop (HT.Br xs.length 0 lo)).take (HT.Br xs.length xs.length hi-HT.Br xs.length 0 lo)
theorem FQ(xs:List V)(lo hi:Option Int):(Kx xs lo hi).length<=xs.length:=by
 unfold Kx;rw[length_take,length_drop]
 lia
def ib(K:PySem.W.Frag):V->Option Int->Option Int->Hp->VK->Prop:=λx lo hi H Q=>∃a xs,x= .ref a/\ED K H a xs/\
 ¬(HT.Br xs.length 0 lo=0/\HT.Br xs.length xs.length hi=xs.length)/\∀p,H p=none->Q (.ref p) (upd H p (.tup (Kx xs lo hi)))
theorem Xb:aR X (ib X.K):=by
 intro pins s σ H x v vl vu lo hi sl Q I rx hs pl pu h;obtain⟨a,xs,rfl,hx,hw,q⟩:=h;cases rx;obtain⟨its,r,ht,hz⟩:=I.tuple hx;have hlen:its.toArray.size=xs.length:=by rw[size_toArray];exact r.length.symm
 refine⟨"tuple",_,PyProof.Rows.slot_tuple_getitem.lookup,ht.typeIs,?_⟩;refine HT.F3 ht hs pl pu (by rw[hlen];exact hw) ?_ (by rw[hlen];exact hz);rw[hlen];refine⟨.ref s.heap.objs.size,_,I.laid (t':=s.toks) (o:=.tup (Kx xs lo hi)) (λb ob q=>gP q) (lR) ?_,rfl,q _ (I.Ak.fresh (lR))⟩;exact⟨Nat.le_trans (FQ xs lo hi) hz,_,(r.drop (HT.Br xs.length 0 lo)).take (HT.Br xs.length xs.length hi-HT.Br xs.length 0 lo),IsTup.new _ _⟩
noncomputable def cj(K:PySem.W.Frag):R2:=λx y H Q=>∃a b xs ys,x= .ref a/\y= .ref b/\ED K H a xs/\ED K H b ys/\xs≠[]/\xs.length + ys.length<=sizeLine/\
 (ys=[]->Q (.ref a) H)/\(ys≠[]->∀p,H p=none->Q (.ref p) (upd H p (.tup (xs++ys))))
theorem Vals.IV{xs:List V}{us:List Value}(r:Vals xs us):us=[]↔xs=[]:=by
 cases r with
 |nil=>simp
 |cons _ _=>simp
theorem TR:BP X (binaryOp .Add) (cj X.K):=by
 intro pins s σ H x y v u Q I rx ry h;obtain⟨a,b,xs,ys,rfl,rfl,ha,hb,hx,hz,q1,q2⟩:=h;cases rx;cases ry;obtain⟨its,r1,p1,_⟩:=I.tuple ha;obtain⟨its2,r2,p2,_⟩:=I.tuple hb;refine HT.UY p1 p2 (λz=>hx (r1.IV.mp z)) (λz=>⟨.ref a,H,I,rfl,q1 (r2.IV.mp z)⟩) (λz=>?_) (by rw[<-r1.length,<-r2.length];exact hz);refine⟨.ref s.heap.objs.size,_,I.laid (t':=s.toks) (o:=.tup (xs++ys)) (λb ob q=>gP q) (lR) ?_,rfl,q2 (λw=>z (r2.IV.mpr w)) _ (I.Ak.fresh (lR))⟩;exact⟨by rw[lA];exact hz,_,r1.append r2,IsTup.new _ _⟩
end
noncomputable def JD(n:Nat)(i:Int):Option Nat:=if 0<=i then(if i < n then some i.toNat else none)else if -(n:Int)<=i then some (i+n).toNat else none
def WI{α:Type}(xs:List α)(i:Int):Option α:=(JD xs.length i).bind λj=>xs[j]?
variable{n:Nat}
theorem Up{j:Nat}(h:JD n i=some j):seqIndex? i n=some j/\j < n/\-(n:Int)<=i/\i < n:=by
 unfold JD at h
 by_cases h0:0<=i
 .rw[iP h0]at h
  by_cases h1:i < n
  .rw[iP h1]at h;have e:i.toNat=j:=Option.some.inj h;exact⟨by rw[seqIndex_of h0 h1,e],by lia,by lia,h1⟩
  .rw[iN h1]at h;cases h
 .rw[iN h0]at h
  by_cases h1: -(n:Int)<=i
  .rw[iP h1]at h;have e:(i+n).toNat=j:=Option.some.inj h;exact⟨by rw[seqIndex_neg (by lia) h1,e],by lia,h1,by lia⟩
  .rw[iN h1]at h;cases h
variable{α:Type}
theorem Jw{xs:List α}{v:α}(h:WI xs i=some v):∃j,seqIndex? i xs.length=some j/\xs[j]? =some v/\j < xs.length/\-(xs.length:Int)<=i/\i < xs.length:=by
 unfold WI at h;cases e:JD xs.length i with
 |none=>rw[e]at h;cases h
 |some j=>
   rw[e]at h;obtain⟨h1,h2,h3,h4⟩:=Up e;exact⟨j,h1,h,h2,h3,h4⟩
def Jz(b:Expr):Prop:=∀o i,subscripted b false o i=operate [o,i] (getItem o i)
def VJ(X:Cx)(r:R2):Prop:=
 ∀ (value slice:Expr) (pins:List (Addr×Obj)) (s:Shared) (σ:St) (H:Hp) (x y:V) (v u:Value) (Q:VK),Inv X pins σ H s->RelV x v->RelV y u->r x y H Q->
   subscripted slice false v u=operate [v,u] (getItem v u)->wpAny (model X.prog X.w) X.A (subscriptTail value slice v u) (EP X pins σ Q) X.xe s
def ZL(X:Cx)(id:String)(r:V->List V->Hp->VK->Prop):Prop:=
 ∀ (pins:List (Addr×Obj)) (s:Shared) (σ:St) (H:Hp) (x:V) (xs:List V) (v:Value) (us:List Value) (Q:VK),Inv X pins σ H s->RelV x v->Vals xs us->r x xs H Q->
   wpAny (model X.prog X.w) X.A (call (.builtin id) (v::us)) (EP X pins σ Q) X.xe s
section
variable{X:Cx}{a b:Expr}{ta tb:TE}{pos:Pos}
theorem cF{r:R2}(hr:VJ X r)(ha:PE X a ta)(hb:PE X b tb)(hs:Jz b):PE X (.Subscript a b pos) (fS r ta tb):=by
 intro pins s σ H Q I h;exact Subscript_ (Zq ha hb I h λv u s2 x y H2 I2 rx ry q=>hr a b pins s2 σ H2 x y v u Q I2 rx ry q (hs _ _))
noncomputable def iq(K:PySem.W.Frag):R2:=λx y H Q=>∃p xs i v,x= .ref p/\y= .int i/\Eg K H p xs/\WI xs i=some v/\Q v H
noncomputable def ik(K:PySem.W.Frag):R2:=λx y H Q=>∃p xs i v,x= .ref p/\y= .int i/\ED K H p xs/\WI xs i=some v/\Q v H
noncomputable def il:R2:=λx y H Q=>∃z i c,x= .str z/\y= .int i/\z.length<=sizeLine/\WI z.cps.toList i=some c/\Q (.str ⟨#[c]⟩) H
theorem Uo:VJ X (iq X.K):=by
 intro value slice pins s σ H x y v u Q I rx ry h hs;obtain⟨p,xs,i,z,rfl,rfl,hq,he,q⟩:=h;cases rx;obtain⟨t,rfl⟩:=ry;obtain⟨its,r,pl,hz⟩:=I.list hq;obtain⟨j,h1,h2,h3,h4,h5⟩:=Jw he;obtain⟨w,ew,rw'⟩:=r.get h2;have hl:=r.length;have hn:=GF;have fin:EP X pins σ Q w s:=⟨z,H,I,rw',q⟩
 by_cases h0:0<=i
 .have hj:i.toNat=j:=by
   rw[seqIndex_of h0 h5]at h1;exact Option.some.inj h1
  exact item_listR pl.isList h0 (by lia) (by rw[hj];simpa using ew) fin hs
 .have hj:(i + (its.toArray.size:Int)).toNat=j:=by
   rw[seqIndex_neg (by lia) h4]at h1;rw[size_toArray,<-hl];exact Option.some.inj h1
  exact subscriptTail_builtinR (x:=w) pl.isList.typeIs slot_list_getitem.lookup
   (wpAny_getItem_list_neg (Q:=λr s'=>r=w/\EP X pins σ Q r s') pl.isList (by lia) (by rw[size_toArray]<;>lia) (by lia) (by rw[hj];simpa using ew) ⟨rfl,fin⟩) hs
theorem Yy:VJ X (ik X.K):=by
 intro value slice pins s σ H x y v u Q I rx ry h hs;obtain⟨p,xs,i,z,rfl,rfl,hq,he,q⟩:=h;cases rx;obtain⟨t,rfl⟩:=ry;obtain⟨its,r,pl,hz⟩:=I.tuple hq;obtain⟨j,h1,h2,h3,h4,h5⟩:=Jw he;obtain⟨w,ew,rw'⟩:=r.get h2;have hl:=r.length;have hn:=GF;have fin:EP X pins σ Q w s:=⟨z,H,I,rw',q⟩
 exact subscriptTail_builtinR (x:=w) pl.typeIs slot_tuple_getitem.lookup
  (getItem_tuple (j:=j) (Q:=λr s'=>r=w/\EP X pins σ Q r s') pl (by lia) (by lia) (by rw[size_toArray,<-hl];exact h1) (by simpa using ew) ⟨rfl,fin⟩) hs
theorem Yz:VJ X il:=by
 intro value slice pins s σ H x y v u Q I rx ry h hs;obtain⟨z,i,c,rfl,rfl,hz,he,q⟩:=h;obtain⟨t,rfl⟩:=rx;obtain⟨t',rfl⟩:=ry;obtain⟨j,h1,h2,h3,h4,h5⟩:=Jw he;have hl:z.cps.toList.length=z.length:=by simp[Str.length]
 rw[hl]at h1 h4 h5;have hn:=GF
 exact tail_any (typeIs_str s z t) slot_str_getitem.lookup (getItem_str (c:=c) (by
  have e1:decide (i < -(2 ^ 63:Int))=false:=dF (by lia);have e2:decide (i≥2 ^ 63)=false:=dF (by lia)
  rw[e1,e2,Bool.or_false]) (by rw[h1];simpa using h2) ⟨.str ⟨#[c]⟩,H,I.tok _,⟨_,rfl⟩,q⟩) hs
theorem IE(lo hi:Option Int)(n:Nat):(sliceBounds lo hi none n).1=((HT.Br n 0 lo:Nat):Int)/\(sliceBounds lo hi none n).2.1=((HT.Br n n hi:Nat):Int)/\(sliceBounds lo hi none n).2.2=1:=by
 refine⟨?_,?_,rfl⟩
 .cases lo with
  |none=>simp[sliceBounds,HT.Br]
  |some i=>
    simp only[sliceBounds,HT.Br,Option.getD_none,show(1:Int) > 0 by decide,if_true]
    by_cases h:i < 0
    .simp only[h,if_true]<;>lia
    .simp only[h,if_false]<;>lia
 .cases hi with
  |none=>simp[sliceBounds,HT.Br]
  |some i=>
    simp only[sliceBounds,HT.Br,Option.getD_none,show(1:Int) > 0 by decide,if_true]
    by_cases h:i < 0
    .simp only[h,if_true]<;>lia
    .simp only[h,if_false]<;>lia
theorem Hh(its:List Value)(lo hi:Option Int):slicePick its.toArray lo hi none=((its.drop (HT.Br its.length 0 lo)).take (HT.Br its.length its.length hi - HT.Br its.length 0 lo)).toArray:=by
 obtain⟨h1,h2,h3⟩:=IE lo hi its.toArray.size;unfold slicePick;rw[h1,h2,h3];simp only[sliceRange_one,pick_run,size_toArray]<;>rfl
def ij(K:PySem.W.Frag):V->Option Int->Option Int->Hp->VK->Prop:=λx lo hi H Q=>∃a xs,x= .ref a/\Eg K H a xs/\∀p,H p=none->Q (.ref p) (upd H p (.lst (Kx xs lo hi)))
theorem fT:aR X (ij X.K):=by
 intro pins s σ H x v vl vu lo hi sl Q I rx hs pl pu h;obtain⟨a,xs,rfl,hx,q⟩:=h;cases rx;obtain⟨its,r,ht,hz⟩:=I.list hx;have hlen:=r.length;refine⟨"list",_,slot_list_getitem.lookup,ht.isList.typeIs,?_⟩;refine wpAny_getItem_list_slice ht.isList hs pl pu .none (by simp) ?_ (by rw[size_toArray]<;>lia);rw[Hh,<-hlen];refine⟨.ref s.heap.objs.size,_,I.laid (t':=s.toks) (o:=.lst (Kx xs lo hi)) (λb ob q=>gP q) (lR) ?_,rfl,q _ (I.Ak.fresh (lR))⟩;exact⟨Nat.le_trans (FQ xs lo hi) hz,_,0,(r.drop (HT.Br xs.length 0 lo)).take (HT.Br xs.length xs.length hi-HT.Br xs.length 0 lo),Heap.get?_push_size _ rfl⟩
theorem Ef:Bk X (.type "tuple") (λxs H Q=>∃p ys,xs=[.ref p]/\((Eg X.K H p ys/\∀l,H l=none->Q (.ref l) (upd H l (.tup ys)))\/(ED X.K H p ys/\Q (.ref p) H))):=by
 intro pins s σ H xs us Q I r h;obtain⟨p,ys,rfl,h⟩:=h;obtain⟨u,rfl,rx⟩:=vals1 r;cases rx;rcases h with⟨hq,q⟩|⟨hq,q⟩
 .obtain⟨its,r',pl,hz⟩:=I.list hq;have hlen:=r'.length;refine call_tuple_list pl.isList (λh' kp=>?_) (by simp only[size_toArray]<;>lia);have I1:Inv X pins σ H {s with heap:=h'}:=I.kept (t':=s.toks) kp
  have I2:Inv X pins σ (upd H h'.objs.size (.tup ys)) {s with heap:=h'.push {cls:=.type "tuple",data:=.seq its.toArray}}:=
   I1.laid (t':=s.toks) (λb o e=>gP e) (lR) (show Bc X.prog X.w _ _ _ (.tup ys)from⟨hz,its,r',IsTup.new _ _⟩)
  exact⟨.ref h'.objs.size,_,I2,rfl,q _ (I1.Ak.fresh (lR))⟩
 .obtain⟨its,r',pl,hz⟩:=I.tuple hq;exact call_tuple_same pl ⟨.ref p,H,I,rfl,q⟩
def fP(K:PySem.W.Frag)(T:String)(x:V)(H:Hp):Prop:=match x with
 |.str _=>T="str"
 |.int _=>T="int"
 | .ref p=>(T="list"/\∃xs,Eg K H p xs)\/(T="tuple"/\∃o,K.lookup p=some o/\o.cls= .type "tuple"/\o.dict=none)\/
  (T="dict"/\((∃kvs,H p=some (.dK kvs))\/∃kvs,H p=some (.dT kvs)))\/(T="set"/\∃S n,H p=some (.set S n))
 |_=>False
theorem OR{pins:List (Addr×Obj)}{σ:St}{H:Hp}{s:Shared}{T:String}(I:Inv X pins σ H s)(r:RelV x v)(ty:fP X.K T x H):
 s.TypeIs v T/\∀a,v= .ref a->∃ob,s.heap.get? a=some ob/\ob.dict=none:=by
 cases x with
 |str z=>
   obtain⟨t,rfl⟩:=r;cases (show T="str" from ty);exact⟨typeIs_str s z t,λ_ e=>nomatch e⟩
 |int i=>
   obtain⟨t,rfl⟩:=r;cases (show T="int" from ty);exact⟨typeIs_int s i t,λ_ e=>nomatch e⟩
 |ref p =>
   cases r;rcases ty with⟨rfl,xs,hq⟩|⟨rfl,o,hk,hc,hd⟩|⟨rfl,hk⟩|⟨rfl,S,n,hk⟩
   .obtain⟨its,_,pl,_⟩:=I.list hq;refine⟨pl.isList.typeIs,λa e=>?_⟩;cases e;obtain⟨o,n,e,c,hd,_⟩:=pl;exact⟨o,e,hd⟩
   .refine⟨⟨o,I.BX p o hk,hc⟩,λa e=>?_⟩;cases e;exact⟨o,I.BX _ o hk,hd⟩
   .have z:∃o,s.heap.get? p=some o/\o.ExactDict:=by
     rcases hk with⟨kvs,hk⟩|⟨kvs,hk⟩
     .obtain⟨_,_,_,_,o,_,_,e,ex,_⟩:=I.Ak p _ hk;exact⟨o,e,ex⟩
     .obtain⟨_,_,_,_,o,_,_,e,ex,_⟩:=I.Ak p _ hk;exact⟨o,e,ex⟩
    obtain⟨o,e,ex⟩:=z;refine⟨⟨o,e,ex.1⟩,λa e2=>?_⟩;cases e2;exact⟨o,e,ex.2.1⟩
   .obtain⟨o,_,_,_,e,ex,_⟩:=I.Ak p _ hk;refine⟨⟨o,e,ex.1⟩,λa e2=>?_⟩;cases e2;exact⟨o,e,ex.2.1⟩
 |_=>exact False.elim ty
noncomputable def gQ(K:PySem.W.Frag)(T:String)(r:V->List V->Hp->VK->Prop)(to:TE):TE:=λσ H Q=>to σ H λx H1=>fP K T x H1/\r x [] H1 Q
noncomputable def ku(K:PySem.W.Frag)(T:String)(r:V->List V->Hp->VK->Prop)(to:TE)(t:TA):TE:=λσ H Q=>to σ H λx H1=>fP K T x H1/\t σ H1 λxs H2=>r x xs H2 Q
variable{o e:Expr}{es:List Expr}{to:TE}{t:TA}{name:Str}{apos cpos:Pos}{T id:String}{r:V->List V->Hp->VK->Prop}
theorem XS(pa:PlainAttrs T)(slot:Slot T name id)(hty:typeOf (.builtin id)=pure (.type "method_descriptor"))(hm:ZL X id r)(ho:PE X o to)
 (hbase:attributeBase o name X.env (eval o X.env)=eval o X.env:=by rfl)(hline:(apos.endLine == cpos.line)=true:=by rfl):PE X (.Call (.Attribute o name apos) [] [] cpos) (gQ X.K T r to):=by
 intro pins s σ H Q I h;refine wpAny_Call_method0_late hbase hline (AI (ho pins s σ H _ I h) λv s1 ⟨x,H1,I1,r1,ty,q1⟩=>?_);obtain⟨h1,h2⟩:=OR I1 r1 ty;exact⟨T,id,pa,slot,hty,h1,h2,Calls.callWith_builtin rfl (PySem.evalArgs_none (hm pins s1 σ H1 x [] v [] Q I1 r1 .nil q1))⟩
theorem Qf(pa:PlainAttrs T)(slot:Slot T name id)(hty:typeOf (.builtin id)=pure (.type "method_descriptor"))(hm:ZL X id r)(ho:PE X o to)(ha:PA X (e::es) t)
 (hbase:attributeBase o name X.env (eval o X.env)=eval o X.env:=by rfl)
 (hfew:((backTo cpos (starEach (e::es) X.env)).all (λx=>!x.1) && (backToKw cpos (keywordEach [] X.env)).all (λx=>x.1.isSome)
  && decide ((e::es).length+([]:List Keyword).length+(if([]:List Keyword).isEmpty then 0 else 1) < 30))=true:=by rfl)
 (hline:(apos.endLine == cpos.line)=true:=by rfl)(hs:starEach (e::es) X.env=(false,eval e X.env)::starEach es X.env:=by rfl)(hplain:(backTo cpos (starEach es X.env)).any (·.1)=false:=by rfl):
 PE X (.Call (.Attribute o name apos) (e::es) [] cpos) (ku X.K T r to t):=by
 intro pins s σ H Q I h;refine wpAny_Call_method_late hbase hfew hline rfl (AI (ho pins s σ H _ I h) λv s1 ⟨x,H1,I1,r1,ty,q1⟩=>?_);obtain⟨h1,h2⟩:=OR I1 r1 ty;refine⟨T,id,pa,slot,hty,h1,h2,?_⟩;have hA:=ha cpos pins s1 σ H1 _ I1 q1;rw[hs]at hA ⊢;refine Calls.callWith_builtin (by show(false || (backTo cpos (starEach es X.env)).any (·.1))=false;rw[hplain]<;>rfl) (Calls.evalArgs_plain ?_);exact AI hA λus s2 ⟨vs,H2,I2,r2,q2⟩=>hm pins s2 σ H2 x vs v us Q I2 r1 r2 q2
end
def jF(X:Cx)(id:String)(r:V->List V->Hp->VK->Prop):Prop:=
 ∀ (pins:List (Addr×Obj)) (s:Shared) (σ:St) (H:Hp) (x:V) (xs:List V) (v:Value) (us:List Value) (Q:VK),Inv X pins σ H s->RelV x v->Vals xs us->r x xs H Q->
   wpAny (model X.prog X.w) X.A (call (.builtin id) (v::us)) (EP X pins σ Q) X.xe s
theorem Vals.one:∀{x:V} {us:List Value},Vals [x] us->∃u,us=[u]/\RelV x u
 |_,_,.cons r .nil=>⟨_,rfl,r⟩
theorem Vals.zero:∀{us:List Value},Vals [] us->us=[]
 |_,.nil=>rfl
theorem Vals.dropLast{xs:List V}{us:List Value}(h:Vals xs us):Vals xs.dropLast us.dropLast:=by
 induction h with
 |nil=>exact .nil
 |cons r t ih=>
   cases t with
   |nil=>exact .nil
   |cons q t'=>exact .cons r ih
theorem M4(l:List α):l.eraseIdx (l.length - 1)=l.dropLast:=by
 induction l with
 |nil=>rfl
 |cons a r ih=>
   cases r with
   |nil=>rfl
   |cons b r=>
     have e:(a::b::r).length - 1=((b::r).length - 1) + 1:=by
      have h1:(a::b::r).length=r.length+2:=rfl;have h2:(b::r).length=r.length+1:=rfl
      lia
     rw[e,List.eraseIdx_cons_succ,ih]
     all_goals rfl
variable{X:Cx}{pins:List (Addr×Obj)}{σ:St}{H:Hp}{s:Shared}{l b:Addr}{xs ys zs:List V}
variable{its:List Value}{t':Nat}
theorem Inv.Ue{its':List Value}{f:Array Value->Array Value}(I:Inv X pins σ H s)(hH:H l=some (.lst xs))
 (e:s.heap.get? l=some {cls:=.type "list",data:=.seq its.toArray n})(hf:f its.toArray=its'.toArray)(hv:Vals ys its')(hz:ys.length<=sizeLine):
 Inv X pins σ (upd H l (.lst ys)) {s with heap:=s.heap.update l (Obj.mapSeq f),toks:=t'}:=by
 have q:=PySem.IsL.update e f;rw[hf]at q;refine I.write (x:=l) (e:=l) (by rw[hH];exact trivial) (.inl rfl) (λb' u hb hu=>(Heap.get?_update_other s.heap (Obj.mapSeq f) (Ne.symm hb)).trans hu) ⟨_,q⟩ ?_;exact⟨hz,its',_,hv,q⟩
theorem Inv.iM(I:Inv X pins σ H s)(hv:Vals ys its)(hz:ys.length<=sizeLine):
 Inv X pins σ (upd H s.heap.objs.size (.lst ys)) {s with heap:=s.heap.push {cls:=.type "list",data:=.seq its.toArray},toks:=t'}:=
 I.laid (λ_ _ q=>gP q) (lR) ⟨hz,its,0,hv,Heap.get?_push_size _ rfl⟩
theorem Inv.fresh(I:Inv X pins σ H s):H s.heap.objs.size=none:=I.Ak.fresh (lR)
theorem Inv.Ly(I:Inv X pins σ H s)(hH:H l=some (.lst xs)):xs.length<=sizeLine/\∃(its:List Value) (n:Nat),Vals xs its/\xs.length=its.length/\s.heap.get? l=some {cls:=.type "list",data:=.seq its.toArray n}:=by
 obtain⟨z,its,n,r,e⟩:=I.Ak l _ hH;exact⟨z,its,n,r,r.length,e⟩
theorem K2(h:n<=sizeLine):Builtin.List.listTooLong n=false:=by
 unfold Builtin.List.listTooLong;exact dF (by lia)
def MC:V->List V->Hp->VK->Prop:=λx vs H Q=>∃l xs y,x= .ref l/\vs=[y]/\H l=some (.lst xs)/\xs.length < sizeLine/\Q .Ai (upd H l (.lst (xs++[y])))
theorem O4:jF X "list.append" MC:=by
 intro pins s σ H x vs v us Q I rx rv h;obtain⟨l,xs,y,rfl,rfl,hH,hz,q⟩:=h;cases rx;obtain⟨u,rfl,ru⟩:=rv.one;obtain⟨z,its,n,r,hl,e⟩:=I.Ly hH;refine call_meets F.slot_list_append ⟨_,e,rfl⟩ F.entry_list_append (F.args_list_append_2 _ _) (PySem.list_append l its.toArray n u (by rw[size_toArray];lia)) ⟨e,?_⟩;refine⟨.Ai,_,I.Ue (its':=its++[u]) hH e (by simp) (r.append (.cons ru .nil)) ?_,rfl,q⟩;rw[lA,lS]
 lia
def Th:V->List V->Hp->VK->Prop:=λx vs H Q=>∃l b xs zs,x= .ref l/\vs=[.ref b]/\H l=some (.lst xs)/\H b=some (.lst zs)/\xs.length+zs.length<=sizeLine/\Q .Ai (upd H l (.lst (xs++zs)))
theorem aB:jF X "list.extend" Th:=by
 intro pins s σ H x vs v us Q I rx rv h;obtain⟨l,b,xs,zs,rfl,rfl,hH,hB,hz,q⟩:=h;cases rx;obtain⟨u,rfl,ru⟩:=rv.one;cases ru;obtain⟨z,its,n,r,hl,e⟩:=I.Ly hH;obtain⟨z2,its2,n2,r2,hl2,e2⟩:=I.Ly hB;have hsz:its.toArray.size+its2.toArray.size<=sizeLine:=by rw[size_toArray,size_toArray];lia
 have hlong:¬(!its.toArray.isEmpty && Builtin.List.listTooLong (its.toArray.size + its2.toArray.size))=true:=by
  rw[K2 hsz,Bool.and_false];exact Bool.false_ne_true
 refine call_meets F.slot_list_extend ⟨_,e,rfl⟩ F.entry_list_extend (F.args_list_extend_2 _ _)
  (AutoSeq1.list_extend_list_list_0 l its.toArray n b its2.toArray n2 hlong (by rw[size_toArray];lia) (by lia)) ⟨e,e2,?_⟩
 refine⟨.Ai,_,I.Ue (its':=its++its2) hH e (by simp) (r.append r2) ?_,rfl,q⟩;rw[lA]
 lia
def cb:V->List V->Hp->VK->Prop:=λx vs H Q=>∃l xs y,x= .ref l/\vs=[]/\H l=some (.lst xs)/\xs[xs.length-1]? =some y/\Q y (upd H l (.lst xs.dropLast))
theorem Yf:jF X "list.pop" cb:=by
 intro pins s σ H x vs v us Q I rx rv h;obtain⟨l,xs,y,rfl,rfl,hH,hy,q⟩:=h;cases rx;have hus:=rv.zero;subst hus;obtain⟨z,its,n,r,hl,e⟩:=I.Ly hH;obtain⟨u,hu,ru⟩:=r.get hy
 have hy':its.toArray[its.toArray.size - 1]? =some u:=by
  show its.toArray[its.length-1]? =some u;rw[<-Array.getElem?_toList,<-hl];exact hu
 refine call_meets F.slot_list_pop ⟨_,e,rfl⟩ F.entry_list_pop (F.args_list_pop_1 _) (MeetsSeq.list_pop_last l its.toArray n u hy' (by rw[size_toArray];lia)) ⟨e,?_⟩;refine⟨y,_,I.Ue (its':=its.dropLast) hH e ?_ r.dropLast ?_,ru,q⟩
 .show its.toArray.eraseIdxIfInBounds (its.toArray.size-1)=its.dropLast.toArray;rw[size_toArray,List.eraseIdxIfInBounds_toArray,M4]
 .rw[List.length_dropLast]
  lia
noncomputable def ir:R2:=λx y H Q=>∃l b xs zs,x= .ref l/\y= .ref b/\H l=some (.lst xs)/\H b=some (.lst zs)/\xs.length+zs.length<=sizeLine/\∀p,H p=none->Q (.ref p) (upd H p (.lst (xs++zs)))
theorem XZ:BP X (binaryOp .Add) ir:=by
 intro pins s σ H x y v u Q I rx ry h;obtain⟨l,b,xs,zs,rfl,rfl,hH,hB,hz,q⟩:=h;cases rx;cases ry;obtain⟨z,its,n,r,hl,e⟩:=I.Ly hH;obtain⟨z2,its2,n2,r2,hl2,e2⟩:=I.Ly hB;refine PySem.P.add_list e e2 ?_ (by rw[size_toArray,size_toArray];lia);have ea:its.toArray++its2.toArray=(its++its2).toArray:=by simp
 rw[ea];exact⟨.ref _,_,I.iM (t':=s.toks) (r.append r2) (by rw[lA];lia),rfl,q _ I.fresh⟩
variable{prog:Program}{w:World}{A:Around}{E:Value->Shared->Prop}
section
variable {κ:Type}[DecidableEq κ]
def EG(kvs:List (κ×V))(k:κ):Option V:=(kvs.find? λkv=>decide (kv.1=k)).map (·.2)
noncomputable def putK(kvs:List (κ×V))(k:κ)(v:V):List (κ×V):=
 if(kvs.any λkv=>decide (kv.1=k))=true then kvs.map (λkv=>if kv.1=k then(kv.1,v)else kv)else kvs++[(k,v)]
theorem JF{p:κ×V}{r:List (κ×V)}{k:κ}(e:p.1=k):EG (p::r) k=some p.2:=by simp[EG,List.find?_cons,e]
theorem JG{p:κ×V}{r:List (κ×V)}{k:κ}(e:¬p.1=k):EG (p::r) k=EG r k:=by simp[EG,List.find?_cons,e]
theorem Kb(kvs:List (κ×V))(k:κ)(v:V):(putK kvs k v).length<=kvs.length + 1:=by
 unfold putK;split
 .rw[lM];lia
 .rw[lA,lC,length_nil];lia
theorem Fe.getD{o:Option V}{u:Option Value}(r:Fe o u)(rd:RelV d d'):RelV (o.getD d) (u.getD d'):=by
 cases o with
 | none=>cases u with
   |none=>exact rd
   |some _=>exact(show False from r).elim
 | some _=>cases u with
   |none=>exact(show False from r).elim
   |some _=>exact r
variable{vs:List (κ×Value)}
theorem KV.val{kvs:List (κ×V)}(r:KV kvs vs)(k:κ):Fe (EG kvs k) (valueAt vs k):=by
 unfold KV at r
 induction r with
 |nil=>exact True.intro
 |@cons p q ps qs h t ih=>
   obtain⟨h1,h2⟩:=h
   by_cases e:p.1=k
   .have e':q.1=k:=h1.symm.trans e;have b:valueAt (q::qs) k=some q.2:=by simp[valueAt,List.find?_cons,e']
    rw[JF e,b];exact h2
   .have e':¬q.1=k:=λz=>e (h1.trans z)
    have b:valueAt (q::qs) k=valueAt qs k:=by simp[valueAt,List.find?_cons,e']
    rw[JG e,b];exact ih
theorem KV.any{kvs:List (κ×V)}(r:KV kvs vs)(k:κ):(kvs.any λkv=>decide (kv.1=k))=vs.any λkv=>decide (kv.1=k):=by
 unfold KV at r
 induction r with
 |nil=>rfl
 |cons h t ih=>rw[any_cons,any_cons,ih,h.1]
theorem KV.i0{kvs:List (κ×V)}(r:KV kvs vs)(k:κ)(ry:RelV y u):
 KV (kvs.map λkv=>if kv.1=k then(kv.1,y)else kv) (vs.map λkv=>if kv.1=k then(kv.1,u)else kv):=by
 unfold KV at r ⊢
 induction r with
 |nil=>exact .nil
 |@cons p q ps qs h t ih=>
   rw[map_cons,map_cons];refine .cons ?_ ih;obtain⟨h1,h2⟩:=h
   by_cases e:p.1=k
   .rw[iP e,iP (h1.symm.trans e)];exact⟨h1,ry⟩
   .rw[iN e,iN (λz=>e (h1.trans z))];exact⟨h1,h2⟩
theorem KV.put{kvs:List (κ×V)}(r:KV kvs vs)(k:κ)(ry:RelV y u):KV (putK kvs k y) (stored vs k u):=by
 unfold putK stored;rw[r.any k]
 by_cases e:(vs.any λkv=>decide (kv.1=k))=true
 .rw[iP e,iP e];exact r.i0 k ry
 .rw[iN e,iN e];exact Paired.snoc r ⟨rfl,ry⟩
end
variable{w:World}
theorem QK{P:Program}{k:Key}(r:RelV (kV k) u):(AU P w).is k u=true:=by
 cases k with
 |inl i=>obtain⟨t,e⟩:=(show ∃t,u=Value.int i t from r);subst e;exact K6 P w i t
 |inr x=>obtain⟨t,e⟩:=(show ∃t,u=Value.str x t from r);subst e;exact K5 P w x t
theorem HK{P:Program}:∀{ks:List Key} {us:List Value},Vals (ks.map kV) us->ItemsAre (AU P w) ks us
 |[],_,r=>by rw[map_nil]at r;cases r;exact .nil
 | k::ks,_,r=>by
   rw[map_cons]at r;cases r with
   |cons h t=>exact .cons (QK h) (HK t)
abbrev KT(H:Hp):List (List Key×V)->List (List Key×Addr×Value)->Prop:=Paired λp q=>p.1=q.1/\H q.2.1=some (.tup (p.1.map kV))/\RelV p.2 q.2.2
variable{H:Hp}
theorem KT.val{kvs:List (List Key×V)}{xs:List (List Key×Addr×Value)}(r:KT H kvs xs)(k:List Key):Fe (EG kvs k) ((atKey xs k).map (·.2)):=by
 induction r with
 |nil=>exact True.intro
 |@cons p q ps qs h t ih=>
   obtain⟨h1,_,h2⟩:=h
   by_cases e:p.1=k
   .have e':q.1=k:=h1.symm.trans e;have b:atKey (q::qs) k=some q.2:=by simp[atKey,List.find?_cons,e']
    rw[JF e,b];exact h2
   .have e':¬q.1=k:=λz=>e (h1.trans z)
    have b:atKey (q::qs) k=atKey qs k:=by simp[atKey,List.find?_cons,e']
    rw[JG e,b];exact ih
section
variable{P:Program}{h:Heap}{a:Addr}
theorem W2(ok:Dm P w H h)(e:Rd H a u):Bc P w H h a u:=e.ok ok
variable{kvs:List (Key×V)}
theorem Rl(ok:Dm P w H h)(e:Rd H a (.dK kvs)):kvs.length<=sizeLine/\(a == sysModules)=false/\∃vs,KV kvs vs/\h.DictOf (AU P w) a vs:=
 show Bc P w H h a (.dK kvs)from W2 ok e
theorem eA(ok:Dm P w H h)(e:H a=some (.dK kvs)):kvs.length<=sizeLine/\(a == sysModules)=false/\∃vs,KV kvs vs/\h.DictOf (AU P w) a vs:=Rl ok (.inl e)
theorem QI{ks:List Key}(ok:Dm P w H h)(e:H a=some (.tup (ks.map kV))):(tupleKind (AU P w)).is h ks a:=by
 obtain⟨_,its,r,o,h1,h2,n,h3⟩:=(show Bc P w H h a (.tup (ks.map kV))from ok a _ e);exact⟨o,its.toArray,n,h1,h2,h3,by simpa using HK r⟩
theorem Ww{kvs:List (List Key×V)}(ok:Dm P w H h)(e:Rd H a (.dT kvs)):kvs.length<=sizeLine/\(a == sysModules)=false/\
 ∃xs,KT H kvs xs/\h.DictOfH (tupleKind (AU P w)) a xs:=by
 obtain⟨z,y,xs,r,o,es,ep,h1,h2,h3,h4,h5⟩:=(show Bc P w H h a (.dT kvs)from W2 ok e);refine⟨z,y,xs,r,o,es,ep,h1,h2,h3,h4,λx hx=>?_,h5⟩
 have all:∀{l:List (List Key×V)} {m:List (List Key×Addr×Value)},KT H l m->∀x∈m,(tupleKind (AU P w)).is h x.1 x.2.1:=by
  intro l m q
  induction q with
  |nil=>intro x hx;exact nomatch hx
  |@cons p q ps qs hq t ih=>
    intro x hx;rcases mK hx with e|hx
    .subst e;exact QI ok (by rw[<-hq.1];exact hq.2.1)
    .exact ih x hx
 exact all r x hx
end
def au(H:Hp)(a:Addr)(y:V)(r:Option V):Prop:=
 (∃kvs k,Rd H a (.dK kvs)/\y=kV k/\r=EG kvs k)\/∃kvs k b,Rd H a (.dT kvs)/\y= .ref b/\H b=some (.tup (k.map kV))/\r=EG kvs k
variable{a:Addr}{y v:V}{u r:Value}{o:Option V}
theorem Inv.big(I:Inv X pins σ H s):sysModules < s.heap.objs.size:=by
 have h:mainGlobals < s.heap.objs.size:=(I.mod.glob.keeps I.bk).lt;exact Nat.lt_trans (by decide) h
variable{h':Heap}
theorem UO{ob:HO}(I:Inv X pins σ H s)(mu:fE (H a))(hs:Heap.SameBut a s.heap h')(he:∃q,h'.get? a=some q)(new:Bc X.prog X.w (upd H a ob) h' a ob):
 Inv X pins σ (upd H a ob) {s with heap:=h',toks:=t'}:=
 I.write (x:=a) (e:=a) mu (.inl rfl) (λb q hb z=>(hs.2 b hb).trans z) he new
theorem YZ{P:Program}{H':Hp}{kvs:List (Key×V)}{vs:List (Key×Value)}(z:kvs.length<=sizeLine)(hd:(a == sysModules)=false)(rel:KV kvs vs)(dd:h'.DictOf (AU P w) a vs):
 Bc P w H' h' a (.dK kvs):=⟨z,hd,vs,rel,dd⟩
variable{kvs:List (Key×V)}{k:Key}
theorem Rm{P:Program}(h:Heap)(hb:sysModules < h.objs.size):Bc P w H (h.push {cls:=.type "dict",data:=.dict #[]}) h.objs.size (.dK []):=
 ⟨Nat.zero_le _,beq_eq_false_iff_ne.mpr (Ne.symm (Nat.ne_of_lt hb)),[],.nil,Heap.DictOf.new h⟩
variable{pos:Pos}
noncomputable def L6:List (TE×TE)->St->Hp->(List (V×V)->Hp->Prop)->Prop
 |[],_,H,Q=>Q [] H
 |(tk,tv)::r,σ,H,Q=>tk σ H λx H1=>tv σ H1 λy H2=>L6 r σ H2 λps H3=>Q ((x,y)::ps) H3
abbrev VV:List (V×V)->List (Value×Value)->Prop:=Paired λp q=>RelV p.1 q.1/\RelV p.2 q.2
def gy(X:Cx)(pos:Pos)(keys:List (Option Expr))(values:List Expr)(trs:List (TE×TE)):Prop:=
 ∀ (pins:List (Addr×Obj)) (s:Shared) (σ:St) (H:Hp) (Q:List (V×V)->Hp->Prop),Inv X pins σ H s->L6 trs σ H Q->
   wpAny (model X.prog X.w) X.A (evalPairs (pairTrees keys values X.env pos)) (λvs s'=>∃ps H',Inv X pins σ H' s'/\VV ps vs/\Q ps H') X.xe s
variable{X:Cx}{pos:Pos}
theorem Tv:gy X pos [] [] []:=λpins s σ H Q I h=>pairTrees_nil_walk ⟨[],H,I,.nil,h⟩
variable{trs:List (TE×TE)}
theorem JY{k v:Expr}{ks:List (Option Expr)}{vs:List Expr}{tk tv:TE}(hk:PE X k tk)(hv:PE X v tv)(hr:gy X pos ks vs trs):
 gy X pos (some k::ks) (v::vs) ((tk,tv)::trs):=λpins s σ H Q I h=>
 pairTrees_cons_walk (AI (hk pins s σ H _ I h) λu s1 ⟨x,H1,I1,rx,q1⟩=>AI (hv pins s1 σ H1 _ I1 q1) λw2 s2 ⟨y,H2,I2,ry,q2⟩=>
  AI (hr pins s2 σ H2 _ I2 q2) λws s3 ⟨ps,H3,I3,rel,q3⟩=>⟨(x,y)::ps,H3,I3,.cons ⟨rx,ry⟩ rel,q3⟩)
def Ep(kvs more:List (Key×V)):List (Key×V):=more.foldl (λacc kv=>putK acc kv.1 kv.2) kvs
theorem KV.merge:∀{more:List (Key×V)} {rs:List (Key×Value)} {kvs:List (Key×V)} {vs:List (Key×Value)},KV more rs->KV kvs vs->KV (Ep kvs more) (merged vs rs):=by
 intro more rs kvs vs r;unfold KV at r
 induction r generalizing kvs vs with
 |nil=>intro q;exact q
 |@cons p q ps qs h t ih=>
   intro r0
   have e:KV (putK kvs p.1 p.2) (stored vs q.1 q.2):=by
    have:=r0.put p.1 h.2;rw[<-h.1];exact this
   exact ih e
theorem Ec:∀(more kvs:List (Key×V)),(Ep kvs more).length<=kvs.length + more.length
 |[],kvs=>by show kvs.length<=kvs.length+0;lia
 | p::r,kvs=>by
   have h1:=Ec r (putK kvs p.1 p.2);have h2:=Kb kvs p.1 p.2;show(Ep (putK kvs p.1 p.2) r).length<=_;rw[lC];lia
theorem GY{P:Program}:∀{kvs:List (Key×V)} {ws:List (Value×Value)},VV (kvs.map λkv=>(kV kv.1,kv.2)) ws->∃rs,Carries (AU P w) ws rs/\KV kvs rs
 |[],_,r=>by rw[map_nil]at r;cases r;exact⟨[],True.intro,.nil⟩
 | p ::kvs,_,r=>by
   rw[map_cons]at r;cases r with
   |@cons a b as bs h t=>
     obtain⟨rs,c,q⟩:=GY (P:=P) t;obtain⟨b1,b2⟩:=b;exact⟨(p.1,b2)::rs,⟨QK h.1,rfl,c⟩,.cons ⟨rfl,h.2⟩ q⟩
noncomputable def bw(trs:List (TE×TE)):TE:=λσ H Q=>∀p,H p=none->L6 trs σ (upd H p (.dK [])) λps H2=>H2 p=some (.dK [])/\∃kvs:List (Key×V),ps=kvs.map (λkv=>(kV kv.1,kv.2))/\kvs.length<=15/\Q (.ref p) (upd H2 p (.dK (Ep [] kvs)))
theorem TK{keys:List (Option Expr)}{values:List Expr}(h:gy X pos keys values trs)(hall:keys.all (·.isSome)=true)(hl:keys.length=values.length)(h0:keys≠[])
 (h15:keys.length<=15):PE X (.Dict keys values pos) (bw trs):=by
 intro pins s σ H Q I q;have hn:=I.Ak.fresh (Nat.le_refl s.heap.objs.size);have I1:=I.laid (a:=s.heap.objs.size) (o:=.dK []) (h':=s.heap.push {cls:=.type "dict",data:=.dict #[]}) (t':=s.toks) (λ_ _ q=>gP q) (lR) (Rm s.heap I.big);refine wpAny_Dict_walk (knd:=AU X.prog X.w) hall hl h0 h15 (AI (h pins _ σ _ _ I1 (q _ hn)) λws s2 ⟨ps,H2,I2,rel,e,kvs,ep,lk,q2⟩=>?_);subst ep;obtain⟨rs,c,rk⟩:=GY (P:=X.prog) (w:=X.w) rel;obtain⟨z,hd,vs0,r0,dd⟩:=eA I2.Ak e;cases r0;refine⟨rs,c,dd,λh' dd' hs=>⟨.ref s.heap.objs.size,_,?_,rfl,q2⟩⟩
 have hz:(Ep [] kvs).length<=sizeLine:=by
  have h1:=Ec kvs [];rw[length_nil]at h1;rw[sizeLine_eq];lia
 have he:∃q,h'.get? s.heap.objs.size=some q:=let⟨q,_,_,hq,_⟩:=dd';⟨q,hq⟩;exact UO I2 (by rw[e];exact True.intro) hs he (YZ hz hd (rk.merge .nil) dd')
structure M1(X:Cx)(o:Expr)(m:Str)(apos:Pos)(e:Expr)(cpos:Pos):Prop where
 base:attributeBase o m X.env (eval o X.env)=eval o X.env
 aF:((backTo cpos (starEach [e] X.env)).all (λx=>!x.1) && (backToKw cpos (keywordEach [] X.env)).all (λx=>x.1.isSome)
  && decide (([e]:List Expr).length+([]:List Keyword).length+(if([]:List Keyword).isEmpty then 0 else 1) < 30))=true
 line:(apos.endLine == cpos.line)=true
 trees:backTo cpos (starEach [e] X.env)=[(false,eval e X.env)]
structure M2(X:Cx)(o:Expr)(m:Str)(apos:Pos)(e f:Expr)(cpos:Pos):Prop where
 base:attributeBase o m X.env (eval o X.env)=eval o X.env
 aF:((backTo cpos (starEach [e,f] X.env)).all (λx=>!x.1) && (backToKw cpos (keywordEach [] X.env)).all (λx=>x.1.isSome)
  && decide (([e,f]:List Expr).length+([]:List Keyword).length+(if([]:List Keyword).isEmpty then 0 else 1) < 30))=true
 line:(apos.endLine == cpos.line)=true
 trees:backTo cpos (starEach [e,f] X.env)=[(false,eval e X.env),(false,eval f X.env)]
def jL(H:Hp)(a:Addr):Prop:=(∃kvs,Rd H a (.dK kvs))\/∃kvs,Rd H a (.dT kvs)
theorem YC{pins:List (Addr×Obj)}{σ:St}{s:Shared}(I:Inv X pins σ H s)(d:jL H a):
 s.TypeIs (.ref a) "dict"/\(∀b,Value.ref a= .ref b->∃ob,s.heap.get? b=some ob/\ob.dict=none)/\(a == sysModules)=false:=by
 rcases d with⟨kvs,e⟩|⟨kvs,e⟩
 .obtain⟨_,hd,vs,_,dd⟩:=Rl I.Ak e;refine⟨dd.typeIs,λb q=>?_,hd⟩;cases q;obtain⟨ob,_,_,h1,h2,_⟩:=dd;exact⟨ob,h1,h2.2.1⟩
 .obtain⟨_,hd,xs,_,dd⟩:=Ww I.Ak e;refine⟨dd.typeIs,λb q=>?_,hd⟩;cases q;obtain⟨ob,_,_,h1,h2,_⟩:=dd;exact⟨ob,h1,h2.2.1⟩
variable{d:V}
theorem Z3{Q:Value->Shared->Prop}(hu:A.units + 1 < cLine)(I:Inv X pins σ H s)(g:au H a y o)(ry:RelV y u)(rd:RelV d r)(h:∀w' s',Inv X pins σ H s'->RelV (o.getD d) w'->Q w' s'):
 wpAny (model X.prog X.w) A (call (.builtin "dict.get") [.ref a,u,r]) Q E s:=by
 rcases g with⟨kvs,k,e,ey,l⟩|⟨kvs,k,b,e,ey,eb,l⟩
 .subst ey;obtain⟨z,hd,vs,rel,dd⟩:=Rl I.Ak e;refine call_meetsIn PySem.F.slot_dict_get dd.typeIs PySem.F.entry_dict_get (PySem.F.args_dict_get_3 _ _ _) (meets_dict_get_default (AU X.prog X.w) a (QK ry) hd r) ⟨_,dd.mapOf,h _ _ (I.tok _) ?_⟩;rw[l];exact(rel.val k).getD rd
 .subst ey;cases (show u=Value.ref b from ry);obtain⟨z,hd,xs,rel,dd⟩:=Ww I.Ak e;refine call_meetsIn PySem.F.slot_dict_get dd.typeIs PySem.F.entry_dict_get (PySem.F.args_dict_get_3 _ _ _) (meetsH_dict_get_default (tupleKind (AU X.prog X.w)) a b hd r) ⟨tupleKind_room_in1 hu,k,xs,QI I.Ak eb,dd,h _ _ (I.tok _) ?_⟩;rw[l];exact(rel.val k).getD rd
noncomputable def X6(td ty tx:TE):TE:=λσ H Q=>td σ H λx H1=>∃a,x= .ref a/\jL H1 a/\ty σ H1 λy H2=>tx σ H2 λz H3=>∃o,au H3 a y o/\Q (o.getD z) H3
section
variable{o e f:Expr}{apos cpos:Pos}{td ty tx:TE}
theorem Qb(hu:X.A.units + 1 < cLine)(ho:PE X o td)(he:PE X e ty)(hf:PE X f tx)(m:M2 X o "get" apos e f cpos):PE X (.Call (.Attribute o "get" apos) [e,f] [] cpos) (X6 td ty tx):=by
 intro pins s σ H Q I h;refine wpAny_Call_method m.base m.aF m.line PySem.F.plainAttrs_dict PySem.F.slot_dict_get PySem.F.type_dict_get (AI (ho pins s σ H _ I h) λu s1 ⟨x,H1,I1,rx,a,ex,d,q1⟩=>?_);subst ex;obtain rfl:u=Value.ref a:=rx;obtain⟨t1,t2,_⟩:=YC I1 d;refine⟨t1,t2,?_⟩;rw[m.trees]
 refine Calls.callWith_builtin rfl (Calls.evalArgs_plain (Calls.spliced_cons (AI (he pins s1 σ H1 _ I1 q1) λiv s2 ⟨y,H2,I2,ry,q2⟩=>
  Calls.spliced_cons (AI (hf pins s2 σ H2 _ I2 q2) λfv s3 ⟨z,H3,I3,rz,ov,g,q3⟩=>Calls.spliced_nil ?_))))
 exact Z3 hu I3 g ry rz λw' s4 I4 rw'=>⟨_,H3,I4,rw',q3⟩
end
end L2
namespace Att
open PySem PySem.W PySem.Calls PyProof.Rows
variable{h:Heap}
theorem FW{P:Params}:∀(ns:List Int) (vs:List Value),WellAll P h vs (ns.map WData.int)->IntsAre vs ns:=by
 intro ns
 induction ns with
 |nil=>
   intro vs w;rw[map_nil]at w;cases w;exact .nil
 |cons n ns ih=>
   intro vs w;rw[map_cons]at w;cases w with
   |cons a b=>
     cases a;exact .cons _ _ (ih _ b)
variable{n:Nat}
theorem NC{l:OpenLaw}(hn:l.most=some n){P:Params}{args:List WData}{vals:List Value}
 (hpre:l.row.toRowW.claim.pre args=true)(hwl:WellAll P h vals args):
 ∃a vs ns,vals=[Value.ref a]/\args=[WData.list (ns.map WData.int)]/\h.get? a=some {cls:=.type "list",data:=.seq vs.toArray}/\IntsAre vs ns/\ns.length<=n:=by
 have hsh:WShape.hasAll [] args [.list .int]=true:=(pre_splitW hpre).1;have hc:l.pre.holds [] {args:=args}=true:=(pre_splitW hpre).2;obtain⟨d,r,rfl,h1,h2⟩:=hasAllW_cons hsh;obtain rfl:=hasAllW_nil h2;obtain⟨xs,rfl,h3⟩:=hasW_list h1;obtain⟨ns,rfl⟩:=items_int h3
 have hlen:ns.length<=n:=by
  unfold OpenLaw.pre at hc
  have h4:(WTm.not (.lt (.lit (.int (n:Int))) (.len (.arg 0)))).holds [] {args:=[.list (ns.map .int)]}=true:=by
   have h4:=(holds_andW hc).1;rw[hn]at h4;exact h4
  have h5:=condW_of h4 (w_not (w_lt w_lit (w_len_list (w_arg rfl))));rw[lM]at h5;refine Nat.le_of_not_lt λq=>?_
  have q':(n:Int) < ((ns.length:Nat):Int):=by lia
  first
   |(rw[decide_eq_true q']at h5;exact absurd h5 (by decide))
   |(simp at h5;lia)
 cases hwl with
 |cons w1 w2=>
   cases w2;cases w1 with
   |list ho hall=>exact⟨_,_,ns,rfl,rfl,ho,FW ns _ hall,hlen⟩
theorem NO(l:OpenLaw)(args:List WData):l.row.toRowW.claim.post args (.bool true) args=true:=
 postW_of (r:=l.row.toRowW) (X:=(true == true))
  (show WShape.has [] (.bool true) .bool=true by first|rfl|decide|simp[WShape.has,WShape.arms,WShape.armsAll])
  (show(WTm.eq .res (.lit (.bool true))).value [] {args:=args,res:=some (.bool true),after:=args}=some (.bool (true == true))from w_eq_bool (w_res rfl) w_lit) rfl
theorem KN{l:OpenLaw}{q:Program}{loose:List Str}{XP:(Str->Option Value)->Heap->Prop}{YP:World->Heap->Prop}{d:DefRec}
 (hn:l.most=some n)(hdf:d.params.defaults=[])
 (call:∀(w:World) (s₀ s₁:Shared) (mg mb:Str->Option Value) (fa:Addr) (o:Obj) (pm cd doc:Value) (a:Addr) (vs:List Value) (ns:List Int),
  Ground q loose [] XP w s₀ mg mb s₁.heap->YP w s₁.heap->
  s₁.heap.get? fa=some o->o.data= .func (docDef d.name d.params d.body d.scope pm cd doc)->s₁.heap.CodeRec cd d.name->mg d.name=some (.ref fa)->
  s₁.heap.get? a=some {cls:=.type "list",data:=.seq vs.toArray}->IntsAre vs ns->ns.length<=n->s₁.gens= #[]->
  codeAny (model l.prog w) callerA (.call (.ref fa) ⟨[.ref a],[]⟩) (λr s'=>r= .ok (.ret (.bool true))/\OldK s₁.heap s'.heap/\s'.os=s₁.os/\AllBare s'.gens) s₁):
 WalkO q loose XP YP l.row.toRowW d [] (λf vs=>PySem.call f vs):=by
 intro w s₀ s₁ mg mb G Y fa o pm cd doc dV kV ho hd hcd hD hmg hg args vals as hpre hlay hrd hwl hlo;obtain rfl:dV= .none:=Dflts.none hD hdf;obtain rfl:kV= .none:=Dflts.noKw hD;obtain⟨a,vs,ns,rfl,rfl,hobj,hints,hlen⟩:=NC hn hpre hwl;refine enter_call (codeAny_mono (call w s₀ s₁ mg mb fa o pm cd doc a vs ns G Y ho (fd_plain hd) hcd hmg hobj hints hlen hg) λr s' hq=>?_);obtain⟨rfl,h2,h3,h4⟩:=hq;exact⟨.inl ⟨.bool true,.bool true,[],rfl,λ_=>rfl,.bool true,NO l _,λ_=>⟨List.Pairwise.nil,λ_ hm=>(nomatch hm)⟩⟩,h2,h3,h4⟩
variable{prog:Program}{w:World}{A:Around}{E:Value->Shared->Prop}{s:Shared}{K:Frag}
end Att
namespace L2
open PySem PySem.Spec PyProof.Rows
theorem Hs:∀{vs:List Value} {ns:List Int},IntsAre vs ns->Vals (ns.map V.int) vs
 |_,_,.nil=>.nil
 |_,_,.cons n t h=>.cons ⟨t,rfl⟩ (Hs h)
noncomputable def inClass(s:Stmt)(j:Nat):Stmt:=match s with
 |.ClassDef _ _ _ body _ _ _ _ _ _ _=>body.getD j (.Pass ⟨0,0,0,0⟩)
 |_=>.Pass ⟨0,0,0,0⟩
noncomputable def Jn(s:Stmt):Arguments:=match s with
 |.FunctionDef _ a _ _ _ _ _ _ _ _=>a
 |_=>{posonlyargs:=[],args:=[],vararg:=none,kwonlyargs:=[],kw_defaults:=[],kwarg:=none,defaults:=[]}
def BN(s:Stmt):List Stmt:=match s with
 |.FunctionDef _ _ b _ _ _ _ _ _ _=>b
 |_=>[]
noncomputable def Ah(s:Stmt):Scope:=match s with
 |.FunctionDef _ _ _ _ _ _ sc _ _ _=>sc
 |_=>{kind:=.function,names:=[],isGenerator:=false,isCoroutine:=false}
abbrev E0:XK:=λ_ _ _=>False
structure BW(K:PySem.W.Frag)(x qual:Str)(st:Stmt)(f:Addr)(fd:FuncData):Prop where
 ex:∃(oc:Value) (od:Option Addr) (kV doc pm:Value) (an:Option Addr) (cdv ct:Value) (osl:Array (Option Value)),
   fd=PySem.W.fnOf x qual (Jn st) (BN st) (Ah st) .none kV doc pm an cdv ct/\K.lookup f=some ⟨oc,od,.func fd,osl⟩/\codeIn K cdv qual=true
 kp:keepIn K (.ref f)=true
section
variable{P:Program}{w:World}{K:PySem.W.Frag}{mg:Str->Option Value}{base:Heap}
theorem BW.binds{qual:Str}{st:Stmt}{fd:FuncData}{ps:List Str}(F:BW K x qual st f fd)
 (h:∀(kV doc pm:Value) (an:Option Addr) (cdv ct:Value) (us:List Value),us.length=ps.length->bindArgs (PySem.W.fnOf x qual (Jn st) (BN st) (Ah st) .none kV doc pm an cdv ct) ⟨us,[]⟩=pure (ps.zip us)):Binds K fd ps []:=by
 obtain⟨oc,od,kV,doc,pm,an,cdv,ct,osl,rfl,lk,hcd⟩:=F.ex;exact .all (h kV doc pm an cdv ct)
end
variable{X:Cx}
theorem Ur{A B:Prop}(h:B):if false=true then A else B:=by
 rw[iN Bool.false_ne_true];exact h
theorem Uq{A B:Prop}(h:A):if true=true then A else B:=by
 rw[iP rfl];exact h
def Bp(H H':Hp):Prop:=∀b o,H b=some o->H' b=some o
theorem Bp.refl(H:Hp):Bp H H:=λ_ _ h=>h
variable{H:Hp}
theorem Bp.trans{H1 H2:Hp}(a:Bp H H1)(b:Bp H1 H2):Bp H H2:=λc o h=>b c o (a c o h)
theorem Bp.free{H':Hp}(e:Bp H H')(h:H' l=Option.none):H l=Option.none:=by
 cases q:H l with
 |none=>rfl
 |some o=>
   rw[e l o q]at h;cases h
noncomputable def FR(cells:List (Str×Addr)):List (Str×NameKind)->List (Str×Addr)->List (Str×Addr)
 |[],cs=>cs
 |(n,k)::r,cs=>if(k == NameKind.free)=true then FR cells r ((n,(cells.lookup n).getD 0)::cs)else FR cells r cs
variable{env:Env}
theorem N9:∀(l:List (Str×NameKind)) (cs:List (Str×Addr)),(∀x∈l,x.2= .free->∃c,env.cells.lookup x.1=some c)->
 (forIn l cs (λ(x:Str×NameKind) (r:List (Str×Addr))=>(match x with|(name,kind)=>if(kind == NameKind.free)=true then(do let a <-cellOf env name;pure (ForInStep.yield ((name,a)::r)))else pure (ForInStep.yield r):Sem _)))=(pure (FR env.cells l cs):Sem _)
 |[],cs,_=>by simp[FR]
 | (n, k)::r,cs,h=>by
   have ih:=λcs'=>N9 r cs' λx hx=>h x (mC hx)
   rw[List.forIn_cons]
   by_cases hk:k= .free
   .subst hk;obtain⟨c,e⟩:=h (n,.free) mS rfl
    have hb:(if(NameKind.free == NameKind.free)=true then(do let a <-cellOf env n;pure (ForInStep.yield ((n,a)::cs)))else pure (ForInStep.yield cs):Sem (ForInStep (List (Str×Addr))))=pure (ForInStep.yield ((n,c)::cs)):=by
     have e:env.cells.lookup n=some c:=e;rw[iP (by rfl)];unfold cellOf;rw[e];exact pure_bind _ _
    show((if(NameKind.free == NameKind.free)=true then(do let a <-cellOf env n;pure (ForInStep.yield ((n,a)::cs)))else pure (ForInStep.yield cs):Sem (ForInStep (List (Str×Addr)))) >>= _)=_;rw[hb,pure_bind];refine(ih _).trans ?_;have e:env.cells.lookup n=some c:=e;show _=pure (if(NameKind.free == NameKind.free)=true then FR env.cells r ((n,(env.cells.lookup n).getD 0)::cs)else FR env.cells r cs);rw[iP (by rfl),e];rfl
   .have hb:(k == NameKind.free)=false:=by simpa using hk
    show((if(k == NameKind.free)=true then(do let a <-cellOf env n;pure (ForInStep.yield ((n,a)::cs)))else pure (ForInStep.yield cs):Sem (ForInStep (List (Str×Addr)))) >>= _)=_;rw[iN (by rw[hb];decide),pure_bind];refine(ih _).trans ?_;show _=pure (if(k == NameKind.free)=true then FR env.cells r ((n,(env.cells.lookup n).getD 0)::cs)else FR env.cells r cs);rw[iN (by rw[hb];decide)]
theorem Cn{scope:Scope}(h:∀x∈scope.names,x.2= .free->∃c,env.cells.lookup x.1=some c):closureFor scope env=pure (FR env.cells scope.names []):=by
 unfold closureFor;have:=N9 (env:=env) scope.names [] h
 first
  |(simp only[bind_pure];exact this)
  |(rw[show(forIn scope.names ([]:List (Str×Addr)) _:Sem _)=_ from this];rfl)
theorem F8{cells:List (Str×Addr)}{c:Addr}:∀(l:List (Str×NameKind)) (cs:List (Str×Addr)),(∀y∈l,y.2= .free->∃c,cells.lookup y.1=some c)->(∀y d,cs.lookup y=some d->cells.lookup y=some d)->
 (FR cells l cs).lookup x=some c->cells.lookup x=some c
 |[],cs,_,hc,e=>hc x c e
 | (n, k)::r,cs,hl,hc,e=>by
   have hl':∀y∈r,y.2= .free->∃c,cells.lookup y.1=some c:=λy hy=>hl y (mC hy)
   unfold FR at e
   by_cases hk:(k == NameKind.free)=true
   .rw[iP hk]at e;refine F8 r _ hl' (λy d q=>?_) e;obtain⟨d',e'⟩:=hl (n,k) mS (by simpa using hk);rw[lookup_cons]at q;cases hy:y == n with
    |true=>
      rw[hy]at q;have:y=n:=by simpa using hy
      subst this;dsimp only at e';rw[e']at q ⊢;exact q
    |false=>rw[hy]at q;exact hc y d q
   .rw[iN hk]at e;exact F8 r cs hl' hc e
theorem E1{cells:List (Str×Addr)}{x:Str}:∀(l:List (Str×NameKind)) (cs:List (Str×Addr)),((∃y∈l,y.1=x/\y.2= .free)\/∃c,cs.lookup x=some c)->∃c,(FR cells l cs).lookup x=some c
 | [],cs,h=>by
   rcases h with⟨y,hy,_⟩|h
   .simp at hy
   .exact h
 | (n, k)::r,cs,h=>by
   unfold FR
   by_cases hk:(k == NameKind.free)=true
   .rw [iP hk];refine E1 r _ ?_;rcases h with⟨y,hy,e1,e2⟩|⟨c,h⟩
    .rcases mK hy with q|q
     .refine .inr ?_;subst q;have e1:n=x:=e1;subst e1;exact⟨_,by rw[lookup_cons];simp;rfl⟩
     .exact .inl ⟨y,q,e1,e2⟩
    .refine .inr ?_;rw[lookup_cons];cases hy:x == n with
     |true=>exact⟨_,rfl⟩
     |false=>exact⟨c,h⟩
   .rw [iN hk];refine E1 r cs ?_;rcases h with⟨y,hy,e1,e2⟩|h
    .rcases mK hy with q|q
     .subst q;have e2:k= .free:=e2;subst e2;exact absurd rfl hk
     .exact .inl ⟨y,q,e1,e2⟩
    .exact .inr h
noncomputable def AM(X:Cx)(N:List Str)(scope:Scope)(C:Addr)(s:Shared)(H:Hp)(fp:List Addr):Cx where
 prog:=X.prog
 w:=X.w
 K:=X.K
 mg:=X.mg
 base:=X.base
 A:=X.A
 N:=N
 s₀:=s
 H₀:=H
 env:=compEnvC scope (FR X.env.cells scope.names []) C X.env
 outer:=X.stack
 stack:=X.stack
 ex:=fp
 calm:=X.calm
 fn:=λ_=>false
 pn:=[]
 xe:=λ_ _=>False
def BF(fr:List (Option Nat))(σ:St):St:=fr.map λo=>o.bind λi=>(σ[i]?).join
noncomputable def M7(N0:List Str)(sc0:Scope)(N:List Str)(scope:Scope)(fr:List (Option Nat)):Bool:=
 (scope.kind == .function) && scope.names.all (λy=>y.2 != .cell) && scope.names.all (λy=>y.2 != .local || scope.names.lookup y.1 == some .local) &&
 scope.names.all (λy=>y.2 != .free || sc0.names.lookup y.1 == some .cell || sc0.names.lookup y.1 == some .free) && (fr.length == N.length) &&
 (List.range fr.length).all λj=>match fr[j]? with
  |some (some i)=>(N[j]? == N0[i]?) && (match N[j]? with|some x=>scope.names.lookup x == some .free|none=>false)
  |_=>true
structure De(N0:List Str)(sc0:Scope)(N:List Str)(scope:Scope)(fr:List (Option Nat)):Prop where
 kind:scope.kind= .function
 Dt:∀y∈scope.names,y.2≠.cell
 own:∀y∈scope.names,y.2= .local->scope.names.lookup y.1=some .local
 free:∀y∈scope.names,y.2= .free->sc0.names.lookup y.1=some .cell\/sc0.names.lookup y.1=some .free
 len:fr.length=N.length
 Uy:∀(j i:Nat),fr[j]? =some (some i)->∃x,N[j]? =some x/\N0[i]? =some x/\scope.names.lookup x=some .free
theorem De.of{N0:List Str}{sc0:Scope}{N:List Str}{scope:Scope}{fr:List (Option Nat)}(h:M7 N0 sc0 N scope fr=true):De N0 sc0 N scope fr:=by
 unfold M7 at h;simp only[bA,all_eq_true]at h;obtain⟨⟨⟨⟨⟨h1,h2⟩,h3⟩,h4⟩,h5⟩,h6⟩:=h;refine⟨by simpa using h1,λy hy=>by simpa using h2 y hy,λy hy e=>?_,λy hy e=>?_,by simpa using h5,λj i e=>?_⟩
 .have:=h3 y hy;simp[e]at this;exact this
 .have:=h4 y hy;simp[e]at this;exact this
 .have hj:j < fr.length:=(List.getElem?_eq_some_iff.mp e).1;have q:=h6 j (mem_range.mpr hj);rw[e]at q;dsimp only at q;rw[bA]at q;obtain⟨q1,q2⟩:=q;cases ex:N[j]? with
  |none=>rw[ex]at q2;cases q2
  |some x=>
    rw[ex]at q1 q2;exact⟨x,rfl,(by simpa using q1:some x=N0[i]?).symm,by simpa using q2⟩
theorem Bt{env:Env}:∀{names:List (Str×NameKind)} {x:Str},names.lookup x=some .free->
 (names.map λ(n,k)=>if(k == NameKind.free && env.scope.kind == .function && env.kindOf n == some .cell)then(n,NameKind.cell)else(n,k)).lookup x=some .free\/
 (names.map λ(n,k)=>if(k == NameKind.free && env.scope.kind == .function && env.kindOf n == some .cell)then(n,NameKind.cell)else(n,k)).lookup x=some .cell
 |[],_,h=>by simp at h
 | (n,k)::r,x,h=>by
   have ih:=@Bt env r x;show List.lookup x ((if(k == NameKind.free && env.scope.kind == .function && env.kindOf n == some .cell)=true then(n,NameKind.cell)else(n,k))::_)=_\/List.lookup x ((if(k == NameKind.free && env.scope.kind == .function && env.kindOf n == some .cell)=true then(n,NameKind.cell)else(n,k))::_)=_;cases hx:x == n with
   |true=>
     simp only[lookup_cons,hx]at h;cases h
     by_cases hc:(NameKind.free == NameKind.free && env.scope.kind == .function && env.kindOf n == some .cell)=true
     .rw[iP hc];right;rw[lookup_cons,hx]
     .rw[iN hc];left;rw[lookup_cons,hx]
   |false=>
     simp only[lookup_cons,hx]at h
     by_cases hc:(k == NameKind.free && env.scope.kind == .function && env.kindOf n == some .cell)=true
     .rw[iP hc];simp only[lookup_cons,hx];exact ih h
     .rw[iN hc];simp only[lookup_cons,hx];exact ih h
theorem EU{env:Env}:∀{names:List (Str×NameKind)} {x:Str},(∀y∈names,y.2≠.cell)->
 ((names.map λ(n,k)=>if(k == NameKind.free && env.scope.kind == .function && env.kindOf n == some .cell)then(n,NameKind.cell)else(n,k)).lookup x=some .cell\/
 (names.map λ(n,k)=>if(k == NameKind.free && env.scope.kind == .function && env.kindOf n == some .cell)then(n,NameKind.cell)else(n,k)).lookup x=some .free)->∃y∈names,y.1=x/\y.2= .free
 |[],_,_,h=>by simp at h
 | (n, k)::r,x,hn,h=>by
   have ih:=@EU env r x λy hy=>hn y (mC hy)
   have hnk:k≠.cell:=hn (n,k) mS
   have h:List.lookup x ((if(k == NameKind.free && env.scope.kind == .function && env.kindOf n == some .cell)=true then(n,NameKind.cell)else(n,k))::(r.map λ(n,k)=>if(k == NameKind.free && env.scope.kind == .function && env.kindOf n == some .cell)then(n,NameKind.cell)else(n,k)))=some .cell\/
    List.lookup x ((if(k == NameKind.free && env.scope.kind == .function && env.kindOf n == some .cell)=true then(n,NameKind.cell)else(n,k))::(r.map λ(n,k)=>if(k == NameKind.free && env.scope.kind == .function && env.kindOf n == some .cell)then(n,NameKind.cell)else(n,k)))=some .free:=h
   by_cases hc:(k == NameKind.free && env.scope.kind == .function && env.kindOf n == some .cell)=true
   .rw [iP hc]at h;cases hx:x == n with
    |true=>
      have hk:k= .free:=by
       simp only[bA]at hc;simpa using hc.1.1
      exact⟨(n,k),mS,(by simpa using hx:x=n).symm,hk⟩
    |false=>
      simp only[lookup_cons,hx]at h;obtain⟨y,hy,q⟩:=ih h;exact⟨y,mC hy,q⟩
   .rw[iN hc]at h;cases hx:x == n with
    |true=>
      simp only[lookup_cons,hx,Option.some.injEq]at h;refine⟨(n,k),mS,(by simpa using hx:x=n).symm,?_⟩;rcases h with h|h
      .exact absurd h hnk
      .exact h
    |false=>
      simp only[lookup_cons,hx]at h;obtain⟨y,hy,q⟩:=ih h;exact⟨y,mC hy,q⟩
section
variable{pins:List (Addr×Obj)}{σ:St}{H:Hp}{s:Shared}{N:List Str}{scope:Scope}{fr:List (Option Nat)}{fp:List Addr}{C:Addr}
theorem Rt(I:Inv X pins σ H s)(ok:De X.N X.env.scope N scope fr)(hf:∀b∈fp,FF X pins H b)(hfl:∀b∈fp,b < s.heap.objs.size){h1:Heap}{m:Str->Option Value}{tk:Nat}(hC:s.heap.objs.size<=C)(hns:h1.Ns C m)
 (k:∀b o,s.heap.get? b=some o->h1.get? b=some o):Inv (AM X N scope C s H fp) [] (BF fr σ) H {s with heap:=h1,toks:=tk}:=by
 have hcl:∀y∈scope.names,y.2= .free->∃c,X.env.cells.lookup y.1=some c:=λy hy e=>I.ok.has y.1 (ok.free y hy e)
 have Uy:∀{x:Str} {c:Addr},(FR X.env.cells scope.names []).lookup x=some c->X.env.cells.lookup x=some c:=λ{x c} e=>F8 scope.names [] hcl (λy d q=>by simp at q) e
 refine⟨⟨I.ok.mod,ok.kind,I.ok.glob,I.ok.blt,hC,λx y c e1 e2=>I.ok.inj x y c (Uy e1) (Uy e2),λx hx=>?_,λx c hf' _=>?_,I.ok.hd,I.ok.frames,.inl rfl,λb hb=>⟨?_,λx c e=>?_⟩,I.bs,Nat.le_trans I.ok.RD I.sz,λb o e hb=>?_,λb hb hs=>?_,I.stack,I.DJ⟩,
  rfl,I.bare,Un.kept k,⟨m,hns,λj x v e1 e2 e3=>?_⟩,λx c e=>?_,I.Ak.fresh hC,λx c e=>I.Cu x c (Uy e),λp hp=>?_,I.Ak.kept k,?_⟩
 .obtain⟨y,hy,e1,e2⟩:=EU (env:=X.env) ok.Dt hx;exact E1 scope.names [] (.inl ⟨y,hy,e1,e2⟩)
 .exact absurd hf' (by show ¬(false=true);decide)
 .exact Nat.ne_of_lt (Nat.lt_of_lt_of_le (hfl b hb) hC)
 .exact(hf b hb).2.2.2.2.1 x c (Uy e)
 .rcases(hf b hb).2.2.2.1 with z|z
  .exact I.ok.O1 b o e z
  .exact absurd (Nat.lt_of_lt_of_le (Heap.lt_size e) (Nat.le_trans I.ok.RD z)) (Nat.lt_irrefl _)
 .rcases mK (I.Gh b hs)with e|e
  .exact(hf b hb).2.1 e
  .exact(hf b hb).2.2.1 e
 .have e2:(fr.map λo=>o.bind λi=>(σ[i]?).join)[j]? =some (some v):=e2;rw[List.getElem?_map]at e2;cases ef:fr[j]? with
  |none=>rw[ef]at e2;cases e2
  |some o=>
    rw[ef]at e2;have e2:(o.bind λi=>(σ[i]?).join)=some v:=Option.some.inj e2;cases o with
    |none=>cases e2
    |some i=>
      have e2:(σ[i]?).join=some v:=e2
      have eσ:σ[i]? =some (some v):=by
       cases q:σ[i]? with
       |none=>rw[q]at e2;cases e2
       |some z=>rw[q]at e2;exact congrArg some e2
      obtain⟨x',n1,n2,fx⟩:=ok.Uy j i ef;have:x'=x:=Option.some.inj (n1.symm.trans e1);subst this;have hsc:=ok.free _ (PySem.mem_of_lookup fx) rfl;obtain⟨m0,hn0,hl0⟩:=I.loc;obtain⟨u,r,l⟩:=hl0 i x' v n2 eσ (by rcases hsc with z|z;exact .inr (.inl z);exact .inr (.inr z));refine⟨u,r,?_⟩;rcases l with⟨q,_⟩|⟨_,c,ec,⟨oc,hoc,hod⟩⟩
      .have q:X.env.scope.names.lookup x'=some .local:=q;rcases hsc with z|z
       .rw[z]at q;cases q
       .rw[z]at q;cases q
      .obtain⟨c',e'⟩:=E1 (cells:=X.env.cells) scope.names [] (.inl ⟨_,PySem.mem_of_lookup fx,rfl,rfl⟩);have:c'=c:=Option.some.inj ((Uy e').symm.trans ec);subst this;refine .inr ⟨?_,c',e',oc,k _ _ hoc,hod⟩;rcases Bt (env:=X.env) fx with z|z
       .exact .inr z
       .exact .inl z
 .obtain⟨v,oc,hoc,hod⟩:=I.cell x c (Uy e);exact⟨v,oc,k _ _ hoc,hod⟩
 .exact absurd (show p∈([]:List (Addr×Obj))from hp) (by simp)
 .unfold BF;rw[lM];exact ok.len
theorem Inv.bf{xs:List V}{its:List Value}{n:Nat}(I:Inv X pins σ H s)(hD:FF X pins H D)(hz:xs.length<=sizeLine)(r:Vals xs its)(e:s.heap.get? D=some {cls:=.type "list",data:=.seq its.toArray n}):
 Inv X pins σ (upd H D (.lst xs)) s:=by
 have hn:=hD.1;have ne:∀b u,H b=some u->b≠D:=λb u q=>Av q hn
 refine I.step (h':=s.heap) (g':=s.gens) (d':=s.drawn) (t':=s.toks) (ch:=[D]) (λb hb=>?_) (λb o _ _ _ q _=>q) (λb o _ _ _ q _=>⟨o.slots,q⟩) (λb o hb _ q=>?_) (λb o _ q=>⟨o,q⟩)
  (λb xs q=>by rw[A5 (ne b _ q)];exact q) (λb o u q=>by rw[A5 (ne b _ q)];exact q) (λb ps q=>⟨#[],by rw[A5 (ne b _ q),q];simp⟩) (λm q=>q) (λb u q=>?_) I.bare
 .have:b=D:=by simpa using hb
  subst this;exact⟨hD.2.2.2.1,hD.2.1,hD.2.2.2.2.1,hD.2.2.2.2.2⟩
 .rw[A5 (λz=>hb (by simp[z]))];exact q
 .by_cases hb:b=D
  .subst hb;rw[Ac]at q;cases q;exact⟨hz,its,n,r,e⟩
  .rw[A5 hb]at q;exact(I.Ak b u q).CJ (λc v _ z=>z) (λc z=>by rw[A5 (ne c _ z)];exact z) λc xs z=>by rw[A5 (ne c _ z)];exact z
def CompEnd(X:Cx)(pins:List (Addr×Obj))(σ:St)(Q:List V->Hp->Prop)(acc:Value)(C:Addr)(r:Result)(s':Shared):Prop:=
 r= .ok .next/\∃(D:Addr) (H':Hp) (xs:List V),acc= .ref D/\H' D=none/\Inv X pins σ (upd H' D (.lst xs)) s'/\(∃m,s'.heap.Ns C m)/\FF X pins (upd H' D (.lst xs)) C/\Q xs H'
end
variable{prog:Program}{w:World}{A:Around}{R:Result->Shared->Prop}{s:Shared}
end L2
namespace L2
open PySem PySem.Spec PyProof.Rows
section
variable{X:Cx}{tg e:Expr}{pos p p1 p2 p3:Pos}{ta te:TE}
noncomputable def jJ(K:PySem.W.Frag)(a:Addr)(xs:List V):It:=
 ⟨λi H=>i < xs.length/\Eg K H a xs,λi H x H'=>H'=H/\xs[xs.length-1-i]? =some x,λi H=>xs.length<=i⟩
def ic:V->Option Int->Option Int->Hp->VK->Prop:=λx lo hi H Q=>∃y,x= .str y/\y.length<=sizeLine/\Q (.str (Txt.slice y lo hi)) H
theorem L8:aR X ic:=by
 intro pins s σ H x v vl vu lo hi sl Q I rx hs pl pu h;obtain⟨y,rfl,hz,q⟩:=h;obtain⟨t,rfl⟩:=rx;refine⟨"str",_,F.slot_str_getitem.lookup,typeIs_str _ _ _,?_⟩;have fin:∀t' k,EP X pins σ Q (.str (Txt.slice y lo hi) t') {s with toks:=k}:=λt' k=>⟨.str (Txt.slice y lo hi),H,I.tok k,⟨t',rfl⟩,q⟩
 obtain⟨o,h1,h2,h3⟩:=hs;cases pl with
 |none=>
   cases pu with
   |none=>exact wpAny_getItem_str_slice (l:=none) (u:=none) (st:=none) ⟨o,h1,h2,h3⟩ rfl (post_val_or_str ⟨Nat.le_trans (Txt.slice_le y _ _) hz,fin⟩)
   |int j u=>exact wpAny_getItem_str_slice (l:=none) (u:=some (j,u)) (st:=none) ⟨o,h1,h2,h3⟩ rfl (post_val_or_str ⟨Nat.le_trans (Txt.slice_le y _ _) hz,fin⟩)
 |int i u=>
   cases pu with
   |none=>exact wpAny_getItem_str_slice (l:=some (i,u)) (u:=none) (st:=none) ⟨o,h1,h2,h3⟩ rfl (post_val_or_str ⟨Nat.le_trans (Txt.slice_le y _ _) hz,fin⟩)
   |int j u'=>exact wpAny_getItem_str_slice (l:=some (i,u)) (u:=some (j,u')) (st:=none) ⟨o,h1,h2,h3⟩ rfl (post_val_or_str ⟨Nat.le_trans (Txt.slice_le y _ _) hz,fin⟩)
theorem KC(hc:X.calm=true):Bk X (.builtin "all") (λxs H Q=>∃(l:Addr) (bs:List Bool),xs=[.ref l]/\Eg X.K H l (bs.map V.bl)/\Q (.bl (bs.all id)) H):=by
 intro pins s σ H xs us Q I r h;obtain⟨l,bs,rfl,hq,q⟩:=h;obtain⟨u,rfl,ru⟩:=vals1 r;cases ru;obtain⟨its,rv,pl,hz⟩:=I.list hq;have hlen:=rv.length;rw[lM]at hlen;refine call_all_walk (wpAny_pyIter_list pl.isList ?_);have lt:l < s.heap.objs.size:=Heap.lt_size pl.isList.choose_spec.1;refine⟨_,_,_,_,_,_,λi=>(bs[i]?).getD true,rfl,Walks.list (A:=X.A.in1) (show X.A.in1.handled=none from I.ok.hd hc) _ l (Nat.ne_of_lt lt) its.toArray,⟨⟨_,Heap.get?_push_size _ rfl,rfl,rfl⟩,pl.isList.at λo e=>gP e⟩,?_,λh' tk hk=>?_⟩
 .intro i v s' Q' E' hP hQ;have hP:its.toArray[i]? =some v:=hP;rw[List.getElem?_toArray]at hP
  have hi:i < bs.length:=by
   have:=(List.getElem?_eq_some_iff.mp hP).1;omega
  have hb:(bs.map V.bl)[i]? =some (.bl bs[i]):=by rw[List.getElem?_map,List.getElem?_eq_getElem hi];rfl
  obtain⟨u,hu,ru⟩:=rv.get hb;have:u=v:=Option.some.inj (hu.symm.trans hP);subst this;cases ru;refine wpAny_truthy_bool ?_;have e:(bs[i]?).getD true=bs[i]:=by rw[List.getElem?_eq_getElem hi];rfl
  have hQ:Q' ((bs[i]?).getD true) s':=hQ;rw[e]at hQ;exact hQ
 .have e:(List.range its.toArray.size).all (λi=>(bs[i]?).getD true)=bs.all id:=by
   rw[size_toArray,<-hlen];rw[Bool.eq_iff_iff,all_eq_true,all_eq_true];constructor
   .intro h b hb;obtain⟨i,hi,e⟩:=List.mem_iff_getElem.mp hb;have:=h i (mem_range.mpr hi);rw[List.getElem?_eq_getElem hi,e]at this;exact this
   .intro h i hi;have hi:=mem_range.mp hi;have:=h bs[i] (getElem_mem hi);rw[List.getElem?_eq_getElem hi];exact this
  have ee:EP X pins σ Q (.bool (bs.all id)) {s with heap:=h',toks:=tk}:=by
   refine⟨.bl (bs.all id),H,I.kept (t':=tk) λb o e=>hk b o (λz=>?_) (gP e),rfl,q⟩;exact absurd (Heap.lt_size e) (by rw[mE z];exact Nat.lt_irrefl _)
  rw[e];exact ee
end
variable{g:TG}{te:TE}{σ:St}{H:Hp}{Q:List V->Hp->Prop}{K:PySem.W.Frag}{a:Addr}{xs:List V}
theorem MZ{K:PySem.W.Frag}{xs:List V}{g:TG}{tb:TS}{D:Ends}{σ:St}{H:Hp}(Pv:Nat->St->Hp->Prop)(h0:Pv 0 σ H)(hl:∀i σ H,i<=xs.length->Pv i σ H->Eg K H a xs)
 (hs:∀i x σ H,i < xs.length->xs[xs.length-1-i]? =some x->Pv i σ H->g x σ H λσ2 H2=>tb {D with nx:=Pv (i+1),ct:=Pv (i+1),bk:=D.nx} σ2 H2)(hd:∀σ H,Pv xs.length σ H->D.nx σ H):
 ∃ W:Nat->Nat->St->Hp->Prop,(∃m,W 0 m σ H)/\∀i m σ H,W i m σ H->
   ((jJ K a xs).stop i H/\D.nx σ H)\/((jJ K a xs).go i H/\∃N:St->Hp->Prop,(∀σ' H',N σ' H'->∃m',m' < m/\W (i+1) m' σ' H')/\∀x H',(jJ K a xs).KY i H x H'->g x σ H' λσ2 H2=>tb {D with nx:=N,ct:=N,bk:=D.nx} σ2 H2):=by
 refine⟨λi m σ H=>m=xs.length-i/\i<=xs.length/\Pv i σ H,⟨xs.length,by simp,Nat.zero_le _,h0⟩,?_⟩
 rintro i m σ H ⟨rfl,hi,p⟩
 have q:=hl i σ H hi p
 by_cases hlt:i < xs.length
 .refine .inr ⟨⟨hlt,q⟩,Pv (i+1),λσ' H' p'=>⟨xs.length-(i+1),by omega,rfl,hlt,p'⟩,λx H' y=>?_⟩;obtain⟨e,y⟩:=y;subst e;exact hs i x σ _ hlt y p
 .have e:i=xs.length:=by omega
  subst e;exact .inl ⟨lR,hd σ H p⟩
end L2
namespace PySem
open AutoSeq1 (wpAny_loadPart')
theorem UA(l:Addr)(xs:Array Value)(n:Nat)(b:Addr)(ys:Array Value)(n2:Nat)(D2:Option Addr)(sl:Array (Option Value))(h0:¬(!xs.isEmpty && Builtin.List.listTooLong (xs.size + ys.size))=true)(h1:xs.size<=sizeLine)(h2:xs.size + ys.size<=sizeLine + 1):
 Meets (Builtin.«list.extend» ⟨[.ref l,.ref b],[]⟩) (λ_ R s=>s.heap.get? l=some {cls:=.type "list",dict:=none,data:=.seq xs n,slots:=#[]}/\
  s.heap.get? b=some {cls:=.type "tuple",dict:=D2,data:=.seq ys n2,slots:=sl}/\R (.ok (.ret Value.none)) {s with heap:=s.heap.update l (Obj.mapSeq λx=>x++ys),toks:=s.toks}):=
 .of_wp λprog w A R s h=>by
  obtain⟨hp,g,d,tk,os⟩:=s;obtain⟨hl,hb,h⟩:=h;have hz':(xs++ys).size<=sizeLine+1:=by rw[Array.size_append];exact h2
  wp_walk using(wpAny_updateSeq hl rfl (hz:=h1) (_hz':=hz')),wpAny_loadPart' hl,wpAny_loadPart' hb
  exact⟨_,rfl,h⟩
end PySem
namespace L2
open PySem PySem.Spec PyProof.Rows
section
variable{X:Cx}{tg e:Expr}{pos p p1 p2 p3:Pos}{ta te:TE}
noncomputable def kl(y:Str):It:=⟨λi _=>i < y.length,λi H x H'=>H'=H/\∃c,y.cps[i]? =some c/\x= .str ⟨#[c]⟩,λi _=>y.length<=i⟩
variable{w:World}
theorem OS{P:Program}{K:PySem.W.Frag}{tg:Expr}(it:Addr)(y:Str)(t:Tok):Turn P w K tg (kl y) [it] it (λi h=>h.IsStrIter it "str_ascii_iterator" y t i) where
 mem:=by simp
 obj:=λi h st b hb=>by
  have e:b=it:=by simpa using hb
  subst e;obtain⟨o,e,c,d⟩:=st;exact⟨o,e,λv z=>by rw[d]at z;cases z⟩
 keep:=λi h h' st k=>by
  obtain⟨o,e,r⟩:=st;exact⟨o,k it (by simp) o e,r⟩
 item:=by
  intro X hP hw hK hc i pins s σ H E I hf st hg;subst hP hw hK;have hg:i < y.cps.size:=hg;obtain⟨f0,f1,f2,f3,f4,f5⟩:=hf it (by simp);refine wpAny_pyNext_ascii_item st (c:=y.cps[i]) (Array.getElem?_eq_getElem hg) λh' st' sb=>?_
  have I1:Inv X pins σ H {s with heap:=h',toks:=s.toks+1}:=I.turned (λb o hb e=>(sb.2 b hb).trans e) f0 f1 f3 f4 f5;obtain⟨o,e,c,d⟩:=id st';exact⟨_,rfl,HP (s:={s with heap:=h',toks:=s.toks+1}) e c d (by decide) ⟨.str ⟨#[y.cps[i]]⟩,H,I1,⟨_,rfl⟩,⟨rfl,_,Array.getElem?_eq_getElem hg,rfl⟩,st',λb hb=>(hf b hb).1⟩⟩
 done:=by
  intro X hP hw hK hc i pins s σ H E I hf st hg;subst hP hw hK;have hg:y.cps.size<=i:=hg;obtain⟨f0,f1,f2,f3,f4,f5⟩:=hf it (by simp);exact wpAny_pyNext_ascii_end (I.ok.hd hc) st (Array.getElem?_eq_none hg) λh' eb=>⟨rfl,I.turned (t':=s.toks) (λb o hb e=>eb b o hb e) f0 f1 f3 f4 f5⟩
 self:=λA i s Q E st h=>by
  refine wpAny_pyIter_slot st.typeIs PySem.F.slot_str_ascii_iterator_iter (wpAny_call_entry PySem.F.slot_str_ascii_iterator_iter st.typeIs PySem.F.entry_str_ascii_iterator_iter ?_ (PySem.F.args_str_ascii_iterator_iter_1 _));show wpAny _ _ (ret (.ref it)) _ _ s;exact wP ⟨_,rfl,"str_ascii_iterator",_,st.typeIs,PySem.F.slot_str_ascii_iterator_next.lookup,h⟩
theorem NV:BP X (compareOp .LtE) (λx y H Q=>∃i j,x= .str i/\y= .str j/\Q (.bl (!decide (j.cps.toList < i.cps.toList))) H):=by
 intro pins s σ H x y v u Q I rx ry h;obtain⟨i,j,rfl,rfl,q⟩:=h;obtain⟨t,rfl⟩:=rx;obtain⟨t',rfl⟩:=ry;exact PySem.P.le_str (LZ I q rfl)
def jK(lo c:Int)(n:Nat):It:=⟨λi _=>i < n,λi H x H'=>H'=H/\x= .int (lo+i*c),λi _=>n<=i⟩
theorem JH{P:Program}{K:PySem.W.Frag}{tg:Expr}(it:Addr)(lo c:Int)(n:Nat):Turn P w K tg (jK lo c n) [it] it (λi h=>IsRangeIter h it (lo + (i:Nat) * c) ((n:Int) - (i:Nat)) c) where
 mem:=by simp
 obj :=λi h st b hb=>by
  have e:b=it:=by simpa using hb
  subst e
  exact⟨_,st,λv z=>by
   have z':Data.fields _=Data.cell v:=z
   cases z'⟩
 keep:=λi h h' st k=>k it (by simp) _ st
 item:=by
  intro X hP hw hK hc i pins s σ H E I hf st hg;subst hP hw hK;obtain⟨f0,f1,f2,f3,f4,f5⟩:=hf it (by simp);have W:=Walks.range (prog:=X.prog) (w:=X.w) (I.ok.hd hc) it lo c n;refine W.item i s _ _ hg st λv h' tk hv st' kk=>?_
  obtain⟨t,rfl⟩:=hv;have I1:Inv X pins σ H {s with heap:=h',toks:=tk}:=I.turned (λb o hb e=>kk b o (by simpa using hb) e) f0 f1 f3 f4 f5;exact⟨_,rfl,HP (s:={s with heap:=h',toks:=tk}) (n:="range_iterator") st' rfl rfl (by decide) ⟨.int (lo+i*c),H,I1,⟨t,rfl⟩,⟨rfl,rfl⟩,st',λb hb=>(hf b hb).1⟩⟩
 done:=by
  intro X hP hw hK hc i pins s σ H E I hf st hg;subst hP hw hK;obtain⟨f0,f1,f2,f3,f4,f5⟩:=hf it (by simp);exact wpAny_pyNext_range_end (I.ok.hd hc) st (by have:n<=i:=hg;omega) λh' eb=>⟨rfl,I.turned (t':=s.toks) (λb o hb e=>eb b o hb e) f0 f1 f3 f4 f5⟩
 self:=λ_ _ _ _ _ st h=>wpAny_pyIter_rangeiter st h
noncomputable def dG(ta:TA):TI:=λσ H R=>ta σ H λvs H1=>∃(i j k:Int) (n:Nat),vs=[.int i,.int j,.int k]/\0 < k/\k < 1000000/\Builtin.Range.small i j k=true/\Builtin.Range.rangeSize i j k=n/\R (jK i k n) H1
theorem NP{a b c:Expr}{ta:TA}{p pos:Pos}(hg:Gl X "range")(hm:X.mg "range"=none)(ha:PA X [a,b,c] ta)(hs:starEach [a,b,c] X.env=[(false,eval a X.env),(false,eval b X.env),(false,eval c X.env)]:=by rfl)
 (hs2:starEach [b,c] X.env=[(false,eval b X.env),(false,eval c X.env)]:=by rfl):PI X tg (.Call (.Name "range" p) [a,b,c] [] pos) (dG ta):=by
 intro pins s σ H R I h;refine Call_ (Er I hg hm boot_range (PyProof.Rows.callWith_type1 (AI (ha pos pins s σ H _ I h) λus s1 ⟨vs,H1,I1,r1,q1⟩=>?_) (by rw[hs,hs2]) (by rw[hs2];rfl)));obtain⟨i,j,k,n,e,q1,q2,q3,q4,q⟩:=q1;subst e;cases r1 with
 |cons r rr=>
   cases rr with
   |cons r' rr=>
     cases rr with
     |cons r'' rr=>
       cases rr;obtain⟨t,rfl⟩:=r;obtain⟨t',rfl⟩:=r';obtain⟨t'',rfl⟩:=r'';refine call_range_3 (by omega) ?_ (.inl (PyProof.noPylong_small (by omega)));have I2:Inv X pins σ H1 {s1 with heap:=s1.heap.push {cls:=.type "range",data:=.fields #[.int i t,.int j t',.int k t'']}}:=I1.kept (t':=s1.toks) λb o e=>gP e
       refine wpAny_pyIter_range (IsRange.new ..) q3 ?_;refine⟨_,[(s1.heap.push {cls:=.type "range",data:=.fields #[.int i t,.int j t',.int k t'']}).objs.size],_,_,H1,rfl,I2.kept (t':=s1.toks) λb o e=>gP e,JH _ i k n,?_,λb hb=>?_,q⟩
       .show IsRangeIter _ _ (i+((0:Nat):Int)*k) ((n:Int)-((0:Nat):Int)) k;rw[show i+((0:Nat):Int)*k=i by simp,show(n:Int)-((0:Nat):Int)=Builtin.Range.rangeSize i j k by rw[q4];simp];exact Heap.get?_push_size _ rfl
       .have e:b=(s1.heap.push {cls:=.type "range",data:=.fields #[.int i t,.int j t',.int k t'']}).objs.size:=by simpa using hb
        subst e;exact I2.Ou (lR) (I2.Ak.fresh (lR))
end
end L2
namespace HT
open PySem PyProof.Rows
variable{prog:Program}{w:World}{A:Around}{E:Value->Shared->Prop}{s:Shared}
theorem E5{sl:Addr}{items:Array Value}{vl vu:Value}{lo hi:Option Int}{Q:Value->Shared->Prop}(ht:IsTup s.heap t items)(hs:s.heap.IsSliceOf sl vl vu .none)(pl:IsPart vl lo)(pu:IsPart vu hi)
 (hw:Br items.size 0 lo=0/\Br items.size items.size hi=items.size)(h:Q (.ref t) s):wpAny (model prog w) A (getItem (.ref t) (.ref sl)) Q E s:=by
 obtain⟨os,hos,hcs,hds⟩:=id hs;have hTs:s.TypeIs (.ref sl) "slice":=⟨os,hos,hcs⟩;unfold getItem
 try with_reducible refine wpAny_holding ?_
 first|refine wpAny_bind (wP ?_)|skip
 refine wpAny_bind (wpAny_sequenceKey ht.typeIs (by decide) ?_)
 refine wpAny_bind (wpAny_callSpecial?_slot (name:=Str.ofString "__getitem__") ht.typeIs PyProof.Rows.slot_tuple_getitem
  (wpAny_call_entry PyProof.Rows.slot_tuple_getitem ht.typeIs entry_tuple_getitem ?_ (args_tuple_getitem _ _)))
 show wpAny _ _ (Builtin.Tuple.tupleItemsOf (.ref t) >>= _) _ _ s;refine wpAny_bind (tupleItemsOf_ ht ?_);refine wpAny_bind (wpAny_typeOf hTs ?_);rw[iP (by decide)];refine wpAny_bind (CK hs pl pu ?_)
 have hyes:((((Br items.size 0 lo:Nat):Int) == 0 && (1:Int) == 1 && (Br items.size items.size hi - Br items.size 0 lo) == items.size)=true):=by
  rw[hw.1,hw.2];simp
 show wpAny _ _ (if(((Br items.size 0 lo:Nat):Int) == 0 && (1:Int) == 1 && (Br items.size items.size hi-Br items.size 0 lo) == items.size)=true then _ else _) _ _ s;rw[iP hyes];unfold Builtin.Tuple.tupleIsExact;refine wpAny_bind (wpAny_bind (wpAny_typeOf ht.typeIs (wP ?_)));rw[iP (by decide)];refine wpAny_bind (wpAny_rule ?_);exact wP ⟨_,rfl,wP h⟩
end HT
namespace L2
open PySem PySem.Spec PyProof.Rows
variable{X:Cx}
def bZ(K:PySem.W.Frag):V->Option Int->Option Int->Hp->VK->Prop:=λx lo hi H Q=>∃a xs,x= .ref a/\ED K H a xs/\
 (HT.Br xs.length 0 lo=0/\HT.Br xs.length xs.length hi=xs.length)/\Q (.ref a) H
theorem T2:aR X (bZ X.K):=by
 intro pins s σ H x v vl vu lo hi sl Q I rx hs pl pu h;obtain⟨a,xs,rfl,hx,hw,q⟩:=h;cases rx;obtain⟨its,r,ht,hz⟩:=I.tuple hx;have hlen:its.toArray.size=xs.length:=by rw[size_toArray];exact r.length.symm
 refine⟨"tuple",_,PyProof.Rows.slot_tuple_getitem.lookup,ht.typeIs,?_⟩;refine HT.E5 ht hs pl pu (by rw[hlen];exact hw) ?_;exact⟨.ref a,_,I,rfl,q⟩
end L2
namespace Kd
open PySem L2
def dd(ks:List Int)(n:Int):List Int:=if n∈ks then ks else ks++[n]
end Kd
namespace Iv
open PySem
inductive P where
 |Ai|bl (b:Bool)|int (i:Int)|str (x:Str)|tup (ps:List P)|fn (i:Nat)|box (t:Nat)(ps:List P)
 deriving Inhabited
mutual
noncomputable def P.ke:(a b:P)->Decidable (a=b)
 |.Ai,.Ai=>.isTrue rfl
 |.bl a,.bl b=>if h:a=b then .isTrue (by rw[h])else .isFalse (λz=>h (P.bl.inj z))
 |.int a,.int b=>if h:a=b then .isTrue (by rw[h])else .isFalse (λz=>h (P.int.inj z))
 |.str a,.str b=>if h:a=b then .isTrue (by rw[h])else .isFalse (λz=>h (P.str.inj z))
 |.fn a,.fn b=>if h:a=b then .isTrue (by rw[h])else .isFalse (λz=>h (P.fn.inj z))
 |.tup a,.tup b=>match P.Z1 a b with| .isTrue h=>.isTrue (by rw[h])| .isFalse h=>.isFalse (λz=>h (P.tup.inj z))
 |.Ai,.bl _=>.isFalse nofun| .Ai,.int _=>.isFalse nofun| .Ai,.str _=>.isFalse nofun| .Ai,.tup _=>.isFalse nofun| .Ai,.fn _=>.isFalse nofun
 |.bl _,.Ai=>.isFalse nofun| .bl _,.int _=>.isFalse nofun| .bl _,.str _=>.isFalse nofun| .bl _,.tup _=>.isFalse nofun| .bl _,.fn _=>.isFalse nofun
 |.int _,.Ai=>.isFalse nofun| .int _,.bl _=>.isFalse nofun| .int _,.str _=>.isFalse nofun| .int _,.tup _=>.isFalse nofun| .int _,.fn _=>.isFalse nofun
 |.str _,.Ai=>.isFalse nofun| .str _,.bl _=>.isFalse nofun| .str _,.int _=>.isFalse nofun| .str _,.tup _=>.isFalse nofun| .str _,.fn _=>.isFalse nofun
 |.tup _,.Ai=>.isFalse nofun| .tup _,.bl _=>.isFalse nofun| .tup _,.int _=>.isFalse nofun| .tup _,.str _=>.isFalse nofun| .tup _,.fn _=>.isFalse nofun
 |.fn _,.Ai=>.isFalse nofun| .fn _,.bl _=>.isFalse nofun| .fn _,.int _=>.isFalse nofun| .fn _,.str _=>.isFalse nofun| .fn _,.tup _=>.isFalse nofun
 |.box a x,.box b y=>if h:a=b then(match P.Z1 x y with| .isTrue k=>.isTrue (by rw[h,k])| .isFalse k=>.isFalse (λz=>k (P.box.inj z).2))else .isFalse (λz=>h (P.box.inj z).1)
 |.Ai,.box _ _=>.isFalse nofun| .bl _,.box _ _=>.isFalse nofun| .int _,.box _ _=>.isFalse nofun| .str _,.box _ _=>.isFalse nofun| .tup _,.box _ _=>.isFalse nofun| .fn _,.box _ _=>.isFalse nofun
 |.box _ _,.Ai=>.isFalse nofun| .box _ _,.bl _=>.isFalse nofun| .box _ _,.int _=>.isFalse nofun| .box _ _,.str _=>.isFalse nofun| .box _ _,.tup _=>.isFalse nofun| .box _ _,.fn _=>.isFalse nofun
noncomputable def P.Z1:(a b:List P)->Decidable (a=b)
 |[],[]=>.isTrue rfl
 | x::a,y::b=>match P.ke x y,P.Z1 a b with
   |.isTrue h,.isTrue k=>.isTrue (by rw[h,k])
   |.isFalse h,_=>.isFalse (λz=>h (List.cons.inj z).1)
   |_,.isFalse k=>.isFalse (λz=>k (List.cons.inj z).2)
 |[],_::_=>.isFalse nofun
 |_::_,[]=>.isFalse nofun
end
instance:DecidableEq P:=P.ke
mutual
def P.depth:P->Nat
 |.tup ps=>P.Rn ps+1
 |_=>0
def P.Rn:List P->Nat
 |[]=>0
 |p::ps=>max p.depth (P.Rn ps)
end
inductive B where
 |p (x:P)|lst (ps:List P)|D2 (kvs:List (P×P))|ro (ps:List P)
instance:DecidableEq B:=λ_ _=>Classical.propDecidable _
inductive C where
 |b (x:B)|obj (c:Nat)(fs:List (Str×B))
instance:DecidableEq C:=λ_ _=>Classical.propDecidable _
abbrev C.p(x:P):C:=.b (.p x)
abbrev C.lst(x:List P):C:=.b (.lst x)
abbrev C.D2(x:List (P×P)):C:=.b (.D2 x)
def C.cp:C->Bool
 |.b (.p _)=>true
 |.b (.ro _)=>true
 |_=>false
def C.nf:C->C
 |.b (.ro ps)=>.b (.lst ps)
 |c=>c
abbrev Env:=List (Option C)
inductive Res(α:Type) where
 |stuck|ok (a:α)(ρ:Env)|err (x:Nat)(p:P)(ρ:Env)
namespace Res
variable{α β:Type}
noncomputable def bind(r:Res α)(f:α->Env->Res β):Res β:=match r with
 |.stuck=>.stuck
 |.ok a ρ=>f a ρ
 |.err x p ρ=>.err x p ρ
@[simp] theorem Zp (f:α->Env->Res β):(Res.stuck:Res α).bind f= .stuck:=rfl
@[simp] theorem A2 (a:α) (ρ:Env) (f:α->Env->Res β):(Res.ok a ρ).bind f=f a ρ:=rfl
@[simp] theorem eZ (x:Nat) (p:P) (ρ:Env) (f:α->Env->Res β):(Res.err x p ρ:Res α).bind f= .err x p ρ:=rfl
def of(o:Option α)(ρ:Env):Res α:=match o with
 |some a=>.ok a ρ
 |none=>.stuck
@[simp] theorem TY (a:α) (ρ:Env):of (some a) ρ= .ok a ρ:=rfl
@[simp] theorem of_none (ρ:Env):of (none:Option α) ρ= .stuck:=rfl
end Res
inductive CR where
 |stuck|ok (c:C)(outs:List (Option C))|err (x:Nat)(p:P)
inductive Ty where
 |int|bool|str|tuple|cls (cs:List Nat)
inductive IK where
 |op|BZ|enum|zip|rev|items|vals
inductive O where
 |add|sub|mul|mod|fdiv|pow|band|shr|neg
 |eq|ne|lt|le|gt|ge|is|Sz|aD|fX|chain (a b:O)
 |idx|Cy (lo hi:Bool)
 |len|Ft (t:Ty)|list (k:IK)|tuple (k:IK)|dict (k:IK)|min|max|sum|all|any|sorted|abs|str|int|iO
 |join (sep:Str)|upper|jd|Ot|index|iter (k:IK)|YA|id|sw
inductive MO where
 |append|extend|pop|jW|clear|reverse|insert|update
inductive Tg where
 |nm (i:Nat)|tup (is:List Nat)
def Tg.slots:Tg->List Nat
 |.nm i=>[i]
 |.tup is=>is
inductive T where
 |cst (p:P)|var (i:Nat)|bor (i:Nat)|fld (i:Nat)(f:Str)
 |tup (ts:List T)|lst (ts:List T)|Dl (ts:List T)|OJ (a b:Int)(ts:List T)|D2 (ks vs:List T)
 |prim (o:O)(ts:List T)|CY (m:MO)(o:T)(ts:List T)|YI (o:T)(ts:List T)
 |and (a b:T)|or (a b:T)|not (a:T)|ite (c a b:T)
 |call (f:Nat)(ts:List T)|Au (m:Str)(o:T)(ts:List T)|make (c:Nat)(ts:List T)|FX (i:Nat)(ts:List T)|BH (i:Nat)|C4 (m:Str)(i l:Nat)(CU:Option Nat)
 |comp (g:Tg)(k:IK)(its:List T)(cond:List T)(elt:T)(fr:List (Option Nat))
def O.same:O->O->Bool
 |.add,.add=>true
 |_,_=>false
mutual
noncomputable def T.same:T->T->Bool
 |.cst p,u=>(match u with| .cst q=>decide (p=q)|_=>false)
 |.var i,u=>(match u with| .var j=>decide (i=j)|_=>false)
 |.prim o ts,u=>(match u with| .prim p us=>O.same o p && T.FI ts us|_=>false)
 |.call f ts,u=>(match u with| .call g us=>decide (f=g) && T.FI ts us|_=>false)
 |.Au m o ts,u=>(match u with| .Au n p us=>decide (m=n) && T.same o p && T.FI ts us|_=>false)
 |_,_=>false
noncomputable def T.FI:List T->List T->Bool
 |[],us=>us.isEmpty
 |t::ts,us=>(match us with|u::us=>T.same t u && T.FI ts us|[]=>false)
end
inductive S where
 |asg (g:Tg)(t:T)|gS (o:T)(i:T)(v:T)|Gn (i:Nat)(f:Str)(v:T)|expr (t:T)
 |ret (t:Option T)|ifs (c:T)(a b:List S)|Mj (c:T)(b:List S)|Ca (g:Tg)(k:IK)(its:List T)(b:List S)
 |brk|cnt|pass|raise (x:Nat)|SG (i f:Nat)(ts:List T)(c g e:Nat)
def IK.ok:IK->Bool
 |.op=>true
 |.BZ=>true
 |.rev=>true
 |_=>false
noncomputable def O.ok:O->Bool
 |.iter _=>false
 |.YA=>false
 |.band=>false
 |.shr=>false
 |.upper=>false
 |.index=>false
 |.any=>false
 |.dict _=>false
 |.list .op=>true
 |.list .rev=>true
 |.list .zip=>true
 |.sorted=>true
 |.jd=>false
 |.list _=>false
 |.tuple .op=>true
 |.tuple _=>false
 |.Ft (.cls _)=>false
 |_=>true
noncomputable def MO.ok:MO->Bool
 |.append=>true
 |.extend=>true
 |.pop=>true
 |.clear=>true
 |.reverse=>true
 |_=>false
def big:Nat:=100000
def B.pure:B->Option P
 |.p x=>some x
 |_=>none
def C.pure:C->Option P
 |.b (.p x)=>some x
 |_=>none
noncomputable def jh:P->P->Bool
 |.bl _,.int _=>false
 |.int _,.bl _=>false
 |.fn _,_=>false
 |.box _ _,_=>false
 |_,.fn _=>false
 |_,.box _ _=>false
 |_,_=>true
mutual
def jg:P->P->Bool
 |.tup a,.tup b=>Wy a b
 |a,b=>jh a b
def Wy:List P->List P->Bool
 |x::a,y::b=>jg x y && Wy a b
 |_,_=>true
end
def flat(p:P):Bool:=decide (p.depth<=8)
noncomputable def GV:P->P->Option Bool
 |.int i,.int j=>some (decide (i=j))
 |.str i,.str j=>some (decide (i=j))
 |_,_=>none
noncomputable def dput(kvs:List (P×P))(k v:P):List (P×P):=if(kvs.any λq=>decide (q.1=k))=true then kvs.map λq=>if q.1=k then(q.1,v)else q else kvs++[(k,v)]
mutual
def Wq:P->Bool
 |.int _=>true
 |.str _=>true
 |.tup ps=>R1 ps
 |_=>false
def R1:List P->Bool
 |[]=>true
 |p::ps=>Wq p && R1 ps
end
def YB:P->Bool
 |.str _=>true
 |_=>false
def keyOk(k:P):Bool:=Wq k && flat k && !YB k
noncomputable def JD(n:Nat)(i:Int):Option Nat:=if 0<=i then(if i < n then some i.toNat else none)else(if -(n:Int)<=i then some (i+n).toNat else none)
def Oy(n d:Nat):Option Int->Nat
 |none=>d
 |some v=>if v < 0 then(v+n).toNat else min v.toNat n
noncomputable def cut{α:Type}(xs:List α)(lo hi:Option Int):List α:=(xs.drop (Oy xs.length 0 lo)).take (Oy xs.length xs.length hi-Oy xs.length 0 lo)
def sign(c:Nat):P:=.str ⟨#[c]⟩
def signs(x:Str):List P:=x.cps.toList.map sign
def P.kC:P->Option Int
 |.int i=>some i
 |_=>none
def Af(lo hi:Int):List P:=(List.range (hi-lo).toNat).map λk=>.int (lo+(k:Nat))
def EB:List P->Option (List Bool)
 |[]=>some []
 |.bl i::r=>(EB r).map (i::·)
 |_::_=>none
def strsOf:List P->Option (List Str)
 |[]=>some []
 |.str i::r=>(strsOf r).map (i::·)
 |_::_=>none
noncomputable def Dx(t:Ty)(c:C):Option Bool:=match t,c with
 |.int,.b (.p (.int _))=>some true
 |.int,.b (.p (.bl _))=>some true
 |.bool,.b (.p (.bl _))=>some true
 |.str,.b (.p (.str _))=>some true
 |.tuple,.b (.p (.tup _))=>some true
 |.cls cs,.obj c _=>some (cs.contains c)
 |_,.obj _ _=>none
 |_,.b (.p (.fn _))=>none
 |.str,.b (.p (.box 0 _))=>some false
 |_,.b (.p (.box _ _))=>none
 |.cls _,_=>none
 |_,.b (.p _)=>some false
 |_,_=>none
def Ei{α:Type}(xs:List α):Option (List α):=if xs.length<=big then some xs else none
noncomputable def Ha:C->C->Option C
 |.b (.p (.int i)),.b (.p (.int j))=>some (.p (.int (i+j)))
 |.b (.p (.str i)),.b (.p (.str j))=>if i.length+j.length<=big then some (.p (.str (i++j)))else none
 |.b (.p (.tup i)),.b (.p (.tup j))=>if i.isEmpty then none else(Ei (i++j)).map λz=>.p (.tup z)
 |.b (.lst i),.b (.lst j)=>(Ei (i++j)).map λz=>.lst z
 |_,_=>none
def fY:P->P->Option Bool
 |.int i,.int j=>some (decide (i < j))
 |_,_=>none
noncomputable def du:P->P->Option Bool
 |.int i,.int j=>some (decide (i<=j))
 |.str i,.str j=>some (decide (i.cps.toList<=j.cps.toList))
 |_,_=>none
def SD:C->C->Option Bool
 |.b (.p a),.b (.p b)=>GV a b
 |_,_=>none
noncomputable def CS(o:O)(a b:C):Option Bool:=match o with
 |.eq=>SD a b
 |.ne=>(SD a b).map (!·)
 |.lt=>match a,b with| .b (.p x),.b (.p y)=>fY x y|_,_=>none
 |.gt=>match a,b with| .b (.p x),.b (.p y)=>fY y x|_,_=>none
 |.le=>match a,b with| .b (.p x),.b (.p y)=>du x y|_,_=>none
 |.ge=>match a,b with| .b (.p (.int x)),.b (.p (.int y))=>some (decide (y<=x))|_,_=>none
 |.Sz=>match b with| .b (.p .Ai)=>some (!decide (a= .p .Ai))|_=>none
 |_=>none
noncomputable def Dj(c i:C):Option C:=match c.nf,i with
 |.b (.lst ps),.b (.p (.int i))=>(JD ps.length i).bind λk=>(ps[k]?).map λx=>.p x
 |.b (.p (.tup ps)),.b (.p (.int i))=>(JD ps.length i).bind λk=>(ps[k]?).map λx=>.p x
 |.b (.p (.str x)),.b (.p (.int i))=>if x.length<=big then(JD x.length i).bind λk=>(x.cps.toList[k]?).map λc=>.p (sign c)else none
 |_,_=>none
noncomputable def BY(x:Str)(lo hi:Option Int):Option Str:=match lo,hi with
 |none,some j=>if 0<=j/\j<=x.length/\x.length<=big then some ⟨(x.cps.toList.take j.toNat).toArray⟩else none
 |some i,none=>if 0<=i/\x.length<=big then some ⟨(x.cps.toList.drop i.toNat).toArray⟩else none
 |some i,some j=>if 0<=i/\i<=j/\j<=x.length/\x.length<=big then some ⟨((x.cps.toList.drop i.toNat).take (j-i).toNat).toArray⟩else none
 |_,_=>none
noncomputable def D3(x:C)(lo hi:Option Int):Option C:=match x.nf with
 |.b (.p (.tup ps))=>some (.p (.tup (cut ps lo hi)))
 |.b (.p (.str x))=>(BY x lo hi).map λy=>.p (.str y)
 |_=>none
noncomputable def Pw(c:C):Option (List P):=match c.nf with
 |.b (.lst ps)=>some ps
 |.b (.p (.tup ps))=>some ps
 |.b (.p (.str x))=>if x.length<=big/\x.cps.all (λc=>decide (c < 128))=true then some (signs x)else none
 |_=>none
noncomputable def ky(c:C):Option (List P):=match c.nf with
 |.b (.lst ps)=>some ps
 |.b (.p (.tup ps))=>some ps
 |_=>none
noncomputable def jT(c:C):Option (List P):=match c.nf with
 |.b (.lst ps)=>some ps
 |.b (.D2 kvs)=>some (kvs.map (·.1))
 |_=>none
def ko:List P->List P->List P:=List.zipWith λa b=>.tup [a,b]
def kb(ps:List P):List P:=ps.zipIdx.map λq=>.tup [.int (q.2:Nat),q.1]
noncomputable def Hy(c:C):Option (List P):=match c.nf with
 |.b (.lst ps)=>some ps
 |.b (.p (.tup ps))=>some ps
 |_=>none
noncomputable def Ap(k:IK)(cs:List C):Option (List P):=match k,cs with
 |.op,[c]=>Pw c
 |.BZ,[.b (.p (.int n))]=>if n.natAbs < 2 ^ 61 then some (Af 0 n)else none
 |.BZ,[.b (.p (.int a)),.b (.p (.int n))]=>if a.natAbs < 2 ^ 61/\n.natAbs < 2 ^ 61 then some (Af a n)else none
 |.BZ,[.b (.p (.int a)),.b (.p (.int n)),.b (.p (.int s))]=>if 0 < s/\s < 1000000/\a.natAbs < 2 ^ 61/\n.natAbs < 2 ^ 61 then some ((List.range ((n-a+s-1)/s).toNat).map λk=>.int (a+s*(k:Nat)))else none
 |.rev,[c]=>match c.nf with| .b (.lst ps)=>some ps.reverse|_=>none
 |_,_=>none
noncomputable def J5(c:C):Option C:=match c.nf with
 |.b (.lst ps)=>some (.p (.int ps.length))
 |.b (.p (.tup ps))=>some (.p (.int ps.length))
 |.b (.p (.str x))=>if x.length<=big then some (.p (.int x.length))else none
 |_=>none
noncomputable def HR:List (P×P)->List P->Option (List (P×P))
 |kvs,[]=>some kvs
 |kvs,.tup [k,v]::r=>if keyOk k then HR (dput kvs k v) r else none
 |_,_::_=>none
noncomputable def Kl(sep:Str)(xs:List Str):Str:=⟨(xs.drop 1).foldl (λacc p=>acc++sep.cps++p.cps) (xs.headD ⟨#[]⟩).cps⟩
noncomputable def Dy(f:Int->Int->Option Int):C->C->Option C
 |.b (.p (.int i)),.b (.p (.int j))=>(f i j).map λk=>.p (.int k)
 |_,_=>none
def bD(i j:Int):Option Int:=some (i-j)
noncomputable def Qr(i j:Int):Option Int:=if(-(2 ^ 64) < i/\i < 2 ^ 64)\/(-(2 ^ 64) < j/\j < 2 ^ 64)then some (i*j)else none
def O5(i j:Int):Option Int:=if 0 < j then some (i%j)else none
def HU(i j:Int):Option Int:=if 0 < j/\j < 1073741824 then some (i/j)else none
def NN(i j:Int):Option Int:=if 0<=j/\j<=1000/\i.natAbs < 2 ^ 64 then some (i ^ j.toNat)else none
def dh(i j:Int):Option Int:=some (if j < i then j else i)
def mulC(a b:C):Option C:=Dy Qr a b
def Jg(f:Int->Option P):C->Option C
 |.b (.p (.int i))=>(f i).map λk=>.p k
 |_=>none
def Yb(i:Int):Option P:=some (.int (-i))
def P5(i:Int):Option P:=if i.natAbs.log2 < 1920 then some (.str (toString i))else none
def Bf(l:List Nat):Nat:=l.foldl (λn c=>n*10+(c-48)) 0
noncomputable def QS:C->Option C
 |.b (.p (.int i))=>some (.p (.int i))
 |.b (.p (.str x))=>if x.cps.toList.all (λc=>decide (48<=c/\c<=57)) && decide (0 < x.length/\x.length<=640)then some (.p (.int (Bf x.cps.toList:Nat)))else none
 |.b (.p (.bl b))=>some (.p (.int (if b then 1 else 0)))
 |_=>none
def dm(f:List P->Option C)(c:C):Option C:=match c.nf with
 |.b (.lst ps)=>f ps
 |_=>none
def Md:C->Option C:=dm λps=>(EB ps).map λns=>.p (.bl (ns.all id))
noncomputable def Dd(o1 o2:O)(a b c:C):Option C:=(CS o1 a b).bind λx=>if x then(CS o2 b c).map λy=>.p (.bl y)else some (.p (.bl false))
def Eb:C->Option Int
 |.b (.p (.int i))=>some i
 |_=>none
def kc:C->Option C
 |.b (.D2 kvs)=>some (.D2 kvs)
 |.b (.lst ps)=>(HR [] ps).map .D2
 |_=>none
noncomputable def LY(c k d:C):Option C:=match c,k,d with
 |.b (.p (.box 1 [.int a,x,.int b,y])),.b (.p (.int k)),.b (.p d)=>if a=b then none else some (.p (if k=a then x else if k=b then y else d))
 |_,_,_=>none
noncomputable def FO(sep:Str)(c:C):Option C:=((Hy c).bind strsOf).bind λxs=>if(xs.map (·.length)).sum+xs.length*sep.length<=big then some (.p (.str (Kl sep xs)))else none
def kF:C->Option C
 |.b (.p x)=>some (.p x)
 |_=>none
noncomputable def az:C->C->C->Option C
 |.b (.p (.str x)),.b (.p (.str y)),.b (.p (.int i))=>if 0<=i/\i<=x.length then some (.p (.bl (decide ((x.cps.toList.drop i.toNat).take y.length=y.cps.toList))))else none
 |_,_,_=>none
noncomputable def As(o:O)(cs:List C):Option C:=match o,cs with
 |.add,[a,b]=>Ha a b
 |.sub,[a,b]=>Dy bD a b
 |.mul,[a,b]=>mulC a b
 |.mod,[a,b]=>Dy O5 a b
 |.fdiv,[a,b]=>Dy HU a b
 |.pow,[a,b]=>Dy NN a b
 |.neg,[a]=>Jg Yb a
 |.chain o1 o2,[a,b,c]=>Dd o1 o2 a b c
 |.idx,[a,i]=>Dj a i
 |.Cy false false,[a]=>D3 a none none
 |.Cy true false,[a,i]=>(Eb i).bind λi=>D3 a (some i) none
 |.Cy false true,[a,j]=>(Eb j).bind λj=>D3 a none (some j)
 |.Cy true true,[a,i,j]=>(Eb i).bind λi=>(Eb j).bind λj=>D3 a (some i) (some j)
 |.len,[c]=>J5 c
 |.Ft t,[c]=>(Dx t c).map λb=>.p (.bl b)
 |.tuple .op,[c]=>(Hy c).map λx=>.p (.tup x)
 |.min,[a,b]=>Dy dh a b
 |.all,[c]=>Md c
 |.str,[a]=>Jg P5 a
 |.int,[c]=>QS c
 |.join sep,[c]=>FO sep c
 |.id,[c]=>kF c
 |.sw,[x,y,i]=>az x y i
 |.Ot,[c,k,d]=>LY c k d
 |.eq,[a,b]=>(CS .eq a b).map λx=>.p (.bl x)
 |.ne,[a,b]=>(CS .ne a b).map λx=>.p (.bl x)
 |.lt,[a,b]=>(CS .lt a b).map λx=>.p (.bl x)
 |.le,[a,b]=>(CS .le a b).map λx=>.p (.bl x)
 |.gt,[a,b]=>(CS .gt a b).map λx=>.p (.bl x)
 |.ge,[a,b]=>(CS .ge a b).map λx=>.p (.bl x)
 |.is,[a,b]=>(CS .is a b).map λx=>.p (.bl x)
 |.Sz,[a,b]=>(CS .Sz a b).map λx=>.p (.bl x)
 |.aD,[a,b]=>(CS .aD a b).map λx=>.p (.bl x)
 |.fX,[a,b]=>(CS .fX a b).map λx=>.p (.bl x)
 |_,_=>none
noncomputable def DS(ps:List P):List C->Option (C×B)
 |[.b (.p x)]=>if ps.length < big then some (.p .Ai,.lst (ps++[x]))else none
 |_=>none
noncomputable def EW(ps:List P):List C->Option (C×B)
 |[.b (.p (.tup xs))]=>if ps.length+xs.length<=big then some (.p .Ai,.lst (ps++xs))else none
 |_=>none
def Qy(ps:List P):List C->Option (C×B)
 |[]=>(ps.getLast?).map λx=>(.p x,.lst ps.dropLast)
 |_=>none
noncomputable def E4(m:MO)(b:B)(cs:List C):Option (C×B):=match b with
 | .lst ps=>(match m with
   |.append=>DS ps cs
   |.extend=>EW ps cs
   |.pop=>Qy ps cs
   |_=>none)
 |_=>none
noncomputable def gU(b:B)(i:P)(v:P):Option B:=match b with
 |.D2 kvs=>if keyOk i && decide (kvs.length < big)then some (.D2 (dput kvs i v))else none
 |.lst ps=>match i with| .int n=>(JD ps.length n).map λk=>.lst (ps.set k v)|_=>none
 |_=>none
noncomputable def Cw(c:C):Option Bool:=match c.nf with
 |.b (.p .Ai)=>some false
 |.b (.p (.bl b))=>some b
 |.b (.p (.int i))=>some (i != 0)
 |.b (.p (.str x))=>if x.length<=big then some (x.length != 0)else none
 |.b (.p (.tup ps))=>some (!ps.isEmpty)
 |.b (.lst ps)=>some (!ps.isEmpty)
 |_=>none
inductive Hd where
 |AD (c:C)|slot (i:Nat)|fld (i:Nat)(f:Str)
def A6(ρ:Env)(i:Nat):Option C:=(ρ[i]?).join
noncomputable def Bi(ρ:Env)(i:Nat)(f:Str):Option C:=match A6 ρ i with
 |some (.obj _ fs)=>(fs.lookup f).map .b
 |_=>none
def Hd.cont(ρ:Env):Hd->Option C
 |.AD c=>some c
 |.slot i=>A6 ρ i
 |.fld i f=>Bi ρ i f
noncomputable def A9(ρ:Env):List Hd->Option (List C)
 |[]=>some []
 |h::hs=>(h.cont ρ).bind λc=>(A9 ρ hs).map (c::·)
def Fd:P->Bool
 |.tup _=>false
 |.fn _=>false
 |.box _ _=>false
 |_=>true
def T.calm:T->Bool
 |.cst p=>Fd p
 |.bor _=>true
 |.var _=>true
 |.fld _ _=>true
 |_=>false
noncomputable def B6(f:Str)(b:B):List (Str×B)->List (Str×B)
 |[]=>[(f,b)]
 |(g,c)::r=>if g=f then(g,b)::r else(g,c)::B6 f b r
noncomputable def setB(ρ:Env)(h:Hd)(b:B):Option Env:=match h with
 |.slot i=>some (ρ.set i (some (.b b)))
 | .fld i f=>match A6 ρ i with
   |some (.obj c fs)=>some (ρ.set i (some (.obj c (B6 f b fs))))
   |_=>none
 |.AD _=>none
noncomputable def Bw(hs:List Hd)(cs:List C):List Nat:=(hs.zip cs).filterMap λq=>if q.2.cp then none else match q.1 with
 |.slot i=>some i
 |.fld i _=>some i
 |.AD _=>none
noncomputable def back(ρ:Env):List Hd->List C->List (Option C)->Option Env
 |.slot i::hs,c::cs,o::os=>if c.cp then back ρ hs cs os else back (ρ.set i o) hs cs os
 |.fld _ _::hs,c::cs,_::os=>if c.cp then back ρ hs cs os else none
 |.AD _::hs,_::cs,_::os=>back ρ hs cs os
 |[],[],_=>some ρ
 |_,_,_=>none
abbrev CF:=Nat->List C->CR
structure MT where
 m:Nat->Str->Option Nat
 f:Nat->Str->Bool
 rs:Bool
 tf:Nat->Bool
noncomputable def guards(hs:List Hd)(cs:List C):List (Nat×C):=(hs.zip cs).filterMap λq=>if q.2.cp then none else match q.1 with
 |.slot i=>some (i,q.2)
 |_=>none
noncomputable def An(hs:List Hd)(cs:List C):Bool:=(hs.zip cs).all λq=>q.2.cp || match q.1 with
 |.fld _ _=>false
 |_=>true
def lend(ρ:Env)(hs:List Hd)(cs:List C):Env:=(Bw hs cs).foldl (λr i=>r.set i none) ρ
noncomputable def Aq(cf:CF)(f:Nat)(hs:List Hd)(ρ:Env):Res C:=match A9 ρ hs with
 |none=>.stuck
 | some cs=>if(Bw hs cs).Nodup/\An hs cs=true then
    match cf f cs with
    |.stuck=>.stuck
    |.ok c outs=>(Res.of (back (lend ρ hs cs) hs cs outs) ρ).bind λρ' _=>.ok c ρ'
    |.err x p=>.err x p (lend ρ hs cs)
   else .stuck
def holds(gs:List (Nat×C))(ρ:Env):Bool:=gs.all λq=>decide (A6 ρ q.1=some q.2)
noncomputable def EM(g:Tg)(v:P)(ρ:Env):Option Env:=match g,v with
 |.nm i,v=>some (ρ.set i (some (.p v)))
 |.tup is,.tup vs=>if is.length=vs.length then some ((is.zip vs).foldl (λr q=>r.set q.1 (some (.p q.2))) ρ)else none
 |_,_=>none
def BB(fr:List (Option Nat))(ρ:Env):Env:=fr.map λo=>o.bind λi=>A6 ρ i
noncomputable def AN(ρ:Env):List (Option Nat)->Env->Env
 |some i::fr,c::β=>AN (ρ.set i c) fr β
 |none::fr,_::β=>AN ρ fr β
 |_,_=>ρ
noncomputable def BG(g:Tg)(gs:List (Nat×C))(cond:Env->Res Bool)(elt:Env->Res C):List P->List P->Env->Res (List P)
 |[],acc,β=>if holds gs β then .ok acc β else .stuck
 | x ::xs,acc,β=>if holds gs β then(Res.of (EM g x β) β).bind λβ1 _=>(cond β1).bind λb β2=>if b then(elt β2).bind λc β3=>match c with
     |.b (.p y)=>BG g gs cond elt xs (acc++[y]) β3
     |_=>.stuck
   else BG g gs cond elt xs acc β2
   else .stuck
def inner(fr:List (Option Nat))(i:Nat):Option Nat:=fr.findIdx? λo=>o == some i
def CH(fr:List (Option Nat))(ρ:Env):Env:=(fr.filterMap id).foldl (λr i=>r.set i none) ρ
noncomputable def Fb(g:Tg)(fr:List (Option Nat)):Bool:=decide ((fr.filterMap id).Nodup) && g.slots.all λj=>decide (fr[j]? =some none)
noncomputable def BO(fr:List (Option Nat))(hs:List Hd)(cs:List C):List (Nat×C):=(guards hs cs).filterMap λq=>(inner fr q.1).map λj=>(j,q.2)
noncomputable def Ib(k:IK)(g:Tg)(fr:List (Option Nat))(cond:Env->Res Bool)(elt:Env->Res C)(hs:List Hd)(ρ:Env):Res C:=match A9 ρ hs with
 | some cs=>match Ap k cs with
   | some xs=>if An hs cs && Fb g fr && decide (xs.length<=big)then match BG g (BO fr hs cs) cond elt xs [] (BB fr ρ)with
      |.ok ys β=>.ok (.lst ys) (AN (CH fr ρ) fr β)
      |_=>.stuck
     else .stuck
   |none=>.stuck
 |none=>.stuck
noncomputable def Bn(t:T)(v:Env->Res C)(ρ:Env):Res Hd:=match t with
 |.bor i=>if(A6 ρ i).isSome then .ok (.slot i) ρ else .stuck
 |.var i=>if(A6 ρ i).isSome then .ok (.slot i) ρ else .stuck
 |.fld i f=>if(Bi ρ i f).isSome then .ok (.fld i f) ρ else .stuck
 |_=>(v ρ).bind λc ρ=>.ok (.AD c) ρ
inductive Fl where
 |nx|brk|cnt|ret (c:C)
def placeOf:T->Option Hd
 |.var i=>some (.slot i)
 |.fld i f=>some (.fld i f)
 |_=>none
def Wn:Option C->Bool
 |some (.b (.lst _))=>true
 |_=>false
def Hd.F0:Hd->Bool
 |.fld _ _=>true
 |_=>false
noncomputable def IX(m:MO)(h:Hd)(hs:List Hd)(ρ:Env):Res C:=match h.cont ρ,A9 ρ hs with
 | some (.b b),some cs=>if(Bw (h::hs) (.b b::cs)).Nodup then match E4 m b cs with
   |some (c,b')=>(Res.of (setB ρ h b') ρ).bind λρ' _=>.ok c ρ'
   |none=>.stuck
   else .stuck
 |_,_=>.stuck
def j9:Option C->Bool
 |some (.b (.lst _))=>true
 |some (.b (.D2 _))=>true
 |_=>false
noncomputable def bG(h:Hd)(k:C)(v:P)(ρ:Env):Res Fl:=match h.cont ρ,k with
    |some (.b b),.b (.p k)=>(Res.of ((gU b k v).bind λb'=>setB ρ h b') ρ).bind λρ' _=>.ok .nx ρ'
    |_,_=>.stuck
noncomputable def bH(h:Hd)(i:Env->Res C)(v:C)(ρ:Env):Res Fl:=match v with
    |.b (.p v)=>if j9 (h.cont ρ)then(i ρ).bind λk ρ=>bG h k v ρ else .stuck
    |_=>.stuck
noncomputable def Hx(mt:MT)(i:Nat)(f:Str)(v:C)(ρ:Env):Res Fl:=match A6 ρ i,v with
    |some (.obj c fs),.b b=>if mt.f c f && decide (fs.length < 900)then .ok .nx (ρ.set i (some (.obj c (B6 f b fs))))else .stuck
    |_,_=>.stuck
def dD:Option C->Bool
 |some (.b (.D2 _))=>true
 |_=>false
noncomputable def jc(h:Hd)(hs:List Hd)(ρ:Env):Res C:=match h.cont ρ,A9 ρ hs with
 |some c,some [k]=>Res.of (LY c k (.p .Ai)) ρ
 |some c,some [k,d]=>Res.of (LY c k d) ρ
 |_,_=>.stuck
noncomputable def FJ(cf:CF)(f c:Nat)(hs:List Hd)(ρ:Env):Res C:=match A9 ρ hs with
 |none=>.stuck
 | some cs=>if((Bw hs cs).Nodup/\An hs cs=true)/\c < 1000 then match cf f (.obj c []::cs)with
    |.ok (.b (.p .Ai)) (some s::outs)=>(Res.of (back (lend ρ hs cs) hs cs outs) ρ).bind λρ' _=>.ok s ρ'
    |_=>.stuck
   else .stuck
def Co:Nat:=1024
def Ey(l:Nat):Option Nat->Nat
 |none=>1024*(l+1)
 |some v=>1024*(l+1)+1048576*(v+1)
def Ez(n:Nat):Nat:=n/1024%1024-1
def Js(n:Nat):List Hd:=match n / 1048576 with
 |0=>[]
 |v+1=>[.AD (.p (.int v))]
def tag(c:Nat):Nat:=if c < 1000 then c+1000 else c
noncomputable def Ie(ρ:Env):Option Nat->Option (Option Nat)
 |none=>some none
 | some j=>match A6 ρ j with
   |some (.b (.p (.int v)))=>if 0<=v/\v < 1000 then some (some v.toNat)else none
   |_=>none
mutual
def noFn:P->Bool
 |.fn _=>false
 |.box _ _=>false
 |.tup ps=>Dg ps
 |_=>true
def Dg:List P->Bool
 |[]=>true
 |p::ps=>noFn p && Dg ps
end
def Bs:List (Str×B)->Bool
 |[]=>true
 |(_,.p x)::r=>noFn x && Bs r
 |_::_=>false
noncomputable def Fp(cf:CF)(mt:MT)(m:Str)(i l:Nat)(CU:Option Nat)(ρ:Env):Res C:=match A6 ρ i,Ie ρ CU with
 | some (.obj c fs),some cv=>match fs.lookup m,mt.m c m with
   | none,some f=>if Bs fs then(match cf f [.obj (tag c) fs,.p (.fn (Ey l cv))]with
     |.ok (.b (.p x)) (some (.obj c' fs')::_)=>if c'=tag c/\noFn x=true/\Bs fs'=true then .ok (.p x) (ρ.set i (some (.obj c fs')))else .stuck
     |.err x p=>.err x p (ρ.set i none)
     |_=>.stuck)else .stuck
   |_,_=>.stuck
 |_,_=>.stuck
structure Sm where
 v:Env->Res C
 b:Env->Res Bool
noncomputable def Sm.of(t:T)(v:Env->Res C):Sm:=⟨v,λρ=>(Bn t v ρ).bind λh ρ=>Res.of ((h.cont ρ).bind Cw) ρ⟩
mutual
noncomputable def den (cf:CF) (mt:MT):T->Sm
 |.cst p=>Sm.of (.cst p) λρ=>.ok (.p p) ρ
 | .var i=>Sm.of (.var i) λρ=>match A6 ρ i with
   |some c=>if c.cp then .ok c ρ else .ok c (ρ.set i none)
   |none=>.stuck
 | .bor i=>Sm.of (.bor i) λρ=>match A6 ρ i with
   |some c=>if c.cp then .ok c ρ else .stuck
   |none=>.stuck
 | .fld i f=>Sm.of (.fld i f) λρ=>match Bi ρ i f with
   |some c=>if c.cp then .ok c ρ else .stuck
   |none=>.stuck
 |.tup ts=>Sm.of (.tup []) λρ=>if ts.length<=1000 then(Bd cf mt ts ρ).bind λps ρ=>.ok (.p (.tup ps)) ρ else .stuck
 |.lst ts=>Sm.of (.tup []) λρ=>if ts.length<=1000 then(Bd cf mt ts ρ).bind λps ρ=>.ok (.lst ps) ρ else .stuck
 |.Dl ts=>Sm.of (.tup []) λρ=>if ts.length<=1000 then(Bd cf mt ts ρ).bind λps ρ=>.ok (.p (.box 0 ps)) ρ else .stuck
 | .OJ a b ts=>Sm.of (.tup []) λρ=>if a=b then .stuck else(Bd cf mt ts ρ).bind λps ρ=>match ps with
   |[x,y]=>.ok (.p (.box 1 [.int a,x,.int b,y])) ρ
   |_=>.stuck
 |.D2 ks vs=>Sm.of (.tup []) λρ=>if ks.isEmpty && vs.isEmpty then .ok (.D2 []) ρ else .stuck
 |.prim o ts=>Sm.of (.tup []) λρ=>if o.ok then(A8 cf mt ts ρ).bind λhs ρ=>Res.of ((A9 ρ hs).bind (As o)) ρ else .stuck
 | .CY m o ts=>Sm.of (.tup []) λρ=>match placeOf o with
   |some h=>if m.ok && Wn (h.cont ρ) && (!h.F0 || ts.all T.calm)then(A8 cf mt ts ρ).bind λhs ρ=>IX m h hs ρ else .stuck
   |none=>.stuck
 | .YI o ts=>Sm.of (.tup []) λρ=>match placeOf o with
   |some h=>if dD (h.cont ρ) && (!h.F0 || ts.all T.calm)then(A8 cf mt ts ρ).bind λhs ρ=>jc h hs ρ else .stuck
   |none=>.stuck
 | .and a b=>⟨λρ=>((den cf mt a).v ρ).bind λc ρ=>match c with
   |.b (.p (.bl true))=>(den cf mt b).v ρ
   |.b (.p (.bl false))=>.ok (.p (.bl false)) ρ
   |_=>.stuck,λρ=>((den cf mt a).b ρ).bind λc ρ=>if c then(den cf mt b).b ρ else .ok false ρ⟩
 | .or a b=>⟨λρ=>((den cf mt a).v ρ).bind λc ρ=>match c with
   |.b (.p (.bl true))=>.ok (.p (.bl true)) ρ
   |.b (.p (.bl false))=>(den cf mt b).v ρ
   |_=>.stuck,λρ=>((den cf mt a).b ρ).bind λc ρ=>if c then .ok true ρ else(den cf mt b).b ρ⟩
 | .not a=>⟨λρ=>((den cf mt a).v ρ).bind λc ρ=>match c with
   |.b (.p (.bl b))=>.ok (.p (.bl (!b))) ρ
   |_=>.stuck,λρ=>((den cf mt a).b ρ).bind λb ρ=>.ok (!b) ρ⟩
 |.ite c a b=>⟨λρ=>((den cf mt c).b ρ).bind λx ρ=>if x then(den cf mt a).v ρ else(den cf mt b).v ρ,λρ=>((den cf mt c).b ρ).bind λx ρ=>if x then(den cf mt a).b ρ else(den cf mt b).b ρ⟩
 |.call f ts=>Sm.of (.tup []) λρ=>(A8 cf mt ts ρ).bind λhs ρ=>Aq cf f hs ρ
 | .Au m o ts=>Sm.of (.tup []) λρ=>match o with
   | .var i=>match A6 ρ i with
     | some (.obj c fs)=>match fs.lookup m,mt.m c m with
       |none,some f=>(A8 cf mt ts ρ).bind λhs ρ=>Aq cf f (.slot i::hs) ρ
       |_,_=>.stuck
     |_=>.stuck
   |_=>.stuck
 | .make c ts=>Sm.of (.tup []) λρ=>match mt.m c (Str.ofString "__init__")with
   |some f=>(A8 cf mt ts ρ).bind λhs ρ=>FJ cf f c hs ρ
   |none=>.stuck
 | .FX i ts=>Sm.of (.tup []) λρ=>match A6 ρ i with
   |some (.b (.p (.fn n)))=>if mt.tf n then(A8 cf mt ts ρ).bind λhs ρ=>Aq cf n hs ρ else .stuck
   |_=>.stuck
 | .BH i=>Sm.of (.tup []) λρ=>match A6 ρ i,A6 ρ 0 with
   |some (.b (.p (.fn n))),some (.obj c _)=>if n < Co\/c < 1000 then .stuck else Aq cf (Ez n) (.slot 0::Js n) ρ
   |_,_=>.stuck
 |.C4 m i l CU=>Sm.of (.tup []) λρ=>Fp cf mt m i l CU ρ
 |.comp g k its cond elt fr=>Sm.of (.tup []) λρ=>if k.ok then(A8 cf mt its ρ).bind λhs ρ=>Ib k g fr (Ew cf mt cond) (den cf mt elt).v hs ρ else .stuck
noncomputable def Bd (cf:CF) (mt:MT):List T->Env->Res (List P)
 |[],ρ=>.ok [] ρ
 | t::ts,ρ=>((den cf mt t).v ρ).bind λc ρ=>match c with
   |.b (.p x)=>(Bd cf mt ts ρ).bind λxs ρ=>.ok (x::xs) ρ
   |_=>.stuck
noncomputable def A8 (cf:CF) (mt:MT):List T->Env->Res (List Hd)
 |[],ρ=>.ok [] ρ
 | t::ts,ρ=>(Bn t (den cf mt t).v ρ).bind λh ρ=>match h with
   |.fld i f=>if ts.all T.calm then(A8 cf mt ts ρ).bind λhs ρ=>.ok (.fld i f::hs) ρ else .stuck
   |h=>(A8 cf mt ts ρ).bind λhs ρ=>.ok (h::hs) ρ
noncomputable def Ew (cf:CF) (mt:MT):List T->Env->Res Bool
 |[],ρ=>.ok true ρ
 |t::_,ρ=>(den cf mt t).b ρ
end
abbrev ev(cf:CF)(mt:MT)(t:T):Env->Res C:=(den cf mt t).v
abbrev tv(cf:CF)(mt:MT)(t:T):Env->Res Bool:=(den cf mt t).b
abbrev WH:=(Env->Res Bool)->(Env->Res Fl)->Env->Res Fl
noncomputable def Al(c:Env->Res Bool)(b:Env->Res Fl):Nat->Env->Res Fl
 |0,_=>.stuck
 | n + 1,ρ=>(c ρ).bind λx ρ=>if x then(b ρ).bind λf ρ=>match f with
     |.nx=>Al c b n ρ
     |.cnt=>Al c b n ρ
     |.brk=>.ok .nx ρ
     |.ret r=>.ok (.ret r) ρ
   else .ok .nx ρ
noncomputable def forL(g:Tg)(gs:List (Nat×C))(b:Env->Res Fl):List P->Env->Res Fl
 |[],ρ=>if holds gs ρ then .ok .nx ρ else .stuck
 | x ::xs,ρ=>if holds gs ρ then(Res.of (EM g x ρ) ρ).bind λρ1 _=>(b ρ1).bind λf ρ=>match f with
     |.nx=>forL g gs b xs ρ
     |.cnt=>forL g gs b xs ρ
     |.brk=>.ok .nx ρ
     |.ret r=>.ok (.ret r) ρ
   else .stuck
noncomputable def Jk(k:IK)(g:Tg)(bs:List Nat)(B:Env->Res Fl)(hs:List Hd)(ρ:Env):Res Fl:=match A9 ρ hs with
 | some cs=>match Ap k cs with
   |some xs=>if An hs cs && (guards hs cs).all (λq=>!(g.slots++bs).contains q.1)then forL g (guards hs cs) B xs ρ else .stuck
   |none=>.stuck
 |none=>.stuck
noncomputable def Hw(g:Tg)(c:C)(ρ:Env):Option Env:=match g,c with
 |.nm i,c=>some (ρ.set i (some c))
 |.tup is,.b (.p (.tup vs))=>EM (.tup is) (.tup vs) ρ
 |_,_=>none
mutual
noncomputable def DG:S->List Nat
 |.asg g _=>g.slots
 |.ifs _ a b=>B8 a++B8 b
 |.Mj _ b=>B8 b
 |.Ca g _ _ b=>g.slots++B8 b
 |.SG i _ _ _ g e=>[i,g,e]
 |_=>[]
noncomputable def B8:List S->List Nat
 |[]=>[]
 |s::ss=>DG s++B8 ss
end
noncomputable def KD(cf:CF)(i f c g e:Nat)(hs:List Hd)(ρ:Env):Res Fl:=match A9 ρ hs with
 |none=>.stuck
 | some cs=>if(Bw hs cs).Nodup/\An hs cs=true then
    match cf f cs with
    |.stuck=>.stuck
    |.ok r outs=>(Res.of (back (lend ρ hs cs) hs cs outs) ρ).bind λρ' _=>.ok .nx (ρ'.set i (some r))
    |.err x _=>if x=c then .ok .nx (((lend ρ hs cs).set g (some (.p (.bl true)))).set e none)else .stuck
   else .stuck
mutual
noncomputable def exec (cf:CF) (mt:MT) (wh:WH):S->Env->Res Fl
 | .asg g t,ρ=>match g with
   |.nm i=>(ev cf mt t ρ).bind λc ρ=>.ok .nx (ρ.set i (some c))
   |.tup is=>(Bn t (ev cf mt t) ρ).bind λh ρ=>Res.of ((h.cont ρ).bind λc=>Hw (.tup is) c ρ) ρ |>.bind λρ' _=>.ok .nx ρ'
 | .gS o i v,ρ=>match placeOf o with
   |some h=>if !h.F0 || i.calm then(ev cf mt v ρ).bind λv ρ=>bH h (ev cf mt i) v ρ else .stuck
   |none=>.stuck
 |.Gn i f v,ρ=>(ev cf mt v ρ).bind λv ρ=>Hx mt i f v ρ
 |.expr t,ρ=>(ev cf mt t ρ).bind λ_ ρ=>.ok .nx ρ
 |.ret none,ρ=>.ok (.ret (.p .Ai)) ρ
 |.ret (some t),ρ=>(ev cf mt t ρ).bind λc ρ=>.ok (.ret c) ρ
 |.ifs c a b,ρ=>(tv cf mt c ρ).bind λx ρ=>if x then execs cf mt wh a ρ else execs cf mt wh b ρ
 |.Mj c b,ρ=>wh (tv cf mt c) (execs cf mt wh b) ρ
 |.Ca g k its b,ρ=>if k.ok then(A8 cf mt its ρ).bind (Jk k g (B8 b) (execs cf mt wh b))else .stuck
 |.brk,ρ=>.ok .brk ρ
 |.cnt,ρ=>.ok .cnt ρ
 |.pass,ρ=>.ok .nx ρ
 |.raise x,ρ=>if mt.rs then .err x .Ai ρ else .stuck
 |.SG i f ts c g e,ρ=>if mt.rs && ts.all T.calm then(A8 cf mt ts ρ).bind (KD cf i f c g e)else .stuck
noncomputable def execs (cf:CF) (mt:MT) (wh:WH):List S->Env->Res Fl
 |[],ρ=>.ok .nx ρ
 | s::ss,ρ=>(exec cf mt wh s ρ).bind λf ρ=>match f with
   |.nx=>execs cf mt wh ss ρ
   |f=>.ok f ρ
end
structure EC where
 np:Nat
 nl:Nat
 body:List S
 deriving Inhabited
noncomputable def D7(fi:EC)(ρ:Env):List (Option C):=(List.range fi.np).map λi=>if(B8 fi.body).contains i then none else A6 ρ i
noncomputable def D4(cf:CF)(mt:MT)(wh:WH)(fi:EC)(args:List C):CR:=
 if args.length=fi.np then match execs cf mt wh fi.body (args.map some++List.replicate (fi.nl - fi.np) none)with
  |.ok .nx ρ=>.ok (.p .Ai) (D7 fi ρ)
  |.ok (.ret c) ρ=>.ok c (D7 fi ρ)
  |.err x p _=>if mt.rs then .err x p else .stuck
  |_=>.stuck
 else .stuck
noncomputable def A0(fns:List EC)(mt:MT)(wh:WH):Nat->CF
 |0,_,_=>.stuck
 | k + 1,f,args=>match fns[f]? with
   |some fi=>D4 (A0 fns mt wh k) mt wh fi args
   |none=>.stuck
structure Ct where
 N:List Str
 sc:Scope
 fns:List (Str×Nat)
 cls:List (Str×Nat)
 gl:List (Str×P)
 sub:List (Str×List Nat)
 df:Bool
 QD:List (Pos×Nat×EC)
 cv:Bool
noncomputable def Gy(x:Str):Bool:=!(x == ("__debug__":Str)) && !(x == ("__classdict__":Str)) && decide (x≠"__name__")
def seen:Option NameKind->Bool
 |some .local=>true
 |some .cell=>true
 |some .free=>true
 |_=>false
noncomputable def Ct.slot(ct:Ct)(x:Str):Option Nat:=if Gy x && seen (ct.sc.names.lookup x)then ct.N.idxOf? x else none
def bound(df:Bool):Option NameKind->Bool
 |some .local=>true
 |some .cell=>df
 |_=>false
noncomputable def Ct.Bj(ct:Ct)(x:Str):Option Nat:=if Gy x && bound ct.df (ct.sc.names.lookup x)then ct.N.idxOf? x else none
def Ct.glob(ct:Ct)(x:Str):Bool:=Gy x && decide (ct.sc.names.lookup x=some .globalImplicit)
noncomputable def Ct.name(ct:Ct)(x:Str):Option T:=match ct.slot x with
 |some i=>some (.var i)
 | none=>if ct.glob x then(match ct.gl.lookup x with
   |some p=>some (.cst p)
   |none=>(ct.fns.lookup x).bind λn=>if n < Co then some (.cst (.fn n))else none)else none
noncomputable def Jv:List Str:=["len","list","tuple","dict","sum","all","any","sorted","abs","str","int","bool","range","enumerate","reversed","set","min","max","zip","isinstance","ValueError"]
noncomputable def Ct.own(ct:Ct)(x:Str):Bool:=ct.glob x && Jv.contains x && (ct.gl.lookup x).isNone && (ct.fns.lookup x).isNone && (ct.cls.lookup x).isNone
noncomputable def kA:Operator->Option O
 |.Add=>some .add| .Sub=>some .sub| .Mult=>some .mul| .Mod=>some .mod| .FloorDiv=>some .fdiv| .Pow=>some .pow
 |.BitAnd=>some .band| .RShift=>some .shr|_=>none
noncomputable def Um:CmpOp->O
 |.Eq=>.eq| .NotEq=>.ne| .Lt=>.lt| .LtE=>.le| .Gt=>.gt| .GtE=>.ge| .Is=>.is| .IsNot=>.Sz| .In=>.aD| .NotIn=>.fX
def AW:T->IK×List T
 |.prim (.iter k) ts=>(k,ts)
 |t=>(.op,[t])
noncomputable def tyName(x:Str):Option Ty:=
 if x="int" then some .int else if x="bool" then some .bool else if x="str" then some .str else if x="tuple" then some .tuple
 else none
def OT:T->Option T
 |.prim (.iter _) _=>none
 |t=>some (.prim (.tuple .op) [t])
noncomputable def gv(x:Str)(ts:List T):Option T:=match ts with
 |[t]=>
   if x="len" then some (.prim .len [t])
   else if x="tuple" then OT t
   else if x="all" then some (.prim .all [t])
   else if x="str" then some (.prim .str [t])
   else if x="int" then some (.prim .int [t])else if x="range" then some (.prim (.iter .BZ) [t])
   else if x="reversed" then some (.prim (.iter .rev) [t])else none
 |[t,u]=>if x="min" then some (.prim .min [t,u])else none
 |[t,u,v]=>if x="range" then some (.prim (.iter .BZ) [t,u,v])else none
 |_=>none
noncomputable def jl(m:Str)(o:T)(ts:List T):Option T:=match ts with
 |[]=>if m="pop" then some (.CY .pop o [])else none
 |[t]=>if m="append" then some (.CY .append o [t])else if m="extend" then some (.CY .extend o [t])else none
 |[t,u]=>if m="startswith" then(if o.calm && t.calm && u.calm then some (.prim .sw [o,t,u])else none)else if m="get" then(if o.calm && t.calm && u.calm then some (.prim .Ot [o,t,u])else none)else none
 |_=>none
noncomputable def Oi(ct:Ct):List Expr->Option (List Nat)
 |[]=>some []
 |.Name x _::es=>(ct.Bj x).bind λi=>(Oi ct es).map λis=>i::is
 |_::_=>none
noncomputable def Wg(ct:Ct):Expr->Option Tg
 |.Name x _=>(ct.Bj x).map .nm
 |.Tuple es _ _=>(Oi ct es).map .tup
 |_=>none
noncomputable def Wj(ct:Ct)(x:Str)(ts:List T):Option T:=match ct.fns.lookup x with
 |some f=>some (.call f ts)
 |none=>(ct.cls.lookup x).map λc=>.make c ts
noncomputable def Ct.block(ct:Ct)(sc:Scope):Ct×List (Option Nat):=
 let own:=(sc.names.filter λq=>q.2 == .local).map (·.1)
 let free:=(sc.names.filter λq=>q.2 == .free).map (·.1)
 ({ct with N:=own++free,sc:=sc,df:=false,QD:=[]},own.map (λ_=>none)++free.map λx=>ct.N.idxOf? x)
noncomputable def RG(N0:List Str)(sc0:Scope)(N:List Str)(scope:Scope)(fr:List (Option Nat)):Bool:=
 (scope.kind == .function) && scope.names.all (λy=>y.2 != .cell) && scope.names.all (λy=>y.2 != .local || scope.names.lookup y.1 == some .local) &&
 scope.names.all (λy=>y.2 != .free || sc0.names.lookup y.1 == some .cell || sc0.names.lookup y.1 == some .free) && (fr.length == N.length) &&
 (List.range fr.length).all λj=>match fr[j]? with
  |some (some i)=>(N[j]? == N0[i]?) && (match N[j]? with|some x=>scope.names.lookup x == some .free|none=>false)
  |_=>true
noncomputable def kM(m:Str)(o:T)(ts:List T):Option T:=match jl m o ts with
 |some z=>some z
 |none=>some (.Au m o ts)
noncomputable def OH(m:Str)(n:Nat)(apos pos:Pos):Bool:=(apos.endLine == pos.line) && decide (n < 29) && decide (m≠Str.ofString "__init__")
def MW(x y:T):T:=match x with
 |.fld i f=>if y.calm then .fld i f else .prim .id [.fld i f]
 |x=>x
noncomputable def AX(sc:Scope):List Str:=Str.ofString "self"::((sc.names.filter λq=>q.2 == .free).map (·.1)).filter λx=>decide (x≠Str.ofString "self")
noncomputable def HZ(sc:Scope)(fn cl:List (Str×Nat))(gl:List (Str×P)):Ct:=⟨AX sc,sc,fn,cl,gl,[],false,[],false⟩
noncomputable def MU(sc0 sc:Scope):Bool:=(sc.kind == .function) && !sc.isCoroutine && !sc.isGenerator && sc.names.all (λy=>y.2 != .cell && y.2 != .local) &&
 sc.names.all (λy=>y.2 != .free || sc0.names.lookup y.1 == some .cell || sc0.names.lookup y.1 == some .free) && decide ((AX sc).Nodup) && (AX sc).all λx=>sc.names.lookup x == some .free
noncomputable def G4(n:Nat)(t:T)(fi:EC):Bool:=match fi.body with
 |[.ret (some u)]=>T.same t u && decide (fi.np=n) && decide (fi.nl=n)
 |_=>false
noncomputable def GG(ct:Ct)(sc:Scope):Option (Option Nat):=match((sc.names.filter λq=>q.2 == .free).map (·.1)).filter λx=>decide (x≠Str.ofString "self")with
 |[]=>some none
 |[x]=>(ct.slot x).map some
 |_=>none
noncomputable def noArgs(a:Arguments):Bool:=a.posonlyargs.isEmpty && a.args.isEmpty && a.vararg.isNone && a.kwonlyargs.isEmpty && a.kwarg.isNone && a.defaults.isEmpty && a.kw_defaults.isEmpty
def YK:Expr->T->T
 |.List _ _,.lst ts=>.Dl ts
 |_,t=>t
def Dk:List Expr->List T->List T
 |e::es,t::ts=>YK e t::Dk es ts
 |_,_=>[]
noncomputable def QM(ks:List (Option Expr))(vs:List Expr)(ts:Option (List T)):Option T:=match ks,vs with
 |[some (.Constant (.int a) _ _),some (.Constant (.int b) _ _)],[_,_]=>ts.map (.OJ a b)
 |_,_=>none
noncomputable def gK(ct:Ct)(y:Str)(t:T):Option T:=(if ct.own y then tyName y else(ct.sub.lookup y).map .cls).map λk=>.prim (.Ft k) [t]
def dy(ct:Ct)(o:Option T):List Expr->Option T
 |[_,.Name y _]=>o.bind (gK ct y)
 |_=>none
noncomputable def kN(ct:Ct)(x:Str)(ts:List T):Option T:=match ct.slot x with
 |some i=>if ts.isEmpty then(if ct.cv then some (.BH i)else none)else some (.FX i ts)
 |none=>if ct.glob x then Wj ct x ts else none
mutual
noncomputable def kE (ct:Ct):Expr->Option T
 | .Constant c _ _=>match c with
   |.none=>some (.cst .Ai)
   |.bool b=>some (.cst (.bl b))
   |.int i=>some (.cst (.int i))
   |.str x=>some (.cst (.str x))
   |_=>none
 |.Name x _=>ct.name x
 |.Attribute (.Name x _) f _=>(ct.slot x).map λi=>.fld i f
 |.Tuple es _ _=>(Je ct es).map .tup
 |.List es _=>(Je ct es).map λts=>.lst (Dk es ts)
 |.Dict ks vs _=>QM ks vs (Je ct vs)
 |.BinOp a op b _=>(kA op).bind λo=>(kE ct a).bind λx=>(kE ct b).map λy=>.prim o [MW x y,y]
 |.UnaryOp .Not a _=>(kE ct a).map .not
 |.UnaryOp .USub a _=>(kE ct a).map λx=>.prim .neg [x]
 |.BoolOp op es _=>if 2<=es.length then kB ct op es else none
 |.Compare a [op] [b] _=>(kE ct a).bind λx=>(kE ct b).map λy=>.prim (Um op) [MW x y,y]
 | .Compare a [o1,o2] [b,c] _=>(kE ct a).bind λx=>(kE ct b).bind λy=>(kE ct c).bind λz=>match z with
   |.cst p=>if Fd p then some (.prim (.chain (Um o1) (Um o2)) [x,y,.cst p])else none
   |_=>none
 |.Subscript v (.Slice lo hi none _) _=>(kE ct v).bind λx=>(kO ct lo).bind λl=>(kO ct hi).map λh=>.prim (.Cy (!l.isEmpty) (!h.isEmpty)) (x::(l++h))
 |.Subscript v i _=>(kE ct v).bind λx=>(kE ct i).map λy=>.prim .idx [x,y]
 |.ListComp elt [⟨tg,it,ifs,ia⟩] sc _=>(kE ct it).bind λx=>(Wg (ct.block sc).1 tg).bind λg=>(Je (ct.block sc).1 ifs).bind λcs=>(kE (ct.block sc).1 elt).bind λe=>
  if decide (ia=0) && decide (cs.length<=1) && RG ct.N ct.sc (ct.block sc).1.N sc (ct.block sc).2 && decide ((ct.block sc).1.N.Nodup)then some (.comp g (AW x).1 (AW x).2 cs e (ct.block sc).2)else none
 |.Call (.Name x _) args [] _=>
   if ct.own x then(if x="isinstance" then dy ct (jZ ct args) args else(Je ct args).bind (gv x))else(Je ct args).bind (kN ct x)
 |.Call (.Attribute (.Name x _) m apos) [.Lambda a b sc lp] [] pos=>if OH m 1 apos pos && noArgs a && MU ct.sc sc && ct.df && decide (x=Str.ofString "self")then(ct.slot x).bind λi=>(ct.QD.lookup lp).bind λq=>(GG ct sc).bind λc=>
  (kE (HZ sc ct.fns ct.cls ct.gl) b).bind λt=>if G4 (AX sc).length t q.2 && decide (q.1 < 1000)then some (.C4 m i q.1 c)else none else none
 |.Call (.Attribute (.Name x _) m apos) args [] pos=>if OH m args.length apos pos then(ct.slot x).bind λi=>(Je ct args).bind (kM m (.var i))else none
 |.Call (.Attribute (.Attribute (.Name x _) f _) m apos) args [] pos=>if OH m args.length apos pos then(ct.slot x).bind λi=>(Je ct args).bind (kM m (.fld i f))else none
 |.Call (.Attribute (.Constant (.str z) _ _) m apos) [a] [] pos=>if m="join"/\OH m 1 apos pos=true then(kE ct a).map λt=>.prim (.join z) [t]else none
 |.Call (.Attribute (.Call _ _ _ _) _ _) _ [] _=>some (.prim .YA [])
 |_=>none
noncomputable def jZ (ct:Ct):List Expr->Option T
 |[]=>none
 |e::_=>kE ct e
noncomputable def Je (ct:Ct):List Expr->Option (List T)
 |[]=>some []
 |e::es=>(kE ct e).bind λt=>(Je ct es).map λts=>t::ts
noncomputable def kO (ct:Ct):Option Expr->Option (List T)
 |none=>some []
 |some e=>(kE ct e).map λt=>[t]
noncomputable def kB (ct:Ct) (op:PySem.BoolOp):List Expr->Option T
 |[]=>none
 |[e]=>kE ct e
 |e::es=>(kE ct e).bind λx=>(kB ct op es).map λy=>match op with| .And=>.and x y| .Or=>.or x y
end
def LR:Expr->Bool
 |.Tuple _ _ _=>true
 |_=>false
noncomputable def B5:Expr->Bool
 |.ListComp _ _ _ _=>true
 |.SetComp _ _ _ _=>true
 |.DictComp _ _ _ _ _=>true
 |_=>false
def Y9:Str:="NoWords"
noncomputable def LN(ct:Ct):Option Expr->Option Expr->Option S
 |some (.Call (.Name x _) [.Constant .none _ _] [] _),none=>if ct.glob x && decide (x=Y9)then(ct.cls.lookup x).map .raise else none
 |_,_=>none
def RK:Stmt->Option (Str×Expr)
 |.Assign [.Name g _] e _=>some (g,e)
 |_=>none
def V8:Expr->Option (List Expr)
 |.BoolOp .And es _=>some es
 |_=>none
def cW:Expr->Option Str
 |.Name x _=>some x
 |_=>none
def dE:Expr->Option (Str×Str×Expr)
 |.Call (.Name i _) [.Name e _,t] [] _=>some (i,e,t)
 |_=>none
noncomputable def j7:Expr->Option (Str×Str)
 |.Compare (.Attribute (.Name e _) p _) [.Is] [.Constant .none _ _] _=>some (e,p)
 |_=>none
def j8:Expr->Option Expr
 |.UnaryOp .Not e _=>some e
 |_=>none
noncomputable def X0:Expr->Option (Str×Str×Str)
 |.Tuple [.Name a _,.Name b _,.Name c _] _ _=>some (a,b,c)
 |_=>none
def Rz:Expr->Option (Str×Expr)
 |.Call (.Name f _) [a] [] _=>some (f,a)
 |_=>none
noncomputable def YE:ExceptHandler->Option (Str×Str×List Stmt)
 |.ExceptHandler (some (.Name d _)) (some en) b _=>some (d,en,b)
 |_=>none
noncomputable def dz(en g g2:Str):List Expr->List Expr->Option (Str×List Str)
 |[a,b,c],[d,e]=>(dE a).bind λqa=>(dE b).bind λqb=>(j7 c).bind λqc=>(cW d).bind λg3=>(j8 e).bind λf=>(dE f).bind λqe=>(cW qa.2.2).bind λnw=>(cW qb.2.2).bind λve=>(X0 qe.2.2).bind λms=>
   if qa.1="isinstance"/\qb.1=qa.1/\qe.1=qa.1/\qa.2.1=en/\qb.2.1=en/\qc.1=en/\qe.2.1=en/\nw=Y9/\ve="ValueError"/\qc.2="place"/\g2=g/\g3=g/\ms.1="NoProgram"/\ms.2.1="NoSuch"/\ms.2.2="Twice" then some (g,[qa.1,nw,ve,ms.1,ms.2.1,ms.2.2])else none
 |_,_=>none
noncomputable def jY(en:Str):List Stmt->Option (Str×List Str)
 |[s,t]=>(RK s).bind λa=>(RK t).bind λb=>(V8 a.2).bind λl=>(V8 b.2).bind λm=>dz en a.1 b.1 l m
 |_=>none
def jX(ct:Ct)(x:Str):Bool:=decide (ct.sc.names.lookup x=some .local)
noncomputable def Wf(ct:Ct)(y f:Str)(a:Expr)(d en:Str)(b:List Stmt):Option S:=
    (jY en b).bind λq=>if ct.df && jX ct en && jX ct q.1 && ct.glob d && decide (d="DeedsError") && q.2.all ct.glob && ct.own "isinstance" && ct.own "ValueError" && ct.glob f then
     (ct.Bj y).bind λi=>(ct.Bj q.1).bind λg=>(ct.Bj en).bind λe=>(ct.fns.lookup f).bind λn=>(ct.cls.lookup Y9).bind λc=>(ct.cls.lookup ("DeedsError":Str)).bind λ_=>(ct.cls.lookup ("NoProgram":Str)).bind λ_=>(ct.cls.lookup ("NoSuch":Str)).bind λ_=>(ct.cls.lookup ("Twice":Str)).bind λ_=>(Je ct [a]).bind λts=>if ts.all T.calm && decide (g≠e)then some (.SG i n ts c g e)else none else none
noncomputable def Ys(ct:Ct):List Stmt->List ExceptHandler->List Stmt->List Stmt->Option S
 |[s],[h],[],[]=>(RK s).bind λsa=>(Rz sa.2).bind λsc=>(YE h).bind λsh=>Wf ct sa.1 sc.1 sc.2 sh.1 sh.2.1 sh.2.2
 |_,_,_,_=>none
mutual
noncomputable def kS (ct:Ct):Stmt->Option S
 | .Assign [tg] e _=>(kE ct e).bind λt=>match tg with
   |.Name x _=>(ct.Bj x).map λi=>.asg (.nm i) t
   |.Tuple es k p=>if LR e then none else(Wg ct (.Tuple es k p)).map λg=>.asg g t
   |.Attribute (.Name x _) f _=>(ct.slot x).map λi=>.Gn i f t
   |_=>none
 |.Expr (.Constant (.str _) _ _) _=>some .pass
 |.Expr e _=>if B5 e then none else(kE ct e).map .expr
 |.Return none _=>some (.ret none)
 |.Return (some e) _=>(kE ct e).map λt=>.ret (some t)
 |.If c a b _=>(kE ct c).bind λt=>(QL ct a).bind λx=>(QL ct b).map λy=>.ifs t x y
 |.While c b [] _=>(kE ct c).bind λt=>(QL ct b).map λx=>.Mj t x
 |.For tg it b [] _=>(Wg ct tg).bind λg=>(kE ct it).bind λt=>(QL ct b).map λx=>.Ca g (AW t).1 (AW t).2 x
 |.Break _=>some .brk
 |.Continue _=>some .cnt
 |.Pass _=>some .pass
 |.Raise e c _=>LN ct e c
 |.Try b h o f _=>Ys ct b h o f
 |_=>none
noncomputable def QL (ct:Ct):List Stmt->Option (List S)
 |[]=>some []
 |s::ss=>(kS ct s).bind λt=>(QL ct ss).map λts=>t::ts
end
mutual
noncomputable def Rp:Expr->Option P
 | .Constant c _ _=>match c with
   |.none=>some .Ai
   |.bool b=>some (.bl b)
   |.int i=>some (.int i)
   |.str x=>some (.str x)
   |_=>none
 |.Tuple es _ _=>(N7 es).map .tup
 |_=>none
noncomputable def N7:List Expr->Option (List P)
 |[]=>some []
 |e::es=>(Rp e).bind λp=>(N7 es).map λps=>p::ps
end
def eC:Stmt->Str
 |.FunctionDef n ..=>n
 |_=>⟨#[]⟩
def Jo:Stmt->Scope
 |.FunctionDef _ _ _ _ _ _ sc ..=>sc
 |_=>⟨.module,[],false,false,[]⟩
def N6:Stmt->List Stmt
 |.FunctionDef _ _ b ..=>b
 |_=>[]
def Ee:Stmt->List Str
 |.FunctionDef _ a ..=>a.args.map (·.arg)
 |_=>[]
def dC:Stmt->Bool
 |.FunctionDef ..=>true
 |_=>false
noncomputable def N8:List Stmt->List (Str×List Str×List Stmt)
 |[]=>[]
 |.ClassDef n bs _ b .. ::r=>(n,bs.filterMap (λ(e:Expr)=>match e with| .Name x _=>some x|_=>none),b.filter dC)::N8 r
 |_::r=>N8 r
noncomputable def YH:List Stmt->List (Str×P)
 |[]=>[]
 | .Assign [.Name x _] e _::r=>match Rp e with
   |some p=>(x,p)::YH r
   |none=>YH r
 |_::r=>YH r
noncomputable def namesOf(st:Stmt):List Str:=
 let ps:=Ee st
 ps++((Jo st).names.filter λq=>(q.2 == .local || q.2 == .cell) && !ps.contains q.1).map (·.1)
noncomputable def UR(st:Stmt)(fn cl:List (Str×Nat))(gl:List (Str×P))(sub:List (Str×List Nat))(lm:List (Pos×Nat×EC)):Ct:=⟨namesOf st,Jo st,fn,cl,gl,sub,true,lm,decide (eC st=Str.ofString "few")⟩
noncomputable def iR(e:Expr)(sc:Scope)(fn cl:List (Str×Nat))(gl:List (Str×P)):Option EC:=(kE (HZ sc fn cl gl) e).map λt=>⟨(AX sc).length,(AX sc).length,[.ret (some t)]⟩
noncomputable def dw:Expr->List (Pos×Expr×Scope)
 |.Call (.Attribute (.Name _ _) _ _) [.Lambda _ b sc p] _ _=>[(p,b,sc)]
 |_=>[]
def iQ:Stmt->List (Pos×Expr×Scope)
 |.Assign _ e _=>dw e
 |.Return (some e) _=>dw e
 |_=>[]
def gf(st:Stmt)(ct:Ct):Option EC:=(QL ct (N6 st)).map λb=>⟨(Ee st).length,ct.N.length,b⟩
end Iv
namespace Iv
open PySem L2
structure Wd where
 K:PySem.W.Frag
 w:World
 B7:Nat->Addr
 C2:Nat->Addr
 ok:Nat->Bool
 NB:Addr
 tabs:List (Addr×Pos×Str)
 aO:List (Addr×Str)
def fN(H:Hp)(a:Addr)(o:Obj)(t:Nat)(vs:List V):Prop:=(t=0/\H a=some (.Dl o (.lst vs)))\/(t=1/\∃k1 v1 k2 v2,vs=[.int k1,v1,.int k2,v2]/\k1≠k2/\H a=some (.Dl o (.dK [(.inl k1,v1),(.inl k2,v2)])))
mutual
noncomputable def Aw (W:Wd) (H:Hp):P->V->Prop
 |.Ai,v=>v= .Ai
 |.bl b,v=>v= .bl b
 |.int i,v=>v= .int i
 |.str x,v=>v= .str x
 |.fn i,v=>v= .ref (W.C2 i)/\(i < Co\/W.ok i=true)
 |.tup ps,v=>∃a vs,v= .ref a/\ED W.K H a vs/\A3 W H ps vs
 |.box t ps,v=>∃a o vs,v= .ref a/\A3 W H ps vs/\fN H a o t vs
noncomputable def A3 (W:Wd) (H:Hp):List P->List V->Prop
 |[],vs=>vs=[]
 |p::ps,vs=>∃v r,vs=v::r/\Aw W H p v/\A3 W H ps r
end
def AE(H H':Hp):Prop:=∀a,(∀xs,H a=some (.tup xs)->H' a=some (.tup xs))/\∀o u,H a=some (.Dl o u)->H' a=some (.Dl o u)
variable{H H1 H2:Hp}
theorem AE.trans(a:AE H H1)(b:AE H1 H2):AE H H2:=λc=>⟨λxs h=>(b c).1 xs ((a c).1 xs h),λo u h=>(b c).2 o u ((a c).2 o u h)⟩
variable{H':Hp}
theorem AE.of(h:Bp H H'):AE H H':=λa=>⟨λ_ q=>h a _ q,λ_ _ q=>h a _ q⟩
variable{xs:List V}
theorem AE.kx{K:PySem.W.Frag}(k:AE H H')(h:ED K H a xs):ED K H' a xs:=by
 rcases h with(h|⟨o,h⟩)|h
 .exact .inl (.inl ((k a).1 _ h))
 .exact .inl (.inr ⟨o,(k a).2 _ _ h⟩)
 .exact .inr h
variable{vs:List V}
theorem fN.mono{o:Obj}{t:Nat}(k:AE H H')(h:fN H a o t vs):fN H' a o t vs:=by
 rcases h with⟨h1,h2⟩|⟨h1,k1,v1,k2,v2,h2,h3,h4⟩
 .exact .inl ⟨h1,(k a).2 _ _ h2⟩
 .exact .inr ⟨h1,k1,v1,k2,v2,h2,h3,(k a).2 _ _ h4⟩
mutual
theorem Aw.mono {W:Wd} {H H':Hp} (k:AE H H'):∀{p:P} {v:V},Aw W H p v->Aw W H' p v
 |.Ai,_,h=>h
 |.bl _,_,h=>h
 |.int _,_,h=>h
 |.str _,_,h=>h
 |.fn _,_,h=>h
 | .box t ps,v,h=>by
   unfold Aw at h ⊢;obtain⟨a,o,vs,e,h1,h2⟩:=h;exact⟨a,o,vs,e,A3.mono k h1,h2.mono k⟩
 | .tup ps,v,h=>by
   unfold Aw at h ⊢;obtain⟨a,vs,e,h1,h2⟩:=h;exact⟨a,vs,e,k.kx h1,A3.mono k h2⟩
theorem A3.mono {W:Wd} {H H':Hp} (k:AE H H'):∀{ps:List P} {vs:List V},A3 W H ps vs->A3 W H' ps vs
 |[],_,h=>h
 | p::ps,vs,h=>by
   unfold A3 at h ⊢;obtain⟨v,r,e,h1,h2⟩:=h;exact⟨v,r,e,Aw.mono k h1,A3.mono k h2⟩
end
variable{W:Wd}
theorem A3.nil:A3 W H [] []:=by unfold A3;rfl
theorem A3.cons{W:Wd}{H:Hp}{ps:List P}{vs:List V}(h:Aw W H p v)(t:A3 W H ps vs):A3 W H (p::ps) (v::vs):=by unfold A3;exact⟨v,vs,rfl,h,t⟩
theorem A3.Gd{p:P}{v:V}{ps:List P}(h:A3 W H (p::ps) (v::vs)):Aw W H p v/\A3 W H ps vs:=by
 unfold A3 at h;obtain⟨_,_,e,h1,h2⟩:=h;cases e;exact⟨h1,h2⟩
theorem A3.length:∀{ps:List P} {vs:List V},A3 W H ps vs->vs.length=ps.length
 | [],vs,h=>by
   unfold A3 at h;rw[h];rfl
 | p::ps,vs,h=>by
   unfold A3 at h;obtain⟨v,r,e,_,h2⟩:=h;rw[e,lC,lC,A3.length h2]
theorem A3.append{qs:List P}{ws:List V}(k:A3 W H qs ws):∀{ps:List P} {vs:List V},A3 W H ps vs->A3 W H (ps++qs) (vs++ws)
 | [],vs,h=>by
   unfold A3 at h;rw[h];exact k
 | p::ps,vs,h=>by
   unfold A3 at h;obtain⟨v,r,e,h1,h2⟩:=h;rw[e];exact .cons h1 (A3.append k h2)
theorem A3.get:∀{ps:List P} {vs:List V} {i:Nat} {p:P},A3 W H ps vs->ps[i]? =some p->∃v,vs[i]? =some v/\Aw W H p v
 |[],vs,i,p,_,e=>by simp at e
 | q ::ps,vs,i,p,h,e=>by
   unfold A3 at h;obtain⟨v,r,e',h1,h2⟩:=h;subst e';cases i with
   |zero=>
     simp at e;subst e;exact⟨v,rfl,h1⟩
   |succ i=>
     obtain⟨u,g1,g2⟩:=A3.get (i:=i) h2 (by simpa using e);exact⟨u,by simpa using g1,g2⟩
theorem A3.get':∀{ps:List P} {vs:List V} {i:Nat} {v:V},A3 W H ps vs->vs[i]? =some v->∃p,ps[i]? =some p/\Aw W H p v
 | [],vs,i,p,h,e=>by
   unfold A3 at h;rw[h]at e;simp at e
 | q ::ps,vs,i,p,h,e=>by
   unfold A3 at h;obtain⟨v,r,e',h1,h2⟩:=h;subst e';cases i with
   |zero=>
     simp at e;subst e;exact⟨q,rfl,h1⟩
   |succ i=>
     obtain⟨u,g1,g2⟩:=A3.get' (i:=i) h2 (by simpa using e);exact⟨u,by simpa using g1,g2⟩
theorem A3.drop{ps:List P}(h:A3 W H ps vs)(n:Nat):A3 W H (ps.drop n) (vs.drop n):=by
 induction n generalizing ps vs with
 |zero=>exact h
 |succ n ih=>
   cases ps with
   |nil=>unfold A3 at h;rw[h];simp;exact .nil
   |cons p ps=>
     cases vs with
     |nil=>unfold A3 at h;obtain⟨_,_,e,_⟩:=h;cases e
     |cons v vs=>exact ih h.Gd.2
theorem A3.take{ps:List P}(h:A3 W H ps vs)(n:Nat):A3 W H (ps.take n) (vs.take n):=by
 induction n generalizing ps vs with
 |zero=>simp;exact .nil
 |succ n ih=>
   cases ps with
   |nil=>unfold A3 at h;rw[h];simp;exact .nil
   |cons p ps=>
     cases vs with
     |nil=>unfold A3 at h;obtain⟨_,_,e,_⟩:=h;cases e
     |cons v vs=>exact .cons h.Gd.1 (ih h.Gd.2)
mutual
noncomputable def Wr (w:World):P->Int
 |.int i=>hashInt i
 |.str x=>hashStr w x
 |.tup ps=>reduceHash (Builtin.Tuple.tupleHashOf (R3 w ps))
 |_=>0
noncomputable def R3 (w:World):List P->List Int
 |[]=>[]
 |p::ps=>Wr w p::R3 w ps
end
noncomputable def DX(a:Addr)(es:List DictEntry):HO:=.ext λh=>∃o,h.get? a=some o/\o.ExactDict/\o.data= .dict es.toArray es.length
def Nh(W:Wd)(H:Hp)(q:P×P)(e:DictEntry):Prop:=e.hash=Wr W.w q.1/\(∃k,RelV k e.key/\Aw W H q.1 k)/\∃v,RelV v e.val/\Aw W H q.2 v
structure Sv(W:Wd)(H:Hp)(a:Addr)(kvs:List (P×P)):Prop where
 ex:∃es:List DictEntry,H a=some (DX a es)/\Paired (Nh W H) kvs es
 nd:(kvs.map (·.1)).Nodup
 ks:∀q∈kvs,keyOk q.1=true
 len:kvs.length<=big
 sm:(a == sysModules)=false
theorem Nh.mono(k:AE H H'){q:P×P}{e:DictEntry}(h:Nh W H q e):Nh W H' q e:=
 ⟨h.1,let⟨v,a,b⟩:=h.2.1;⟨v,a,b.mono k⟩,let⟨v,a,b⟩:=h.2.2;⟨v,a,b.mono k⟩⟩
theorem Sv.mono{kvs:List (P×P)}(k:AE H H')(h:Sv W H a kvs)(ha:H' a=H a):Sv W H' a kvs:=
 ⟨let⟨es,e,r⟩:=h.ex;⟨es,by rw[ha];exact e,Paired.Yi r λ_ _ z=>z.mono k⟩,h.nd,h.ks,h.len,h.sm⟩
def Ve(K:PySem.W.Frag)(H:Hp)(a:Addr)(xs:List V):Prop:=(∃o,H a=some (.Dl o (.lst xs)))\/
    ∃(o:Obj) (its:Array Value) (n:Nat),K.lookup a=some o/\o.cls= .type "list"/\o.dict=none/\o.data= .seq its n/\its.size<=sizeLine/\Vals xs its.toList
theorem Ve.mono{K:PySem.W.Frag}(k:AE H H')(h:Ve K H a xs):Ve K H' a xs:=by
 rcases h with⟨o,h⟩|h
 .exact .inl ⟨o,(k a).2 _ _ h⟩
 .exact .inr h
theorem Ve.sq{K:PySem.W.Frag}(h:Ve K H a xs):Eg K H a xs:=by
 rcases h with⟨o,h⟩|h
 .exact .inl (.inr ⟨o,h⟩)
 .exact .inr h
noncomputable def Bq(W:Wd)(H:Hp):B->V->List Addr->Prop
 |.p x,v,o=>Aw W H x v/\o=[]
 |.ro ps,v,o=>(∃a vs,v= .ref a/\Ve W.K H a vs/\A3 W H ps vs)/\o=[]
 |.lst ps,v,o=>∃a vs,v= .ref a/\H a=some (.lst vs)/\A3 W H ps vs/\o=[a]
 |.D2 kvs,v,o=>∃a,v= .ref a/\Sv W H a kvs/\o=[a]
noncomputable def B1(W:Wd)(H:Hp):List (Str×B)->List (Str×V)->List Addr->Prop
 |[],vs,o=>vs=[]/\o=[]
 |(f,b)::fs,vs,o=>∃v r o1 o2,vs=(f,v)::r/\Bq W H b v o1/\B1 W H fs r o2/\o=o1++o2
def Vg(W:Wd)(c:Nat)(a:Addr)(fs:List (Str×B)):Prop:=Df W.K (W.B7 c)/\(∀q∈fs,Bu W.K (W.B7 c) q.1)/\(1000<=c->a=W.NB)
theorem K7{f:Str}{b:B}:∀{fs:List (Str×B)} {q:Str×B},q∈B6 f b fs->q.1=f\/∃q'∈fs,q'.1=q.1
 | [],q,h=>by
   have h:q∈[(f,b)]:=h;rw[mE h];exact .inl rfl
 | (g, c)::fs,q,h=>by
   unfold B6 at h;split at h
   .rename_i hg;rcases mK h with z|z
    .rw[z];exact .inl hg
    .exact .inr ⟨q,mC z,rfl⟩
   .rcases mK h with z|z
    .rw[z];exact .inr ⟨(g,c),mS,rfl⟩
    .rcases K7 z with y|⟨q',y1,y2⟩
     .exact .inl y
     .exact .inr ⟨q',mC y1,y2⟩
theorem Vg.put{c:Nat}{fs:List (Str×B)}(h:Vg W c a fs)(n:Bu W.K (W.B7 c) f):Vg W c a (B6 f b fs):=⟨h.1,λq hq=>by
 rcases K7 hq with z|⟨q',z1,z2⟩
 .rw[z];exact n
 .rw[<-z2];exact h.2.1 q' z1,h.2.2⟩
noncomputable def AQ(W:Wd)(H:Hp):C->V->List Addr->Prop
 |.b x,v,o=>Bq W H x v o
 |.obj c fs,v,o=>∃a dx vs os,v= .ref a/\H a=some (.ins (W.B7 c) dx vs)/\B1 W H fs vs os/\o=a::os/\Vg W c a fs
def Mu(x:HO):Prop:=(∀xs,x≠.tup xs)/\∀o u,x≠.Dl o u
theorem Bq.own(h:Bq W H b v o):∀a∈o,∃x,H a=some x/\Mu x:=by
 cases b with
 |p x=>rw[h.2];intro a ha;cases ha
 |ro x=>rw[h.2];intro a ha;cases ha
 |lst ps=>
   obtain⟨a,vs,e,ha,_,rfl⟩:=h;intro b hb;rw[mE hb];exact⟨_,ha,λ_ z=>HO.noConfusion z,λ_ _ z=>HO.noConfusion z⟩
 |D2 kvs=>
   obtain⟨a,e,ha,rfl⟩:=h;intro b hb;rw[mE hb];obtain⟨es,h1,_⟩:=ha.ex;exact⟨_,h1,λ_ z=>HO.noConfusion z,λ_ _ z=>HO.noConfusion z⟩
theorem B1.own:∀{fs:List (Str×B)} {vs:List (Str×V)} {o:List Addr},B1 W H fs vs o->∀a∈o,∃x,H a=some x/\Mu x
 |[],_,_,h=>by rw[h.2];intro a ha;cases ha
 | (f,b)::fs,_,_,⟨v,r,o1,o2,_,h1,h2,e⟩=>by
   rw[e];intro a ha;rcases mem_append.mp ha with z|z
   .exact h1.own a z
   .exact B1.own h2 a z
theorem AQ.own(h:AQ W H c v o):∀a∈o,∃x,H a=some x/\Mu x:=by
 cases c with
 |b x=>exact Bq.own h
 |obj c fs=>
   obtain⟨a,dx,vs,os,e,ha,hf,rfl,_⟩:=h;intro b hb;rcases mK hb with z|z
   .rw[z];exact⟨_,ha,λ_ z=>HO.noConfusion z,λ_ _ z=>HO.noConfusion z⟩
   .exact hf.own b z
def HL:HO->Bool
 |.Iy _=>true
 |_=>false
def Hr(os:List Addr)(H H':Hp):Prop:=∀b x,H b=some x->b∉os->HL x=false->H' b=some x
theorem Hr.keep{os:List Addr}(h:Hr os H H')(m:∀a∈os,∃x,H a=some x/\Mu x):AE H H':=λa=>by
 refine⟨λxs e=>h a _ e (λz=>?_) rfl,λo u e=>h a _ e (λz=>?_) rfl⟩
 .obtain⟨x,e',m1,_⟩:=m a z;rw[e]at e';exact m1 xs (Option.some.inj e').symm
 .obtain⟨x,e',_,m2⟩:=m a z;rw[e]at e';exact m2 o u (Option.some.inj e').symm
theorem Hr.refl(os:List Addr)(H:Hp):Hr os H H:=λ_ _ h _ _=>h
theorem Hr.of(os:List Addr)(h:Bp H H'):Hr os H H':=λb x e _ _=>h b x e
theorem Bq.frame{os:List Addr}(h:Bq W H b v o)(k:AE H H')(f:Hr os H H')(d:∀a∈o,a∉os):Bq W H' b v o:=by
 cases b with
 |p x=>exact⟨h.1.mono k,h.2⟩
 |ro x=>
   obtain⟨⟨a,vs,e,h1,h2⟩,h3⟩:=h;exact⟨⟨a,vs,e,h1.mono k,h2.mono k⟩,h3⟩
 |lst ps=>
   obtain⟨a,vs,e,ha,hp,rfl⟩:=h;exact⟨a,vs,e,f _ _ ha (d a mS) rfl,hp.mono k,rfl⟩
 |D2 kvs=>
   obtain⟨a,e,ha,rfl⟩:=h;obtain⟨es,h1,_⟩:=ha.ex;exact⟨a,e,ha.mono k (by rw[h1];exact f _ _ h1 (d a mS) rfl),rfl⟩
theorem B1.frame{os:List Addr}(k:AE H H')(f:Hr os H H'):∀{fs:List (Str×B)} {vs:List (Str×V)} {o:List Addr},B1 W H fs vs o->(∀a∈o,a∉os)->B1 W H' fs vs o
 |[],_,_,h,_=>h
 | (g,b)::fs,_,_,⟨v,r,o1,o2,e1,h1,h2,e⟩,d=>by
   subst e;exact⟨v,r,o1,o2,e1,h1.frame k f (λa ha=>d a (mL ha)),B1.frame k f h2 (λa ha=>d a (mR ha)),rfl⟩
theorem AQ.frame{os:List Addr}(h:AQ W H c v o)(k:AE H H')(f:Hr os H H')(d:∀a∈o,a∉os):AQ W H' c v o:=by
 cases c with
 |b x=>exact Bq.frame h k f d
 |obj c fs=>
   obtain⟨a,dx,vs,os',e,ha,hf,rfl,Ak⟩:=h;exact⟨a,dx,vs,os',e,f _ _ ha (d a mS) rfl,hf.frame k f (λb hb=>d b (mC hb)),rfl,Ak⟩
theorem AQ.cp{c:C}(h:AQ W H c v o)(hc:c.cp=true):o=[]:=by
 cases c with
 |obj c fs=>cases hc
 |b x=>
   cases x with
   |p x=>exact h.2
   |ro x=>exact h.2
   |lst x=>cases hc
   |D2 x=>cases hc
def KW(H:Hp)(q:Addr×Str):Prop:=∃(oc:Obj) (u:HO) (vs:Array Value) (t:Tok),H q.1=some (.Dl oc u)/\oc.data= .fields vs/\vs[1]? =some (.str q.2 t)
theorem KW.keep{q:Addr×Str}(h:KW H q)(k:AE H H'):KW H' q:=let⟨oc,u,vs,t,e1,e2⟩:=h;⟨oc,u,vs,t,(k _).2 _ _ e1,e2⟩
def CV(W:Wd)(H:Hp):Prop:=(∀q∈W.tabs,∃ps:Array Value,H q.1=some (.Iy ps)/\TriplesOk ps.toList/\∀cv,codeAmong q.2.1 ps.toList=some cv->∃c,cv= .ref c/\KW H (c,q.2.2))/\∀q∈W.aO,KW H q
theorem CV.keep(h:CV W H)(k:AE H H')(n:∀q∈W.tabs,∀ps,H q.1=some (.Iy ps)->H' q.1=some (.Iy ps)):CV W H':=
 ⟨λq hq=>
   let⟨ps,a,b,c⟩:=h.1 q hq
   ⟨ps,n q hq ps a,b,λcv e=>let⟨d,e1,e2⟩:=c cv e;⟨d,e1,e2.keep k⟩⟩,λq hq=>(h.2 q hq).keep k⟩
theorem CV.same(h:CV W H)(s:Bp H H'):CV W H':=h.keep (AE.of s) λq _ ps e=>s _ _ e
theorem CV.upd{y:HO}(h:CV W H)(k:AE H (upd H a x))(ha:H a=some y)(n:HL y=false):CV W (upd H a x):=h.keep k λq hq ps e=>by
 rw[A5 λz=>by rw[z,ha]at e;cases e;cases n];exact e
theorem Bq.nt{a:Addr}(h:Bq W H b v [a]):∃y,H a=some y/\HL y=false:=by
 cases b with
 |p x=>cases h.2
 |ro x=>cases h.2
 |lst ps=>
   obtain⟨b,vs,e,ha,_,e2⟩:=h;cases e2;exact⟨_,ha,rfl⟩
 |D2 kvs=>
   obtain⟨b,e,ha,e2⟩:=h;cases e2;obtain⟨es,h1,_⟩:=ha.ex;exact⟨_,h1,rfl⟩
noncomputable def A4(W:Wd)(H:Hp):Env->St->List Addr->Prop
 |[],σ,os=>σ=[]/\os=[]/\CV W H
 |none::ρ,σ,os=>∃x r,σ=x::r/\A4 W H ρ r os
 |some c::ρ,σ,os=>∃v r o o2,σ=some v::r/\AQ W H c v o/\A4 W H ρ r o2/\os=o++o2
theorem A4.own:∀{ρ:Env} {σ:St} {os:List Addr},A4 W H ρ σ os->∀a∈os,∃x,H a=some x/\Mu x
 |[],_,_,h=>by rw[h.2.1];intro a ha;cases ha
 |none::ρ,_,_,⟨x,r,_,h⟩=>A4.own h
 | some c::ρ,_,_,⟨v,r,o1,o2,_,h1,h2,e⟩=>by
   rw[e];intro a ha;rcases mem_append.mp ha with z|z
   .exact h1.own a z
   .exact A4.own h2 a z
theorem A4.length:∀{ρ:Env} {σ:St} {os:List Addr},A4 W H ρ σ os->σ.length=ρ.length
 |[],_,_,h=>by rw[h.1];rfl
 |none::ρ,_,_,⟨x,r,e,h⟩=>by rw[e,lC,lC,A4.length h]
 |some c::ρ,_,_,⟨v,r,o1,o2,e,h1,h2,_⟩=>by rw[e,lC,lC,A4.length h2]
theorem A4.tb:∀{ρ:Env} {σ:St} {os:List Addr},A4 W H ρ σ os->CV W H
 |[],_,_,h=>h.2.2
 |none::_,_,_,⟨_,_,_,h⟩=>A4.tb h
 |some _::_,_,_,⟨_,_,_,_,_,_,h,_⟩=>A4.tb h
theorem A4.frame{os:List Addr}(tb:CV W H')(k:AE H H')(f:Hr os H H'):∀{ρ:Env} {σ:St} {o:List Addr},A4 W H ρ σ o->(∀a∈o,a∉os)->A4 W H' ρ σ o
 |[],_,_,h,_=>⟨h.1,h.2.1,tb⟩
 |none::ρ,_,_,⟨x,r,e,h⟩,d=>⟨x,r,e,A4.frame tb k f h d⟩
 | some c::ρ,_,_,⟨v,r,o1,o2,e1,h1,h2,e⟩,d=>by
   subst e;exact⟨v,r,o1,o2,e1,h1.frame k f (λa ha=>d a (mL ha)),A4.frame tb k f h2 (λa ha=>d a (mR ha)),rfl⟩
theorem A4.same{σ:St}{os:List Addr}(h:A4 W H ρ σ os)(s:Bp H H'):A4 W H' ρ σ os:=A4.frame (h.tb.same s) (AE.of s) (Hr.of (os:=[]) s) h (λ_ _ z=>by cases z)
theorem DY(x:Option C)(ρ:Env)(i:Nat):A6 (x::ρ) (i+1)=A6 ρ i:=rfl
theorem HQ(x:Option C)(ρ:Env):A6 (x::ρ) 0=x:=rfl
theorem A4.take:∀{ρ:Env} {σ:St} {os:List Addr} {i:Nat} {c:C},A4 W H ρ σ os->A6 ρ i=some c->
 ∃v o os',σ[i]? =some (some v)/\AQ W H c v o/\A4 W H (ρ.set i none) σ os'/\(o++os').Perm os
 |[],_,_,i,c,_,e=>by simp[A6]at e
 | x::ρ,σ,os,0,c,h,e=>by
   rw[HQ]at e;subst e;obtain⟨v,r,o,o2,e1,h1,h2,e2⟩:=h;subst e1 e2;exact⟨v,o,o2,rfl,h1,⟨some v,r,rfl,h2⟩,.refl _⟩
 | none::ρ,σ,os,i + 1,c,⟨x,r,e1,h⟩,e=>by
   rw[DY]at e;subst e1;obtain⟨v,o,os',g1,g2,g3,g4⟩:=A4.take h e;exact⟨v,o,os',by simpa using g1,g2,⟨x,r,rfl,g3⟩,g4⟩
 | some d::ρ,σ,os,i + 1,c,⟨u,r,o1,o2,e1,h1,h2,e2⟩,e=>by
   rw[DY]at e;subst e1 e2;obtain⟨v,o,os',g1,g2,g3,g4⟩:=A4.take h2 e;refine⟨v,o,o1++os',by simpa using g1,g2,⟨u,r,o1,os',rfl,h1,g3,rfl⟩,?_⟩;refine List.Perm.trans ?_ (g4.append_left o1);rw[<-append_assoc,<-append_assoc];exact perm_append_comm.append_right os'
theorem A4.get{σ:St}{os:List Addr}{i:Nat}{c:C}(h:A4 W H ρ σ os)(e:A6 ρ i=some c):∃v o,σ[i]? =some (some v)/\AQ W H c v o/\∀a∈o,a∈os:=by
 obtain⟨v,o,os',g1,g2,g3,g4⟩:=h.take e;exact⟨v,o,g1,g2,λa ha=>g4.subset (mL ha)⟩
variable{ρ:Env}
theorem A4.drop{σ:St}{os:List Addr}(h:A4 W H ρ σ os)(i:Nat):∃os',A4 W H (ρ.set i none) σ os'/\∃o,(o++os').Perm os:=by
 cases e:A6 ρ i with
 |some c=>
   obtain⟨v,o,os',_,_,g3,g4⟩:=h.take e;exact⟨os',g3,o,g4⟩
 |none=>
   have:ρ.set i none=ρ:=by
    apply ext_getElem?;intro j;rw[List.getElem?_set];split
    .rename_i hj;subst hj;split
     .rename_i hl;unfold A6 at e;rw[List.getElem?_eq_getElem hl]at e ⊢;have e:ρ[i]=none:=e;rw[e]
     .rename_i hl;rw[List.getElem?_eq_none (by lia)]
    .rfl
   rw[this];exact⟨os,h,[],.refl _⟩
theorem A4.fill(hc:AQ W H c v o):∀{ρ:Env} {σ:St} {os:List Addr} {i:Nat},A4 W H ρ σ os->A6 ρ i=none->i < ρ.length->
 ∃os',A4 W H (ρ.set i (some c)) (σ.set i (some v)) os'/\os'.Perm (o++os)
 |[],_,_,i,_,_,hi=>absurd hi (by simp)
 | x::ρ,σ,os,0,h,e,_=>by
   rw[HQ]at e;subst e;obtain⟨y,r,e1,h1⟩:=h;subst e1;exact⟨o++os,⟨v,r,o,os,rfl,hc,h1,rfl⟩,.refl _⟩
 | none::ρ,σ,os,i + 1,⟨x,r,e1,h⟩,e,hi=>by
   rw[DY]at e;subst e1;obtain⟨os',g1,g2⟩:=A4.fill hc h e (by simpa using hi);exact⟨os',⟨x,_,rfl,g1⟩,g2⟩
 | some d::ρ,σ,os,i + 1,⟨u,r,o1,o2,e1,h1,h2,e2⟩,e,hi=>by
   rw[DY]at e;subst e1 e2;obtain⟨os',g1,g2⟩:=A4.fill hc h2 e (by simpa using hi);refine⟨o1++os',⟨u,_,o1,os',rfl,h1,g1,rfl⟩,?_⟩;refine List.Perm.trans (g2.append_left o1) ?_;rw[<-append_assoc,<-append_assoc];exact perm_append_comm.append_right o2
theorem Ba{i:Nat}(h:i < ρ.length):A6 (ρ.set i x) i=x:=by
 unfold A6;rw[List.getElem?_set_self h];rfl
theorem BL{i:Nat}{c:C}(h:A6 ρ i=some c):i < ρ.length:=by
 unfold A6 at h;rcases Nat.lt_or_ge i ρ.length with z|z
 .exact z
 .rw[List.getElem?_eq_none z]at h;cases h
variable{α:Type}
theorem set_same{l:List α}{i:Nat}{x:α}(h:l[i]? =some x):l.set i x=l:=by
 apply ext_getElem?;intro j;rw[List.getElem?_set];split
 .rename_i e;subst e;split
  .exact h.symm
  .rename_i hl;rw[List.getElem?_eq_none (by lia)]
 .rfl
theorem A4.put(hc:AQ W H c v o){σ:St}{os:List Addr}{i:Nat}(h:A4 W H ρ σ os)(hi:i < ρ.length):
 ∃os' od,A4 W H (ρ.set i (some c)) (σ.set i (some v)) (os')/\(od++os').Perm (o++os):=by
 obtain⟨os1,h1,o1,p1⟩:=h.drop i;obtain⟨os2,h2,p2⟩:=A4.fill hc h1 (Ba hi) (by simpa using hi);rw[set_set]at h2;refine⟨os2,o1,h2,?_⟩;refine(p2.append_left o1).trans ?_;refine List.Perm.trans ?_ (p1.append_left o);rw[<-append_assoc,<-append_assoc];exact perm_append_comm.append_right os1
structure AG(H H':Hp)(os os':List Addr):Prop where
 but:Hr os H H'
 src:∀a∈os',a∈os\/H a=none
 there:∀b x,H b=some x->∃x',H' b=some x'
theorem AG.refl(H:Hp)(os:List Addr):AG H H os os:=⟨Hr.refl _ _,λ_ h=>.inl h,λ_ x h=>⟨x,h⟩⟩
variable{os1 os2:List Addr}
theorem AG.trans{os:List Addr}(a:AG H H1 os os1)(b:AG H1 H2 os1 os2):AG H H2 os os2 where
 but:=λx o e n nt=>b.but x o (a.but x o e n nt) (λz=>by
  rcases a.src x z with q|q
  .exact n q
  .rw[e]at q;cases q) nt
 src :=λx hx=>by
  rcases b.src x hx with q|q
  .exact a.src x q
  .refine .inr ?_;cases e:H x with
   |none=>rfl
   |some o=>obtain⟨o',e'⟩:=a.there x o e;rw[q]at e';cases e'
 there:=λx o e=>by
  obtain⟨o',e'⟩:=a.there x o e;exact b.there x o' e'
variable{os':List Addr}
theorem AG.of(s:Bp H H'){os:List Addr}(h:∀a∈os',a∈os\/H a=none):AG H H' os os':=⟨Hr.of _ s,h,λb x e=>⟨x,s b x e⟩⟩
theorem AG.sub{os:List Addr}(a:AG H H' os os')(h:∀x∈os2,x∈os'):AG H H' os os2:=⟨a.but,λx hx=>a.src x (h x hx),a.there⟩
theorem AG.more{os:List Addr}(a:AG H H' os os')(r:List Addr):AG H H' (r++os) (r++os'):=
 ⟨λb x e n nt=>a.but b x e (λz=>n (mR z)) nt,λx hx=>by
   rcases mem_append.mp hx with z|z
   .exact .inl (mL z)
   .rcases a.src x z with q|q
    .exact .inl (mR q)
    .exact .inr q,a.there⟩
theorem AG.perm{os os1':List Addr}(a:AG H H' os os')(h:os.Perm os1)(h':os'.Perm os1'):AG H H' os1 os1':=
 ⟨λb x e n=>a.but b x e λz=>n (h.subset z),λx hx=>by
   rcases a.src x (h'.symm.subset hx)with q|q
   .exact .inl (h.subset q)
   .exact .inr q,a.there⟩
noncomputable def CC(W:Wd)(H:Hp):C->V->Prop
 |.b (.p x),v=>Aw W H x v
 |.b (.ro ps),v=>∃a vs,v= .ref a/\Ve W.K H a vs/\A3 W H ps vs
 |.b (.lst ps),v=>∃a vs,v= .ref a/\H a=some (.lst vs)/\A3 W H ps vs
 |.b (.D2 kvs),v=>∃a,v= .ref a/\Sv W H a kvs
 |.obj c _,v=>∃a dx vs,v= .ref a/\H a=some (.ins (W.B7 c) dx vs)
theorem Bq.rd(h:Bq W H b v o):CC W H (.b b) v:=by
 cases b with
 |p x=>exact h.1
 |ro ps=>obtain⟨⟨a,vs,e,h1,h2⟩,_⟩:=h;exact⟨a,vs,e,h1,h2⟩
 |lst ps=>obtain⟨a,vs,e,h1,h2,_⟩:=h;exact⟨a,vs,e,h1,h2⟩
 |D2 kvs=>obtain⟨a,e,h1,_⟩:=h;exact⟨a,e,h1⟩
theorem AQ.rd(h:AQ W H c v o):CC W H c v:=by
 cases c with
 |b b=>exact Bq.rd h
 |obj c fs=>obtain⟨a,dx,vs,os,e,h1,_⟩:=h;exact⟨a,dx,vs,e,h1⟩
theorem B1.look:∀{fs:List (Str×B)} {vs:List (Str×V)} {o:List Addr} {b:B},B1 W H fs vs o->fs.lookup f=some b->∃v o',vs.lookup f=some v/\Bq W H b v o'/\∀a∈o',a∈o
 |[],_,_,_,_,e=>by simp at e
 | (g,c)::fs,_,_,b,⟨v,r,o1,o2,e1,h1,h2,e⟩,el=>by
   subst e1 e;rw[lookup_cons]at el ⊢;cases hg:f == g with
   |true=>
     rw[hg]at el;cases el;exact⟨v,o1,rfl,h1,λa ha=>mL ha⟩
   |false=>
     rw[hg]at el;obtain⟨u,o',g1,g2,g3⟩:=B1.look h2 el;exact⟨u,o',g1,g2,λa ha=>mR (g3 a ha)⟩
abbrev XP:=Nat->P->St->Hp->Prop
section
variable (W:Wd)(EX:XP){α β:Type}
def BQ(rep:Hp->Env->α->β->List Addr->Prop)(H:Hp)(os:List Addr)(σ:St)(r:Res α)(Q:β->Hp->Prop):Prop:=match r with
 |.stuck=>False
 |.ok a ρ'=>∀b H' o os',rep H' ρ' a b o->A4 W H' ρ' σ os'->(o++os').Nodup->AG H H' os (o++os')->Q b H'
 |.err x p ρ'=>∀H' os',A4 W H' ρ' σ os'->os'.Nodup->AG H H' os os'->EX x p σ H'
def tG(rep:St->Hp->Env->α->β->List Addr->Prop)(F:Env->Res α):St->Hp->(β->Hp->Prop)->Prop:=λσ H Q=>∃ρ os,A4 W H ρ σ os/\os.Nodup/\BQ W EX (rep σ) H os σ (F ρ) Q
def rV:St->Hp->Env->C->V->List Addr->Prop:=λ_ H _ c v o=>AQ W H c v o
def E8:St->Hp->Env->Hd->V->List Addr->Prop:=λσ H _ h v o=>match h with
 |.AD c=>AQ W H c v o
 |.slot i=>σ[i]? =some (some v)/\o=[]
 |.fld i f=>o=[]/\∃a C dx fs,σ[i]? =some (some (.ref a))/\H a=some (.ins C dx fs)/\fs.lookup f=some v
noncomputable def B2:St->Hp->Env->List Hd->List V->List Addr->Prop
 |_,_,_,[],vs,o=>vs=[]/\o=[]
 |σ,H,ρ,h::hs,vs,o=>∃v r o1 o2,vs=v::r/\E8 W σ H ρ h v o1/\B2 σ H ρ hs r o2/\o=o1++o2
def aA:St->Hp->Env->List P->List V->List Addr->Prop:=λ_ H _ ps vs o=>A3 W H ps vs/\o=[]
def rB:St->Hp->Env->Bool->Bool->List Addr->Prop:=λ_ _ _ b b' o=>b=b'/\o=[]
end
variable{W:Wd}{EX:XP}{α β γ δ:Type}
theorem AG.weak{os:List Addr}(a:AG H H' os os')(h:∀x∈os,x∈os2):AG H H' os2 os':=
 ⟨λb x e n nt=>a.but b x e (λz=>n (h b z)) nt,λx hx=>(a.src x hx).imp (h x) id,a.there⟩
variable{o1:List Addr}
theorem U3{o2:List Addr}(n1:(o1++os1).Nodup)(n2:(o2++os2).Nodup)(own:∀a∈o1,∃z,H1 a=some z)(src:∀a∈o2++os2,a∈os1\/H1 a=none):((o1++o2)++os2).Nodup:=by
 rw[append_assoc,nodup_append];have n1':=nA n1;refine⟨n1'.1,n2,λa ha b hb e=>?_⟩;subst e;rcases src a hb with z|z
 .exact n1'.2.2 a ha a z rfl
 .obtain⟨x,ex⟩:=own a ha;rw[z]at ex;cases ex
variable{rep:Hp->Env->α->β->List Addr->Prop}
theorem BQ.imp{os:List Addr}{σ:St}{r:Res α}{Q Q':β->Hp->Prop}(h:BQ W EX rep H os σ r Q)(k:∀b H',Q b H'->Q' b H'):BQ W EX rep H os σ r Q':=by
 unfold BQ at h ⊢;cases r with
 |stuck=>exact h
 |err x p ρ'=>exact h
 |ok a ρ'=>exact λb H' o os' r1 r2 r3 r4=>k _ _ (h b H' o os' r1 r2 r3 r4)
theorem F7{σ:St}{os:List Addr}{h:Hd}{c:C}(hR:A4 W H ρ σ os)(hh:E8 W σ H ρ h v o)(e:h.cont ρ=some c):CC W H c v:=by
 cases h with
 |AD d=>
   cases e;exact AQ.rd hh
 |slot i=>
   obtain⟨u,o',e1,e2,_⟩:=hR.get e;rw[hh.1]at e1;cases e1;exact e2.rd
 |fld i f=>
   obtain⟨_,a,C,dx,fs,e1,e2,e3⟩:=hh;have e:Bi ρ i f=some c:=e;unfold Bi at e;cases hg:A6 ρ i with
   |none=>rw[hg]at e;cases e
   |some d=>
     rw[hg]at e;cases d with
     |b x=>cases e
     |obj k fs'=>
       obtain⟨u,o',q1,q2,_⟩:=hR.get hg;rw[e1]at q1;cases q1;obtain⟨a',dx',vs,os',z,q3,q4,_⟩:=q2;cases z;rw[e2]at q3;cases q3;obtain⟨b,hb,rfl⟩:=oM e;obtain⟨v',o'',g1,g2,_⟩:=q4.look hb;rw[e3]at g1;cases g1;exact g2.rd
theorem BQ.made{os:List Addr}{σ:St}{o:List Addr}{Q:VK}(h:BQ W EX (rV W σ) H os σ (.ok c ρ) Q)(hR:A4 W H ρ σ os)(hn:os.Nodup)(s:Bp H H')(r:AQ W H' c v o)(ho:o.Nodup)(hf:∀a∈o,H a=none):Q v H':=by
 refine h v H' o os r (hR.same s) ?_ (.of s λa ha=>?_)
 .rw[nodup_append];refine⟨ho,hn,λa ha b hb e=>?_⟩;subst e;obtain⟨x,e,_⟩:=hR.own a hb;rw[hf a ha]at e;cases e
 .rcases mem_append.mp ha with z|z
  .exact .inr (hf a z)
  .exact .inl z
theorem BQ.shift{os:List Addr}{σ:St}{r:Res α}{Q:β->Hp->Prop}(h:BQ W EX rep H os σ r Q)(f:AG H H1 os os1):BQ W EX rep H1 os1 σ r Q:=by
 unfold BQ at h ⊢;cases r with
 |stuck=>exact h
 |err x p ρ'=>exact λH' os' r1 r2 r3=>h H' os' r1 r2 (f.trans r3)
 |ok a ρ'=>exact λb H' o os' r1 r2 r3 r4=>h b H' o os' r1 r2 r3 (f.trans r4)
theorem BQ.later{os:List Addr}{σ:St}{r:Res α}{Q:β->Hp->Prop}(h:BQ W EX rep H os σ r Q)(f:AG H H1 os (o1++os1)):BQ W EX rep H1 os1 σ r Q:=by
 unfold BQ at h ⊢;cases r with
 |stuck=>exact h
 |err x p ρ'=>exact λH' os' r1 r2 r3=>h H' os' r1 r2 (f.trans (r3.weak λa ha=>mR ha))
 |ok a ρ'=>exact λb H' o os' r1 r2 r3 r4=>h b H' o os' r1 r2 r3 (f.trans (r4.weak λa ha=>mR ha))
section
variable (W:Wd)
def E7(H:Hp)(c:C)(Q:VK):Prop:=∀v H' o,Bp H H'->AQ W H' c v o->o.Nodup->(∀a∈o,H a=none)->Q v H'
noncomputable def BS(g:C->C->Option C):R2:=λx y H Q=>∃c1 c2 c,CC W H c1 x/\CC W H c2 y/\g c1 c2=some c/\E7 W H c Q
def bY(g:C->Option C):V->Hp->VK->Prop:=λx H Q=>∃c1 c,CC W H c1 x/\g c1=some c/\E7 W H c Q
def Cq(H:Hp):List C->List V->Prop
 |[],vs=>vs=[]
 |c::cs,vs=>∃v r,vs=v::r/\CC W H c v/\Cq H cs r
def AZ(g:List C->Option C):List V->Hp->VK->Prop:=λxs H Q=>∃cs c,Cq W H cs xs/\g cs=some c/\E7 W H c Q
end
theorem E7.plain{Q:VK}(q:E7 W H (.p x) Q)(r:Aw W H x v):Q v H:=q v H [] (Bp.refl H) ⟨r,rfl⟩ .nil (λa ha=>by cases ha)
theorem E7.list{ps:List P}{Q:VK}(q:E7 W H (.lst ps) Q)(r:A3 W H ps vs):∀p,H p=none->Q (.ref p) (upd H p (.lst vs)):=λp hp=>by
 have s:Bp H (upd H p (.lst vs)):=λb o e=>by rw[A5 (Av e hp)];exact e
 exact q (.ref p) _ [p] s ⟨p,vs,rfl,Ac,r.mono (AE.of s),rfl⟩ (by simp) (λa ha=>by rw[mE ha];exact hp)
theorem E7.tup{ps:List P}{Q:VK}(q:E7 W H (.p (.tup ps)) Q)(r:A3 W H ps vs):∀p,H p=none->Q (.ref p) (upd H p (.tup vs)):=λp hp=>by
 have s:Bp H (upd H p (.tup vs)):=λb o e=>by rw[A5 (Av e hp)];exact e
 refine q (.ref p) _ [] s ⟨?_,rfl⟩ .nil (λa ha=>by cases ha);unfold Aw;exact⟨p,vs,rfl,ED.of Ac,r.mono (AE.of s)⟩
theorem C3:big<=sizeLine:=by decide
variable{H:Hp}{v:V}
theorem Ae :Aw W H (.int i) v↔v= .int i:=by unfold Aw;exact Iff.rfl
theorem Bh{i:Bool}:Aw W H (.bl i) v↔v= .bl i:=by unfold Aw;exact Iff.rfl
theorem AL :Aw W H (.str i) v↔v= .str i:=by unfold Aw;exact Iff.rfl
theorem By:Aw W H .Ai v↔v= .Ai:=by unfold Aw;exact Iff.rfl
theorem Dq{t:Nat}{ps:List P}:Aw W H (.box t ps) v↔∃a o vs,v= .ref a/\A3 W H ps vs/\fN H a o t vs:=by unfold Aw;exact Iff.rfl
theorem ET{i:Nat}:Aw W H (.fn i) v↔v= .ref (W.C2 i)/\(i < Co\/W.ok i=true):=by unfold Aw;exact Iff.rfl
theorem CM{ps:List P}:Aw W H (.tup ps) v↔∃a vs,v= .ref a/\ED W.K H a vs/\A3 W H ps vs:=by unfold Aw;exact Iff.rfl
theorem Xy(h:CC W H (.p x) v):Aw W H x v:=h
theorem Ao(h:CC W H (.p (.int i)) v):v= .int i:=Ae.mp (Xy h)
theorem My{i:Bool}(h:CC W H (.p (.bl i)) v):v= .bl i:=Bh.mp (Xy h)
theorem Bl(h:CC W H (.p (.str i)) v):v= .str i:=AL.mp (Xy h)
theorem IJ(h:CC W H (.p .Ai) v):v= .Ai:=By.mp (Xy h)
theorem BI{ps:List P}(h:CC W H (.p (.tup ps)) v):∃a vs,v= .ref a/\ED W.K H a vs/\A3 W H ps vs:=CM.mp (Xy h)
variable{X:Cx}
theorem Gz{f:Value->Value->Sem Value}{g:Int->Int->Option Int}{r:R2}(ho:BP X f r)(hr:∀i j k H Q,g i j=some k->Q (.int k) H->r (.int i) (.int j) H Q):BP X f (BS W (Dy g)):=by
 rintro pins s σ H x y v u Q I rx ry ⟨c1,c2,c,h1,h2,e,q⟩
 unfold Dy at e;split at e
 .rename_i i j;obtain⟨k,ek,rfl⟩:=oM e;cases Ao h1;cases Ao h2;exact ho pins s σ H _ _ v u Q I rx ry (hr i j k H Q ek (q.plain (Ae.mpr rfl)))
 .cases e
theorem cO:BP X (binaryOp .Sub) (BS W (Dy bD)):=Gz XT λi j k H Q e q=>by cases e;exact⟨i,j,rfl,rfl,q⟩
theorem cS:BP X (binaryOp .Mod) (BS W (Dy O5)):=Gz XX λi j k H Q e q=>by
 unfold O5 at e;split at e
 .cases e;exact⟨i,j,rfl,rfl,‹_›,q⟩
 .cases e
theorem Y5:BP X (binaryOp .FloorDiv) (BS W (Dy HU)):=Gz TQ λi j k H Q e q=>by
 unfold HU at e;split at e
 .cases e;exact⟨i,j,rfl,rfl,‹_›,q⟩
 .cases e
theorem cP:BP X (binaryOp .Pow) (BS W (Dy NN)):=Gz XU λi j k H Q e q=>by
 unfold NN at e;split at e
 .rename_i h;cases e;exact⟨i,j,rfl,rfl,⟨h.1,by lia,h.2.2⟩,q⟩
 .cases e
theorem Ea{ps:List P}(h:A3 W H ps vs):vs=[]↔ps=[]:=by
 have:=h.length;constructor
 .intro z;rw[z]at this;exact length_eq_zero_iff.mp this.symm
 .intro z;rw[z]at this;exact length_eq_zero_iff.mp this
theorem cV(hK:W.K=X.K):BP X (binaryOp .Add) (BS W Ha):=by
 rintro pins s σ H x y v u Q I rx ry ⟨c1,c2,c,h1,h2,e,q⟩
 unfold Ha at e;split at e
 .rename_i i j;cases e;cases Ao h1;cases Ao h2;exact Y0 pins s σ H _ _ v u Q I rx ry ⟨i,j,rfl,rfl,q.plain (Ae.mpr rfl)⟩
 .rename_i i j;split at e
  .rename_i hl;cases e;cases Bl h1;cases Bl h2;exact Lo pins s σ H _ _ v u Q I rx ry ⟨i,j,rfl,rfl,Nat.le_trans hl C3,q.plain (AL.mpr rfl)⟩
  .cases e
 .rename_i i j;split at e
  .cases e
  rename_i hie;unfold Ei at e;split at e
  .rename_i hl;cases e;obtain⟨a,vs,rfl,s1,r1⟩:=BI h1;obtain⟨b,ws,rfl,s2,r2⟩:=BI h2;rw[hK]at s1 s2;have hi:vs≠[]:=λz=>hie (by rw[(Ea r1).mp z];rfl)
   refine TR pins s σ H _ _ v u Q I rx ry ⟨a,b,vs,ws,rfl,rfl,s1,s2,hi,?_,λz=>?_,λ_=>?_⟩
   .rw[r1.length,r2.length,<-lA];exact Nat.le_trans hl C3
   .have ej:=(Ea r2).mp z;rw[ej,append_nil]at q;exact q.plain h1
   .exact q.tup (A3.append r2 r1)
  .cases e
 .rename_i i j;unfold Ei at e;split at e
  .rename_i hl;cases e;obtain⟨a,vs,rfl,s1,r1⟩:=h1;obtain⟨b,ws,rfl,s2,r2⟩:=h2;refine XZ pins s σ H _ _ v u Q I rx ry ⟨a,b,vs,ws,rfl,rfl,s1,s2,?_,q.list (A3.append r2 r1)⟩;rw[r1.length,r2.length,<-lA];exact Nat.le_trans hl C3
  .cases e
 .cases e
theorem cR:BP X (binaryOp .Mult) (BS W mulC):=by
 rintro pins s σ H x y v u Q I rx ry ⟨c1,c2,c,h1,h2,e,q⟩
 exact Gz (W:=W) (g:=Qr) XW (λi j k H Q e q=>by
  unfold Qr at e;split at e
  .cases e;exact⟨i,j,rfl,rfl,‹_›,q⟩
  .cases e) pins s σ H x y v u Q I rx ry ⟨_,_,c,h1,h2,e,q⟩
theorem aX:WK X (unaryOp .USub) (bY W (Jg Yb)):=by
 rintro pins s σ H x v Q I rx ⟨c1,c,h1,e,q⟩
 unfold Jg at e;split at e
 .rename_i i;cases e;cases Ao h1;exact WO pins s σ H _ v Q I rx ⟨i,rfl,q.plain (Ae.mpr rfl)⟩
 .cases e
theorem LP(n:Nat)(i:Int):Iv.JD n i=L2.JD n i:=by
 unfold Iv.JD L2.JD;rfl
theorem dB(hK:W.K=X.K){g:C->C->Option C}:VJ X (BS W Dj):=by
 rintro value slice pins s σ H x y v u Q I rx ry ⟨c1,c2,c,h1,h2,e,q⟩ hs
 have e0:=e;unfold Dj at e;split at e
 .rename_i c' ps i hc;obtain⟨k,hk,e⟩:=oB e;obtain⟨p,hp,rfl⟩:=oM e;cases Ao h2
  obtain⟨a,vs,rfl,s1,r1⟩:∃a vs,x= .ref a/\Eg W.K H a vs/\A3 W H ps vs:=by
   cases c1 with
   |obj _ _=>cases hc
   |b b=>
     cases b with
     |p _=>cases hc
     |D2 _=>cases hc
     |lst _=>cases hc;obtain⟨a,vs,e1,e2,e3⟩:=h1;exact⟨a,vs,e1,Eg.of e2,e3⟩
     |ro _=>cases hc;obtain⟨a,vs,e1,e2,e3⟩:=h1;exact⟨a,vs,e1,e2.sq,e3⟩
  obtain⟨w,hw,rw'⟩:=r1.get hp;refine Uo value slice pins s σ H _ _ v u Q I rx ry ⟨a,vs,i,w,rfl,rfl,hK▸s1,?_,q.plain rw'⟩ hs;unfold WI;rw[r1.length,<-LP,hk];exact hw
 .rename_i c' ps i hc;obtain⟨k,hk,e⟩:=oB e;obtain⟨p,hp,rfl⟩:=oM e;cases Ao h2
  have hc:c1= .p (.tup ps):=by
   cases c1 with
   |obj _ _=>cases hc
   |b b=>cases b<;>cases hc<;>rfl
  subst hc;obtain⟨a,vs,rfl,s1,r1⟩:=BI h1;obtain⟨w,hw,rw'⟩:=r1.get hp;refine Yy value slice pins s σ H _ _ v u Q I rx ry ⟨a,vs,i,w,rfl,rfl,hK▸s1,?_,q.plain rw'⟩ hs;unfold WI;rw[r1.length,<-LP,hk];exact hw
 .rename_i c' z i hc;split at e
  .rename_i hl;obtain⟨k,hk,e⟩:=oB e;obtain⟨p,hp,rfl⟩:=oM e;cases Ao h2
   have hc:c1= .p (.str z):=by
    cases c1 with
    |obj _ _=>cases hc
    |b b=>cases b<;>cases hc<;>rfl
   subst hc;cases Bl h1;refine Yz value slice pins s σ H _ _ v u Q I rx ry ⟨z,i,p,rfl,rfl,Nat.le_trans hl C3,?_,q.plain (AL.mpr rfl)⟩ hs;unfold WI;have:z.cps.toList.length=z.length:=by show z.cps.toList.length=z.cps.size;simp
   rw[this,<-LP,hk];exact hp
  .cases e
 .cases e
theorem E8.gR{σ:St}{h:Hd}{os:List Addr}(hf:∀i f,h≠.fld i f)(r:E8 W σ H1 ρ1 h v o)(k:AE H1 H2)(b:Hr os H1 H2)(d:∀a∈o,a∉os):E8 W σ H2 ρ2 h v o:=by
 cases h with
 |AD c=>exact AQ.frame r k b d
 |slot i=>exact r
 |fld i f=>exact absurd rfl (hf i f)
theorem E8.own{σ:St}(r:E8 W σ H ρ h v o):∀a∈o,∃z,H a=some z:=by
 cases h with
 |AD c=>exact λa ha=>let⟨x,e,_⟩:=AQ.own r a ha;⟨x,e⟩
 |slot i=>intro a ha;rw[r.2]at ha;cases ha
 |fld i f=>intro a ha;rw[r.1]at ha;cases ha
theorem QY{F:Env->Res Hd}{G:Env->Res (List Hd)}{σ:St}{Q:List V->Hp->Prop}(hF:∀ρ h ρ',F ρ= .ok h ρ'->∀i f,h≠.fld i f)
 (h:tG W EX (B2 W) (λρ=>(F ρ).bind λh ρ=>(G ρ).bind λhs ρ=>.ok (h::hs) ρ) σ H Q):Bb (tG W EX (E8 W) F) (tG W EX (B2 W) G) σ H Q:=by
 obtain⟨ρ,os,hR,hn,hA⟩:=h
 try dsimp only at hA
 refine⟨ρ,os,hR,hn,?_⟩;unfold BQ;cases eF:F ρ with
 |stuck=>rw[eF]at hA;exact hA
 |err x p ρ'=>rw[eF]at hA;exact hA
 |ok a ρ1=>
   rw[eF]at hA;intro u H1 o1 os1 rA hR1 hn1 fr1;have n1:=nA hn1;refine⟨ρ1,os1,hR1,n1.2.1,?_⟩;unfold BQ;rw[Res.A2]at hA;cases eG:G ρ1 with
   |stuck=>rw[eG]at hA;exact hA
   |err e p ρ2=>
     rw[eG]at hA;exact λH' os' hR' hn' fr'=>hA H' os' hR' hn' (fr1.trans (fr'.weak λa ha=>mR ha))
   |ok b ρ2=>
     rw[eG,Res.A2]at hA;intro ws H2 o2 os2 rB' hR2 hn2 fr2;have k2:AE H1 H2:=fr2.but.keep hR1.own;refine hA (u::ws) H2 (o1++o2) os2 ⟨u,ws,o1,o2,rfl,rA.gR (hF ρ a ρ1 eF) k2 fr2.but (λa ha z=>n1.2.2 a ha a z rfl),rB',rfl⟩ hR2 (U3 hn1 hn2 rA.own fr2.src) ?_;rw[append_assoc];exact fr1.trans (fr2.more o1)
theorem DD{σ:St}{os:List Addr}(hR:A4 W H ρ σ os):∀{hs:List Hd} {cs:List C} {vs:List V} {o:List Addr},B2 W σ H ρ hs vs o->A9 ρ hs=some cs->Cq W H cs vs
 | [],cs,vs,o,h,e=>by
   cases e;exact h.1
 | h::hs,cs,vs,o,⟨v,r,o1,o2,e1,h1,h2,e2⟩,e=>by
   unfold A9 at e;obtain⟨c,ec,e⟩:=oB e;obtain⟨ds,ed,rfl⟩:=oM e;exact⟨v,r,e1,F7 hR h1 ec,DD hR h2 ed⟩
theorem VZ{F:Env->Res (List Hd)}{g:List C->Option C}{σ:St}{Q:VK}
 (h:tG W EX (rV W) (λρ=>(F ρ).bind λhs ρ=>Res.of ((A9 ρ hs).bind g) ρ) σ H Q):tG W EX (B2 W) F σ H λvs H1=>AZ W g vs H1 Q:=by
 obtain⟨ρ,os,hR,hn,hA⟩:=h
 try dsimp only at hA
 refine⟨ρ,os,hR,hn,?_⟩;unfold BQ;cases eF:F ρ with
 |stuck=>rw[eF]at hA;exact hA
 |err x p ρ'=>rw[eF]at hA;exact hA
 |ok hs ρ1=>
   rw[eF,Res.A2]at hA;intro vs H1 o1 os1 rA hR1 hn1 fr1;have n1:=nA hn1;cases ec:A9 ρ1 hs with
   |none=>rw[ec]at hA;exact hA.elim
   |some cs=>
     rw[ec]at hA;have hA:BQ W EX (rV W σ) H os σ (Res.of (g cs) ρ1) Q:=hA;cases eg:g cs with
     |none=>rw[eg]at hA;exact hA.elim
     |some c=>
       rw[eg]at hA;have hA:=hA.later fr1;exact⟨cs,c,DD hR1 rA ec,eg,λv H' o s r ho hf=>hA.made hR1 n1.2.1 s r ho hf⟩
def AF(as:List Nat)(σ σ':St):Prop:=σ'.length=σ.length/\∀i,i∉as->σ'[i]? =σ[i]?
theorem AF.refl(as:List Nat)(σ:St):AF as σ σ:=⟨rfl,λ_ _=>rfl⟩
variable{as:List Nat}{σ1:St}
theorem AF.trans{σ σ2:St}(a:AF as σ σ1)(b:AF as σ1 σ2):AF as σ σ2:=⟨b.1.trans a.1,λi h=>(b.2 i h).trans (a.2 i h)⟩
theorem AF.mono{bs:List Nat}{σ σ':St}(a:AF as σ σ')(h:∀i∈as,i∈bs):AF bs σ σ':=⟨a.1,λi hi=>a.2 i λz=>hi (h i z)⟩
theorem AF.set{σ:St}{i:Nat}{x:Option V}(h:i∈as):AF as σ (σ.set i x):=⟨length_set ..,λj hj=>by
 rw[List.getElem?_set_ne]
 exact λz=>hj (z▸h)⟩
section
variable (W:Wd)(EX:XP)
def CG(as:List Nat)(D:Ends)(σ:St)(H:Hp)(os:List Addr)(r:Res Fl):Prop:=match r with
 |.stuck=>False
 |.err x p ρ'=>∀σ' H' os',A4 W H' ρ' σ' os'->os'.Nodup->AG H H' os os'->AF as σ σ'->EX x p σ' H'
 |.ok .nx ρ'=>∀σ' H' os',A4 W H' ρ' σ' os'->os'.Nodup->AG H H' os os'->AF as σ σ'->D.nx σ' H'
 |.ok .brk ρ'=>∀σ' H' os',A4 W H' ρ' σ' os'->os'.Nodup->AG H H' os os'->AF as σ σ'->D.bk σ' H'
 |.ok .cnt ρ'=>∀σ' H' os',A4 W H' ρ' σ' os'->os'.Nodup->AG H H' os os'->AF as σ σ'->D.ct σ' H'
 |.ok (.ret c) ρ'=>∀v σ' H' o os',AQ W H' c v o->A4 W H' ρ' σ' os'->(o++os').Nodup->AG H H' os (o++os')->AF as σ σ'->D.rt v H'
noncomputable def tS(as:List Nat)(F:Env->Res Fl):TS:=λD σ H=>∃ρ os,A4 W H ρ σ os/\os.Nodup/\CG W EX as D σ H os (F ρ)
end
variable{as:List Nat}{D:Ends}{σ:St}{os:List Addr}{r:Res Fl}
theorem CG.later(h:CG W EX as D σ H os r)(f:AG H H1 os os1)(u:AF as σ σ1):CG W EX as D σ1 H1 os1 r:=by
 have fr:∀{H' os'},AG H1 H' os1 os'->AG H H' os os':=λg=>f.trans g
 cases r with
 |stuck=>exact h
 |err x p ρ'=>exact λσ' H' os' h1 h2 h3 h4=>h σ' H' os' h1 h2 (fr h3) (u.trans h4)
 |ok f ρ'=>
   cases f with
   |nx=>exact λσ' H' os' h1 h2 h3 h4=>h σ' H' os' h1 h2 (fr h3) (u.trans h4)
   |brk=>exact λσ' H' os' h1 h2 h3 h4=>h σ' H' os' h1 h2 (fr h3) (u.trans h4)
   |cnt=>exact λσ' H' os' h1 h2 h3 h4=>h σ' H' os' h1 h2 (fr h3) (u.trans h4)
   |ret c=>exact λv σ' H' o os' h0 h1 h2 h3 h4=>h v σ' H' o os' h0 h1 h2 (fr h3) (u.trans h4)
theorem CG.more{bs:List Nat}(h:CG W EX bs D σ H os r)(hm:∀i∈as,i∈bs):CG W EX as D σ H os r:=by
 cases r with
 |stuck=>exact h
 |err x p ρ'=>exact λσ' H' os' h1 h2 h3 h4=>h σ' H' os' h1 h2 h3 (h4.mono hm)
 |ok f ρ'=>
   cases f with
   |nx=>exact λσ' H' os' h1 h2 h3 h4=>h σ' H' os' h1 h2 h3 (h4.mono hm)
   |brk=>exact λσ' H' os' h1 h2 h3 h4=>h σ' H' os' h1 h2 h3 (h4.mono hm)
   |cnt=>exact λσ' H' os' h1 h2 h3 h4=>h σ' H' os' h1 h2 h3 (h4.mono hm)
   |ret c=>exact λv σ' H' o os' h0 h1 h2 h3 h4=>h v σ' H' o os' h0 h1 h2 h3 (h4.mono hm)
theorem after{β:Type}{rep:St->Hp->Env->α->β->List Addr->Prop}{F:Env->Res α}{G:α->Env->Res Fl}{K:β->Hp->Prop}(hR:A4 W H ρ σ os)(h:CG W EX as D σ H os ((F ρ).bind G))
 (k:∀a ρ1 b H1 o1 os1,rep σ H1 ρ1 a b o1->A4 W H1 ρ1 σ os1->(o1++os1).Nodup->AG H H1 os (o1++os1)->CG W EX as D σ H1 (o1++os1) (G a ρ1)->K b H1):BQ W EX (rep σ) H os σ (F ρ) K:=by
 unfold BQ;cases eF:F ρ with
 |stuck=>rw[eF]at h;exact h
 |err x p ρ'=>
   rw[eF]at h;exact λH' os' h1 h2 h3=>h σ H' os' h1 h2 h3 (AF.refl _ _)
 |ok a ρ1=>
   rw[eF,Res.A2]at h;exact λb H1 o1 os1 h1 h2 h3 h4=>k a ρ1 b H1 o1 os1 h1 h2 h3 h4 (h.later h4 (AF.refl _ _))
theorem Px(h:tS W EX [] (λρ=>.ok .nx ρ) D σ H):Mp D σ H:=by
 obtain⟨ρ,os,hR,hn,hA⟩:=h
 try dsimp only at hA
 exact hA σ H os hR hn (AG.refl _ _) (AF.refl _ _)
theorem bV(h:tS W EX [] (λρ=>.ok .brk ρ) D σ H):OZ D σ H:=by
 obtain⟨ρ,os,hR,hn,hA⟩:=h
 try dsimp only at hA
 exact hA σ H os hR hn (AG.refl _ _) (AF.refl _ _)
theorem bU(h:tS W EX [] (λρ=>.ok .cnt ρ) D σ H):VR D σ H:=by
 obtain⟨ρ,os,hR,hn,hA⟩:=h
 try dsimp only at hA
 exact hA σ H os hR hn (AG.refl _ _) (AF.refl _ _)
variable{a1 a2:List Nat}{G:Env->Res Fl}
theorem Xs{F:Env->Res Fl}(h:tS W EX (a1++a2) (λρ=>(F ρ).bind λf ρ=>match f with| .nx=>G ρ|f=>.ok f ρ) D σ H):bh (tS W EX a1 F) (tS W EX a2 G) D σ H:=by
 obtain⟨ρ,os,hR,hn,hA⟩:=h
 try dsimp only at hA
 have m1:∀i∈a1,i∈a1++a2:=λi hi=>mL hi
 have m2:∀i∈a2,i∈a1++a2:=λi hi=>mR hi
 refine⟨ρ,os,hR,hn,?_⟩;cases eF:F ρ with
 |stuck=>rw[eF]at hA;exact hA
 |err x p ρ'=>rw[eF]at hA;exact λσ' H' os' h1 h2 h3 h4=>hA σ' H' os' h1 h2 h3 (h4.mono m1)
 |ok f ρ1=>
   rw[eF,Res.A2]at hA;cases f with
   |nx=>
     intro σ' H' os' h1 h2 h3 h4;have hA:CG W EX (a1++a2) D σ H os (G ρ1):=hA;exact⟨ρ1,os',h1,h2,(hA.later h3 (h4.mono m1)).more m2⟩
   |brk=>exact λσ' H' os' h1 h2 h3 h4=>hA σ' H' os' h1 h2 h3 (h4.mono m1)
   |cnt=>exact λσ' H' os' h1 h2 h3 h4=>hA σ' H' os' h1 h2 h3 (h4.mono m1)
   |ret c=>exact λv σ' H' o os' h0 h1 h2 h3 h4=>hA v σ' H' o os' h0 h1 h2 h3 (h4.mono m1)
theorem gZ{B:Env->Res Bool}{F:Env->Res Fl}(h:tS W EX (a1++a2) (λρ=>(B ρ).bind λx ρ=>if x then F ρ else G ρ) D σ H):br (tG W EX rB B) (tS W EX a1 F) (tS W EX a2 G) D σ H:=by
 obtain⟨ρ,os,hR,hn,hA⟩:=h
 try dsimp only at hA
 refine⟨ρ,os,hR,hn,after hR hA λa ρ1 b H1 o1 os1 h1 h2 h3 h4 h5=>?_⟩;obtain⟨rfl,rfl⟩:=h1;cases a with
 |true=>exact⟨ρ1,os1,h2,h3,h5.more λi hi=>mL hi⟩
 |false=>exact⟨ρ1,os1,h2,h3,h5.more λi hi=>mR hi⟩
variable{F:Env->Res C}
theorem Xr(h:tS W EX [] (λρ=>(F ρ).bind λ_ ρ=>.ok .nx ρ) D σ H):VQ (tG W EX (rV W) F) D σ H:=by
 obtain⟨ρ,os,hR,hn,hA⟩:=h
 try dsimp only at hA
 refine⟨ρ,os,hR,hn,after hR hA λa ρ1 b H1 o1 os1 h1 h2 h3 h4 h5=>?_⟩;exact h5 σ H1 os1 h2 (nA h3).2.1 ((AG.refl _ _).sub λa ha=>mR ha) (AF.refl _ _)
theorem bK(h:tS W EX [] (λρ=>(F ρ).bind λc ρ=>.ok (.ret c) ρ) D σ H):bj (tG W EX (rV W) F) D σ H:=by
 obtain⟨ρ,os,hR,hn,hA⟩:=h
 try dsimp only at hA
 refine⟨ρ,os,hR,hn,?_⟩;unfold BQ;cases eF:F ρ with
 |stuck=>rw[eF]at hA;exact hA
 |err x p ρ'=>
   rw[eF]at hA;exact λH' os' h1 h2 h3=>hA σ H' os' h1 h2 h3 (AF.refl _ _)
 |ok a ρ1=>
   rw[eF]at hA;exact λb H1 o1 os1 h1 h2 h3 h4=>hA b σ H1 o1 os1 h1 h2 h3 h4 (AF.refl _ _)
theorem Xj(h:tS W EX [] (λρ=>.ok (.ret (.p .Ai)) ρ) D σ H):VO D σ H:=by
 obtain⟨ρ,os,hR,hn,hA⟩:=h
 try dsimp only at hA
 exact hA .Ai σ H [] os ⟨by unfold Aw;rfl,rfl⟩ hR hn (AG.refl _ _) (AF.refl _ _)
theorem C9{o os od:List Addr}(hn:(o++os).Nodup)(p:(od++os').Perm (o++os)):os'.Nodup:=(nA (p.nodup_iff.mpr hn)).2.1
theorem bJ{i:Nat}(hi:i < σ.length)(h:tS W EX [i] (λρ=>(F ρ).bind λc ρ=>.ok .nx (ρ.set i (some c))) D σ H):P0 (tG W EX (rV W) F) (Ed i) D σ H:=by
 obtain⟨ρ,os,hR,hn,hA⟩:=h
 try dsimp only at hA
 refine⟨ρ,os,hR,hn,after hR hA λc ρ1 v H1 o1 os1 h1 h2 h3 h4 h5=>?_⟩;obtain⟨os2,od,r2,p2⟩:=A4.put h1 h2 (by rw[<-h2.length];exact hi);exact h5 (σ.set i (some v)) H1 os2 r2 (C9 h3 p2) ((AG.refl _ _).sub λa ha=>p2.subset (mR ha)) (AF.set mS)
end Iv
namespace Iv
open PySem L2
open Classical in
noncomputable def A1:WH:=λc b ρ=>if h:∃n,∃f ρ',Al c b n ρ= .ok f ρ'\/∃x p,Al c b n ρ= .err x p ρ' then Al c b h.choose ρ else .stuck
theorem Iq{c:Env->Res Bool}{b:Env->Res Fl}(h:A1 c b ρ≠.stuck):∃n,Al c b n ρ=A1 c b ρ:=by
 unfold A1 at h ⊢;split
 .exact⟨_,rfl⟩
 .rename_i hn;rw[dif_neg hn]at h;exact absurd rfl h
theorem AK{c:Env->Res Bool}{b:Env->Res Fl}(n:Nat)(ρ:Env):Al c b (n + 1) ρ=(c ρ).bind λx ρ=>if x then(b ρ).bind λf ρ=>match f with
 |.nx=>Al c b n ρ
 |.cnt=>Al c b n ρ
 |.brk=>.ok .nx ρ
 |.ret r=>.ok (.ret r) ρ
 else .ok .nx ρ:=rfl
theorem Cr{c:Env->Res Bool}{b:Env->Res Fl}:∀(n:Nat) (ρ:Env),Al c b n ρ≠.stuck->Al c b (n + 1) ρ=Al c b n ρ
 |0,ρ,h=>absurd rfl h
 | n + 1,ρ,h=>by
   rw[AK]at h;rw[AK (n+1),AK n];cases ec:c ρ with
   |stuck=>rfl
   |err x p ρ'=>rfl
   |ok x ρ1=>
     rw[ec,Res.A2]at h;rw[Res.A2,Res.A2];cases x with
     |false=>rfl
     |true=>
       rw[iP rfl]at h;rw[iP rfl,iP rfl];cases eb:b ρ1 with
       |stuck=>rfl
       |err x p ρ'=>rfl
       |ok f ρ2=>
         rw[eb,Res.A2]at h;rw[Res.A2,Res.A2];cases f with
         |nx=>exact Cr n ρ2 h
         |cnt=>exact Cr n ρ2 h
         |brk=>rfl
         |ret r=>rfl
variable{n:Nat}
theorem Eh{c:Env->Res Bool}{b:Env->Res Fl}(h:Al c b n ρ≠.stuck):∀m,Al c b (n + m) ρ=Al c b n ρ
 |0=>rfl
 | m + 1=>by
   have ih:=Eh h m;rw[<-Nat.add_assoc,Cr (n+m) ρ (by rw[ih];exact h),ih]
theorem OM{c:Env->Res Bool}{b:Env->Res Fl}(h:Al c b n ρ≠.stuck):A1 c b ρ=Al c b n ρ:=by
 have hex:∃n,∃f ρ',Al c b n ρ= .ok f ρ'\/∃x p,Al c b n ρ= .err x p ρ':=by
  cases e:Al c b n ρ with
  |stuck=>exact absurd e h
  |ok f ρ'=>exact⟨n,f,ρ',.inl e⟩
  |err x p ρ'=>exact⟨n,.nx,ρ',.inr ⟨x,p,e⟩⟩
 have hne:A1 c b ρ≠.stuck:=by
  unfold A1;rw[dif_pos hex];obtain⟨f,ρ',z⟩:=hex.choose_spec;intro e;rcases z with z|⟨x,p,z⟩
  .rw[z]at e;cases e
  .rw[z]at e;cases e
 obtain⟨m,em⟩:=Iq hne;rw[<-em];rw[<-em]at hne;rcases Nat.le_total n m with z|z
 .obtain⟨k,rfl⟩:=Nat.exists_eq_add_of_le z;exact Eh h k
 .obtain⟨k,rfl⟩:=Nat.exists_eq_add_of_le z;exact(Eh hne k).symm
variable{W:Wd}{EX:XP}{as:List Nat}{D:Ends}{σ:St}{H:Hp}{os:List Addr}
theorem T6{B:Env->Res Bool}{F:Env->Res Fl}(h:tS W EX as (λρ=>A1 B F ρ) D σ H):OV (tG W EX rB B) (tS W EX as F) D σ H:=by
 obtain⟨ρ,os,hR,hn,hA⟩:=h
 try dsimp only at hA
 have hne:A1 B F ρ≠.stuck:=λz=>by rw[z]at hA;exact hA
 obtain⟨n,en⟩:=Iq hne;rw[<-en]at hA;refine⟨λm σ' H'=>∃ρ' os',A4 W H' ρ' σ' os'/\os'.Nodup/\CG W EX as D σ' H' os' (Al B F m ρ'),⟨n,ρ,os,hR,hn,hA⟩,?_⟩
 rintro m σ' H' ⟨ρ',os',hR',hn',hA'⟩
 cases m with
 |zero=>exact hA'.elim
 |succ m=>
   rw[AK]at hA';refine⟨ρ',os',hR',hn',after hR' hA' λx ρ1 b H1 o1 os1 h1 h2 h3 h4 h5=>?_⟩;obtain⟨rfl,rfl⟩:=h1;cases x with
   |false=>exact h5 σ' H1 os1 h2 h3 (AG.refl _ _) (AF.refl _ _)
   |true=>
     have h5:CG W EX as D σ' H1 os1 ((F ρ1).bind λf ρ=>match f with
      |.nx=>Al B F m ρ
      |.cnt=>Al B F m ρ
      |.brk=>.ok .nx ρ
      |.ret r=>.ok (.ret r) ρ):=h5
     refine⟨λσ2 H2=>∃ρ' os',A4 W H2 ρ' σ2 os'/\os'.Nodup/\CG W EX as D σ2 H2 os' (Al B F m ρ'),λσ2 H2 z=>⟨m,Nat.lt_succ_self m,z⟩,ρ1,os1,h2,h3,?_⟩;cases eF:F ρ1 with
     |stuck=>rw[eF]at h5;exact h5
     |err x p ρ2=>rw[eF]at h5;exact h5
     |ok f ρ2=>
       rw[eF,Res.A2]at h5;cases f with
       |nx=>exact λσ2 H2 os2 g1 g2 g3 g4=>⟨ρ2,os2,g1,g2,CG.later (r:=Al B F m ρ2) h5 g3 g4⟩
       |cnt=>exact λσ2 H2 os2 g1 g2 g3 g4=>⟨ρ2,os2,g1,g2,CG.later (r:=Al B F m ρ2) h5 g3 g4⟩
       |brk=>exact h5
       |ret c=>exact h5
structure Walk(W:Wd)(J:It)(xs:List P)(g:Hp->Prop):Prop where
 go:∀i H,g H->i < xs.length->J.go i H
 KY:∀i H x H',g H->i < xs.length->J.KY i H x H'->Bp H H'/\∃p,xs[i]? =some p/\Aw W H' p x
 stop:∀H,g H->J.stop xs.length H
noncomputable def Ml(W:Wd)(EX:XP)(k:IK)(F:Env->Res (List Hd)):TI:=λσ H R=>tG W EX (B2 W) F σ H λvs H1=>∃cs xs,Cq W H1 cs vs/\Ap k cs=some xs/\∀J,Walk W J xs (λH=>Cq W H cs vs)->R J H1
def dM:List Nat->WL
 |[]=>dN
 |i::is=>Wu (Ed i) (dM is)
def gT(W:Wd):Tg->TG
 |.nm i=>Ed i
 |.tup is=>YJ W.K is.length (dM is)
theorem HB{ρ:Env}{i:Nat}(hp:Aw W H p v)(hR:A4 W H ρ σ os)(hn:os.Nodup)(hi:i < σ.length):∃os',A4 W H (ρ.set i (some (.p p))) (σ.set i (some v)) os'/\os'.Nodup/\∀a∈os',a∈os:=by
 obtain⟨os',od,r,q⟩:=A4.put (c:=.p p) (v:=v) (o:=[]) ⟨hp,rfl⟩ hR (by rw[<-hR.length];exact hi);exact⟨os',r,C9 (o:=[]) hn q,λa ha=>q.subset (mR ha)⟩
theorem R7{Q:St->Hp->Prop}:∀{is:List Nat} {ps:List P} {vs:List V} {ρ:Env} {σ:St} {os:List Addr},A3 W H ps vs->is.length=ps.length->A4 W H ρ σ os->os.Nodup->(∀i∈is,i < σ.length)->
 (∀σ' os',A4 W H ((is.zip ps).foldl (λr q=>r.set q.1 (some (.p q.2))) ρ) σ' os'->os'.Nodup->(∀a∈os',a∈os)->AF is σ σ'->Q σ' H)->dM is vs σ H Q
 | [],ps,vs,ρ,σ,os,hp,hl,hR,hn,hi,q=>by
   have:ps=[]:=length_eq_zero_iff.mp hl.symm;subst this;unfold A3 at hp;exact⟨hp,q σ os hR hn (λa ha=>ha) (AF.refl _ _)⟩
 | i ::is,ps,vs,ρ,σ,os,hp,hl,hR,hn,hi,q=>by
   cases ps with
   |nil=>cases hl
   |cons p ps=>
     cases vs with
     |nil=>unfold A3 at hp;obtain⟨_,_,e,_⟩:=hp;cases e
     |cons v vs=>
       obtain⟨os1,r1,n1,s1⟩:=HB hp.Gd.1 hR hn (hi i mS);refine⟨v,vs,rfl,R7 hp.Gd.2 (by simpa using hl) r1 n1 (λj hj=>by rw[length_set];exact hi j (mC hj)) λσ' os' g1 g2 g3 g4=>?_⟩;refine q σ' os' g1 g2 (λa ha=>s1 a (g3 a ha)) ?_;exact(AF.set mS).trans (g4.mono λj hj=>mC hj)
theorem R8{Q:St->Hp->Prop}{g:Tg}{ρ':Env}(e:EM g p ρ=some ρ')(hp:Aw W H p v)(hR:A4 W H ρ σ os)(hn:os.Nodup)(hi:∀i∈g.slots,i < σ.length)
 (q:∀σ' os',A4 W H ρ' σ' os'->os'.Nodup->(∀a∈os',a∈os)->AF g.slots σ σ'->Q σ' H):gT W g v σ H Q:=by
 cases g with
 |nm i=>
   cases e;obtain⟨os1,r1,n1,s1⟩:=HB hp hR hn (hi i mS);exact q _ os1 r1 n1 s1 (AF.set mS)
 |tup is=>
   unfold EM at e;cases p with
   |tup ps=>
     dsimp only at e;split at e
     .rename_i hl;cases e;obtain⟨a,vs,rfl,s1,r1⟩:=CM.mp hp;exact⟨a,vs,rfl,s1,by rw[r1.length,<-hl],R7 r1 hl hR hn hi q⟩
     .cases e
   |_=>cases e
variable{H:Hp}
theorem Cq.length:∀{cs:List C} {vs:List V},Cq W H cs vs->vs.length=cs.length
 |[],vs,h=>by rw[show vs=[]from h];rfl
 |c::cs,vs,⟨v,r,e,_,h⟩=>by rw[e,lC,lC,Cq.length h]
theorem CA{h:Hd}{hs:List Hd}{c:C}{cs:List C}(g:An (h::hs) (c::cs)=true):(c.cp=true\/∀i f,h≠.fld i f)/\An hs cs=true:=by
 unfold An at g ⊢;rw[zip_cons_cons,all_cons,bA]at g;refine⟨?_,g.2⟩
 by_cases hc:c.cp=true
 .exact .inl hc
 .refine .inr λi f e=>?_
  subst e;have:=g.1;simp[hc]at this
theorem II{σ σ':St}{H':Hp}{os os':List Addr}(hR':A4 W H' ρ' σ' os')(k:AE H H')(hb:Hr b H H'):∀{hs:List Hd} {cs:List C} {vs:List V} {o:List Addr},B2 W σ H ρ hs vs o->A9 ρ hs=some cs->A4 W H ρ σ os->An hs cs=true->
 (∀q∈guards hs cs,A6 ρ' q.1=some q.2/\σ'[q.1]? =σ[q.1]?)->(∀a∈o,a∉b)->Cq W H' cs vs
 |[],cs,vs,o,h,e,_,_,_,_=>by cases e;exact h.1
 | h ::hs,cs,vs,o,⟨v,r,o1,o2,e1,h1,h2,e2⟩,e,hR,hg,hgs,hd=>by
   unfold A9 at e;obtain⟨c,ec,e⟩:=oB e;obtain⟨ds,ed,rfl⟩:=oM e;subst e2;obtain⟨hgh,hg'⟩:=CA hg
   have hgs':∀q∈guards hs ds,A6 ρ' q.1=some q.2/\σ'[q.1]? =σ[q.1]? :=λq hq=>hgs q (by
    unfold guards at hq ⊢;rw[zip_cons_cons];rw[filterMap_cons];split
    .exact hq
    .exact mC hq)
   refine⟨v,r,e1,?_,II hR' k hb h2 ed hR hg' hgs' λa ha=>hd a (mR ha)⟩;have hrd:=F7 hR h1 ec
   by_cases hc:c.cp=true
   .cases c with
    |obj _ _=>cases hc
    |b x=>
      cases x with
      |lst _=>cases hc
      |D2 _=>cases hc
      |p x=>exact Aw.mono k hrd
      |ro x=>
        obtain⟨a,vs',ea,hs',hr⟩:=hrd;exact⟨a,vs',ea,hs'.mono k,hr.mono k⟩
   .have hc:c.cp=false:=by simpa using hc
    cases h with
    |AD d=>
      cases ec;exact(AQ.frame h1 k hb λa ha=>hd a (mL ha)).rd
    |slot i=>
      have hm:(i,c)∈guards (.slot i::hs) (c::ds):=by
       unfold guards;rw[zip_cons_cons,filterMap_cons];simp[hc]
      obtain⟨g1,g2⟩:=hgs (i,c) hm;obtain⟨u,o',q1,q2,_⟩:=hR'.get g1;have q1:σ'[i]? =some (some u):=q1;have g2:σ'[i]? =σ[i]? :=g2;rw[g2,h1.1]at q1;cases q1;exact q2.rd
    |fld i f=>exact absurd rfl (hgh.resolve_left (by rw[hc];exact Bool.false_ne_true) i f)
end Iv
namespace Iv
open PySem L2
variable{W:Wd}{EX:XP}{as:List Nat}{D:Ends}{σ:St}{H:Hp}{os:List Addr}
theorem B2.own :∀{hs:List Hd} {vs:List V} {o:List Addr},B2 W σ H ρ hs vs o->∀a∈o,∃z,H a=some z
 |[],_,_,h=>by rw[h.2];intro a ha;cases ha
 | h::hs,_,_,⟨v,r,o1,o2,_,h1,h2,e⟩=>by
   rw[e];intro a ha;rcases mem_append.mp ha with z|z
   .exact h1.own a z
   .exact B2.own h2 a z
theorem MK{H:Hp}{o os os':List Addr}(n:(o++os).Nodup)(n':os'.Nodup)(own:∀a∈o,∃z,H a=some z)(src:∀a∈os',a∈os\/H a=none):(o++os').Nodup:=by
 have n1:=nA n;rw[nodup_append];refine⟨n1.1,n',λa ha b hb e=>?_⟩;subst e;rcases src a hb with z|z
 .exact n1.2.2 a ha a z rfl
 .obtain⟨x,ex⟩:=own a ha;rw[z]at ex;cases ex
theorem HN{gs:List (Nat×C)}(h:holds gs ρ=true):∀q∈gs,A6 ρ q.1=some q.2:=λq hq=>by
 unfold holds at h;exact of_decide_eq_true (all_eq_true.mp h q hq)
variable{F:Env->Res (List Hd)}
theorem bS{k:IK}{g:Tg}{bs:List Nat}{B:Env->Res Fl}(hi:∀i∈g.slots,i < σ.length)(h:tS W EX (g.slots++bs) (λρ=>(F ρ).bind (Jk k g bs B)) D σ H):bu (Ml W EX k F) (gT W g) (tS W EX bs B) D σ H:=by
 obtain⟨ρ,os,hR,hn,hA⟩:=h
 try dsimp only at hA
 refine⟨ρ,os,hR,hn,after hR hA λhs ρ1 vs H1 o1 os1 h1 h2 h3 h4 h5=>?_⟩;unfold Jk at h5;cases ec:A9 ρ1 hs with
 |none=>rw[ec]at h5;exact h5.elim
 |some cs =>
   rw[ec]at h5;dsimp only at h5;cases ex:Ap k cs with
   |none=>rw[ex]at h5;exact h5.elim
   |some xs =>
     rw[ex]at h5;dsimp only at h5;refine⟨cs,xs,DD h2 h1 ec,ex,λJ hJ=>?_⟩;split at h5
     case isFalse=>exact h5.elim
     rename_i hgd;rw[bA]at hgd
     have hgs:∀q∈guards hs cs,q.1∉g.slots++bs:=λq hq z=>by
      have:=all_eq_true.mp hgd.2 q hq;simp only[Bool.not_eq_true',List.contains_eq_mem,decide_eq_false_iff_not]at this;exact this z
     have own1:=B2.own h1
     refine⟨λi m σ' H'=>m=xs.length - i/\i<=xs.length/\∃ρ' os',A4 W H' ρ' σ' os'/\(o1++os').Nodup/\AG H1 H' os1 os'/\AF (g.slots++bs) σ σ'/\CG W EX (g.slots++bs) D σ' H' (o1++os') (forL g (guards hs cs) B (xs.drop i) ρ'),
      ⟨xs.length,rfl,Nat.zero_le _,ρ1,os1,h2,h3,AG.refl _ _,AF.refl _ _,h5⟩,?_⟩
     rintro i m σ' H' ⟨rfl,hix,ρ',os',hR',hn',hF',hU',hA'⟩
     have k1:AE H1 H':=hF'.but.keep h2.own;have rd:holds (guards hs cs) ρ'=true->Cq W H' cs vs:=λhh=>II hR' k1 hF'.but h1 ec h2 hgd.1 (λq hq=>⟨HN hh q hq,hU'.2 q.1 (hgs q hq)⟩) λa ha z=>(nA h3).2.2 a ha a z rfl
     have nd':=(nA hn').2.1
     by_cases hlt:i < xs.length
     .rw [List.drop_eq_getElem_cons hlt]at hA';unfold forL at hA';split at hA'
      case isFalse=>exact hA'.elim
      rename_i hh;have hrd:=rd hh
      refine .inr ⟨hJ.go i H' hrd hlt,λσ2 H2=>∃ρ' os',A4 W H2 ρ' σ2 os'/\(o1++os').Nodup/\AG H1 H2 os1 os'/\AF (g.slots++bs) σ σ2/\CG W EX (g.slots++bs) D σ2 H2 (o1++os') (forL g (guards hs cs) B (xs.drop (i + 1)) ρ'),
       λσ2 H2 z=>⟨xs.length-(i+1),by lia,rfl,hlt,z⟩,λx H'' hy=>?_⟩
      obtain⟨s2,p,ep,rp⟩:=hJ.KY i H' x H'' hrd hlt hy;have ep:xs[i]=p:=by rw[List.getElem?_eq_getElem hlt]at ep;exact Option.some.inj ep
      rw[ep]at hA';cases es:EM g p ρ' with
      |none=>rw[es]at hA';exact hA'.elim
      |some ρ2=>
        rw[es]at hA'
        have hA':CG W EX (g.slots++bs) D σ' H' (o1++os') ((B ρ2).bind λf ρ=>match f with
         |.nx=>forL g (guards hs cs) B (xs.drop (i+1)) ρ
         |.cnt=>forL g (guards hs cs) B (xs.drop (i+1)) ρ
         |.brk=>.ok .nx ρ
         |.ret r=>.ok (.ret r) ρ):=hA'
        refine R8 es rp (hR'.same s2) nd' (λj hj=>by rw[hU'.1];exact hi j hj) λσ2 os2 g1 g2 g3 g4=>?_
        refine⟨ρ2,os2,g1,g2,?_⟩;have m1:∀i∈g.slots,i∈g.slots++bs:=λi hi=>mL hi
        have m2:∀i∈bs,i∈g.slots++bs:=λi hi=>mR hi
        have fr2:AG H' H'' (o1++os') (o1++os2):=.of s2 λa ha=>by
         rcases mem_append.mp ha with z|z
         .exact .inl (mL z)
         .exact .inl (mR (g3 a z))
        have hA2:=hA'.later fr2 (g4.mono m1)
        have own2:∀a∈o1,∃z,H'' a=some z:=λa ha=>by
         obtain⟨z,ez⟩:=own1 a ha;obtain⟨z',ez'⟩:=hF'.there a z ez;exact⟨z',s2 a z' ez'⟩
        have n2:(o1++os2).Nodup:=MK hn' g2 (λa ha=>by
         obtain⟨z,ez⟩:=own1 a ha
         exact hF'.there a z ez) λa ha=>.inl (g3 a ha)
        have go:∀σ3 H3 os3 ρ3,A4 W H3 ρ3 σ3 os3->os3.Nodup->AG H'' H3 os2 os3->AF bs σ2 σ3->CG W EX (g.slots++bs) D σ2 H'' (o1++os2) (forL g (guards hs cs) B (xs.drop (i + 1)) ρ3)->
         ∃ρ' os',A4 W H3 ρ' σ3 os'/\(o1++os').Nodup/\AG H1 H3 os1 os'/\AF (g.slots++bs) σ σ3/\CG W EX (g.slots++bs) D σ3 H3 (o1++os') (forL g (guards hs cs) B (xs.drop (i+1)) ρ'):=λσ3 H3 os3 ρ3 r1 r2 r3 r4 r6=>by
         refine⟨ρ3,os3,r1,MK n2 r2 own2 r3.src,?_,(hU'.trans (g4.mono m1)).trans (r4.mono m2),r6.later (r3.more o1) (r4.mono m2)⟩;have f1:AG H' H'' os' os2:=.of s2 λa ha=>.inl (g3 a ha)
         exact(hF'.trans f1).trans r3
        cases eB:B ρ2 with
        |stuck=>rw[eB]at hA2;exact hA2
        |err x p ρ3=>
          rw[eB]at hA2;exact λσ3 H3 os3 r1 r2 r3 r4=>hA2 σ3 H3 os3 r1 r2 (r3.weak λa ha=>mR ha) (r4.mono m2)
        |ok f ρ3=>
          rw[eB,Res.A2]at hA2;cases f with
          |nx=>exact λσ3 H3 os3 r1 r2 r3 r4=>go σ3 H3 os3 ρ3 r1 r2 r3 r4 hA2
          |cnt=>exact λσ3 H3 os3 r1 r2 r3 r4=>go σ3 H3 os3 ρ3 r1 r2 r3 r4 hA2
          |brk=>exact λσ3 H3 os3 r1 r2 r3 r4=>hA2 σ3 H3 os3 r1 r2 (r3.weak λa ha=>mR ha) (r4.mono m2)
          |ret c=>exact λv σ3 H3 o3 os3 r0 r1 r2 r3 r4=>hA2 v σ3 H3 o3 os3 r0 r1 r2 (r3.weak λa ha=>mR ha) (r4.mono m2)
     .have e:i=xs.length:=by lia
      subst e;rw[List.drop_length]at hA';unfold forL at hA';split at hA'
      case isFalse=>exact hA'.elim
      rename_i hh;exact .inl ⟨hJ.stop H' (rd hh),hA' σ' H' os' hR' nd' ((AG.refl _ _).sub λa ha=>mR ha) (AF.refl _ _)⟩
noncomputable def IC(W:Wd)(r:List C->CR):Sp:=λvs H Q E=>∃cs os,A4 W H (cs.map some) (vs.map some) os/\os.Nodup/\match r cs with
 |.stuck=>False
 |.ok c outs=>∀v H' o oos,AQ W H' c v o->A4 W H' outs (vs.map some) oos->(o++oos).Nodup->AG H H' os (o++oos)->Q v H'
 |.err x _=>∀H',A4 W H' [] [] []->AG H H' os []->E (.ref (W.B7 x)) none H'
def EE(W:Wd)(EX:XP)(σ:St):XK:=λcls _ H'=>∃x p,cls= .ref (W.B7 x)/\EX x p σ H'
theorem DU(h:Hd)(hs:List Hd)(c:C)(cs:List C):Bw (h::hs) (c::cs)=(if c.cp then[]else match h with| .slot i=>[i]| .fld i _=>[i]| .AD _=>[])++Bw hs cs:=by
 unfold Bw;rw[zip_cons_cons,filterMap_cons]
 by_cases hc:c.cp=true
 .simp[hc]
 .cases h<;>simp[hc]
theorem US{h:Hd}{c:C}(hR:A4 W H ρ σ os)(hh:E8 W σ H ρ h v o)(e:h.cont ρ=some c)(hc:c.cp=true):AQ W H c v []:=by
 have hrd:=F7 hR hh e;cases c with
 |obj _ _=>cases hc
 |b x=>
   cases x with
   |lst _=>cases hc
   |D2 _=>cases hc
   |p x=>exact⟨hrd,rfl⟩
   |ro x=>exact⟨hrd,rfl⟩
theorem F4{l:List Nat}{i:Nat}(h:i∉l):∀{ρ:Env},A6 (l.foldl (λr i=>r.set i none) ρ) i=A6 ρ i:=by
 induction l with
 |nil=>intro ρ;rfl
 |cons j l ih=>
   intro ρ;rw[foldl_cons,ih (λz=>h (mC z))];unfold A6;rw[List.getElem?_set_ne];exact λz=>h (z▸mS)
theorem DV{os0:List Addr}(hR0:A4 W H ρ0 σ os0):∀{hs:List Hd} {cs:List C} {vs:List V} {o:List Addr} {ρ:Env} {os:List Addr},B2 W σ H ρ0 hs vs o->A9 ρ0 hs=some cs->An hs cs=true->(Bw hs cs).Nodup->
 (∀j∈Bw hs cs,A6 ρ j=A6 ρ0 j)->A4 W H ρ σ os->∃oa or_,A4 W H (cs.map some) (vs.map some) oa/\A4 W H ((Bw hs cs).foldl (λr i=>r.set i none) ρ) σ or_/\(oa++or_).Perm (o++os)
 | [],cs,vs,o,ρ,os,h,e,_,_,_,hR=>by
   cases e;obtain⟨rfl,rfl⟩:=h;exact⟨[],os,⟨rfl,rfl,hR0.tb⟩,hR,.refl _⟩
 | h ::hs,cs,vs,o,ρ,os,⟨v,r,o1,o2,e1,h1,h2,e2⟩,e,g,n,hcur,hR=>by
   unfold A9 at e;obtain⟨c,ec,e⟩:=oB e;obtain⟨ds,ed,rfl⟩:=oM e;subst e1 e2;obtain⟨g1,g2⟩:=CA g;rw[DU]at n hcur ⊢;have n2:(Bw hs ds).Nodup:=(nA n).2.1;have hcur2:∀j∈Bw hs ds,A6 ρ j=A6 ρ0 j:=λj hj=>hcur j (mR hj)
   by_cases hc:c.cp=true
   .have rc:=US hR0 h1 ec hc;obtain⟨oa,or_,q1,q2,q3⟩:=DV hR0 h2 ed g2 n2 hcur2 hR
    have ho1:o1=[]:=by
     cases h with
     |AD d=>cases ec;exact AQ.cp h1 hc
     |slot i=>exact h1.2
     |fld i f=>exact h1.1
    subst ho1;rw[iP hc];exact⟨oa,or_,⟨v,r.map some,[],oa,rfl,rc,q1,rfl⟩,q2,q3⟩
   .have hcf:c.cp=false:=by simpa using hc
    rw[iN hc]at n hcur ⊢;cases h with
    |fld i f=>exact absurd rfl (g1.resolve_left hc i f)
    |AD d=>
      cases ec;obtain⟨oa,or_,q1,q2,q3⟩:=DV hR0 h2 ed g2 n2 hcur2 hR;refine⟨o1++oa,or_,⟨v,r.map some,o1,oa,rfl,h1,q1,rfl⟩,q2,?_⟩;rw[append_assoc,append_assoc];exact q3.append_left o1
    |slot i=>
      have ec:A6 ρ0 i=some c:=ec;have hi:A6 ρ i=some c:=(hcur i (mL mS)).trans ec;obtain⟨u,oi,osr,t1,t2,t3,t4⟩:=hR.take hi;rw[h1.1]at t1;cases t1;have hni:i∉Bw hs ds:=λz=>(nA n).2.2 i mS i z rfl
      obtain⟨oa,or_,q1,q2,q3⟩:=DV hR0 h2 ed g2 n2 (λj hj=>by
       rw[<-hcur2 j hj];unfold A6;rw[List.getElem?_set_ne]
       exact λz=>hni (z▸hj)) t3
      have ho1:o1=[]:=h1.2;subst ho1;refine⟨oi++oa,or_,⟨v,r.map some,oi,oa,rfl,t2,q1,rfl⟩,q2,?_⟩;rw[append_assoc];refine(q3.append_left oi).trans ?_;refine List.Perm.trans ?_ (t4.append_left ([]++o2));rw[nil_append,<-append_assoc,<-append_assoc];exact perm_append_comm.append_right osr
theorem Fc :∀{hs:List Hd} {cs:List C} {vs:List V} {outs:List (Option C)} {o0:List Addr} {H0:Hp} {ρ ρ':Env} {os oos:List Addr},B2 W σ H0 ρ0 hs vs o0->back ρ hs cs outs=some ρ'->A4 W H outs (vs.map some) oos->A4 W H ρ σ os->(oos++os).Nodup->
 (Bw hs cs).Nodup->(∀j∈Bw hs cs,A6 ρ j=none/\j < ρ.length)->∃os',A4 W H ρ' σ os'/\os'.Nodup/\∀a∈os',a∈oos++os
 | [],cs,vs,outs,o0,H0,ρ,ρ',os,oos,h,e,ro,hR,n,_,_=>by
   cases cs with
   |nil=>
     unfold back at e;cases e;exact⟨os,hR,(nA n).2.1,λa ha=>mR ha⟩
   |cons c cs=>unfold back at e;cases e
 | h ::hs,cs,vs,outs,o0,H0,ρ,ρ',os,oos,⟨v,r,o1,o2,e1,h1,h2,e2⟩,e,ro,hR,n,nl,hem=>by
   subst e1;cases cs with
   |nil=>cases h<;>(unfold back at e;cases e)
   |cons c cs =>
     cases outs with
     |nil=>cases h<;>(unfold back at e;cases e)
     |cons out outs=>
       rw[DU]at nl hem;have nl2:=(nA nl).2.1;have hem2:∀j∈Bw hs cs,A6 ρ j=none/\j < ρ.length:=λj hj=>hem j (mR hj)
       obtain⟨of_,or_,hof,hrest,hoos⟩:∃of_ or_,(∀c',out=some c'->AQ W H c' v of_)/\A4 W H outs (r.map some) or_/\oos=of_++or_:=by
        cases out with
        |none=>
          obtain⟨x,r',z1,z2⟩:=ro;cases z1;exact⟨[],oos,(λ_ z=>by cases z),z2,rfl⟩
        |some c'=>
          obtain⟨v',r',o1',o2',z1,z2,z3,z4⟩:=ro;cases z1;exact⟨o1',o2',(λ_ z=>by cases z;exact z2),z3,z4⟩
       subst hoos
       have nr:(or_++os).Nodup:=by
        rw[append_assoc]at n;exact(nA n).2.1
       have skip:back ρ hs cs outs=some ρ'->∃os',A4 W H ρ' σ os'/\os'.Nodup/\∀a∈os',a∈(of_++or_)++os:=λe=>by
        obtain⟨os',q1,q2,q3⟩:=Fc h2 e hrest hR nr nl2 hem2;refine⟨os',q1,q2,λa ha=>?_⟩;rcases mem_append.mp (q3 a ha)with z|z
        .exact mL (mR z)
        .exact mR z
       by_cases hc:c.cp=true
       .cases h with
        |AD d=>exact skip e
        |slot i=>unfold back at e;rw[iP hc]at e;exact skip e
        |fld i f=>unfold back at e;rw[iP hc]at e;exact skip e
       .cases h with
        |AD d=>exact skip e
        |fld i f=>unfold back at e;rw[iN hc]at e;cases e
        |slot i=>
          unfold back at e;rw[iN hc]at e nl hem;have hi:=hem i (mL mS);have hni:i∉Bw hs cs:=λz=>(nA nl).2.2 i mS i z rfl
          have hem3:∀(x:Option C),∀j∈Bw hs cs,A6 (ρ.set i x) j=none/\j < (ρ.set i x).length:=λx j hj=>by
           refine⟨?_,by rw[length_set];exact(hem2 j hj).2⟩;have ne:i≠j:=λz=>hni (by rw[z];exact hj)
           have:=(hem2 j hj).1;unfold A6 at this ⊢;rw[List.getElem?_set_ne ne];exact this
          cases out with
          |none=>
            obtain⟨os1,t1,od,t2⟩:=hR.drop i
            obtain⟨os',q1,q2,q3⟩:=Fc h2 e hrest t1 (by
             have:=nr;rw[nodup_append]at this ⊢;have p2:=(nA (t2.nodup_iff.mpr this.2.1)).2.1
             exact⟨this.1,p2,λa ha b hb=>this.2.2 a ha b (t2.subset (mR hb))⟩) nl2 (hem3 none)
            refine⟨os',q1,q2,λa ha=>?_⟩;rcases mem_append.mp (q3 a ha)with z|z
            .exact mL (mR z)
            .exact mR (t2.subset (mR z))
          |some c'=>
            obtain⟨os1,t1,t2⟩:=A4.fill (hof c' rfl) hR hi.1 hi.2;rw[set_same h1.1]at t1
            have p1:(or_++os1).Perm ((of_++or_)++os):=by
             refine(t2.append_left or_).trans ?_;rw[<-append_assoc];exact perm_append_comm.append_right os
            obtain⟨os',q1,q2,q3⟩:=Fc h2 e hrest t1 (p1.nodup_iff.mpr n) nl2 (hem3 (some c'));exact⟨os',q1,q2,λa ha=>p1.subset (q3 a ha)⟩
theorem CB{l:List Nat}:∀{ρ:Env},(l.foldl (λr i=>r.set i none) ρ).length=ρ.length:=by
 induction l with
 |nil=>intro ρ;rfl
 |cons j l ih=>intro ρ;rw[foldl_cons,ih,length_set]
theorem Cj{l:List Nat}{i:Nat}(h:i∈l):∀{ρ:Env},A6 (l.foldl (λr i=>r.set i none) ρ) i=none:=by
 induction l with
 |nil=>cases h
 |cons j l ih=>
   intro ρ;rw[foldl_cons]
   by_cases hi:i∈l
   .exact ih hi
   .have:i=j:=(mK h).resolve_right hi;subst this;rw[F4 hi];unfold A6;rw[List.getElem?_set_self'];cases ρ[i]?<;>rfl
theorem J2{ρ:Env}:∀{hs:List Hd} {cs:List C},A9 ρ hs=some cs->An hs cs=true->∀j∈Bw hs cs,j < ρ.length
 |[],cs,e,_,j,hj=>by cases e;cases hj
 | h ::hs,cs,e,g,j,hj=>by
   unfold A9 at e;obtain⟨c,ec,e⟩:=oB e;obtain⟨ds,ed,rfl⟩:=oM e;obtain⟨g1,g2⟩:=CA g;rw[DU]at hj;rcases mem_append.mp hj with z|z
   .by_cases hc:c.cp=true
    .rw[iP hc]at z;cases z
    .rw[iN hc]at z;cases h with
     |AD d=>cases z
     |fld i f=>exact absurd rfl (g1.resolve_left hc i f)
     |slot i=>
       rw[mE z];exact BL ec
   .exact J2 ed g2 j z
variable{hs:List Hd}{cs:List C}{vs:List V}{os1:List Addr}
theorem MY{r:List C->CR}{Q:VK}{E:XK}(h1:B2 W σ H ρ1 hs vs o1)(h2:A4 W H ρ1 σ os1)(h3:(o1++os1).Nodup)(ec:A9 ρ1 hs=some cs)(hg:(Bw hs cs).Nodup/\An hs cs=true)
 {outs:List (Option C)}(er:r cs= .ok c outs){ρ2:Env}(eb:back (lend ρ1 hs cs) hs cs outs=some ρ2)(hA:BQ W EX (rV W σ) H (o1++os1) σ (.ok c ρ2) Q):IC W r vs H Q E:=by
 obtain⟨oa,or_,q1,q2,q3⟩:=DV h2 h1 ec hg.2 hg.1 (λ_ _=>rfl) h2;have q2:A4 W H (lend ρ1 hs cs) σ or_:=q2;have na:=q3.nodup_iff.mpr h3;have na':=nA na;refine⟨cs,oa,q1,na'.1,?_⟩;rw[er];intro v H' o oos r1 r2 r3 r4;have k1:AE H H':=r4.but.keep q1.own;have q2':A4 W H' (lend ρ1 hs cs) σ or_:=q2.frame r2.tb k1 r4.but λa ha z=>na'.2.2 a z a ha rfl
 have r3':=nA r3
 have ndo:∀a∈o++oos,a∉or_:=λa ha z=>by
  rcases r4.src a ha with y|y
  .exact na'.2.2 a y a z rfl
  .obtain⟨x,ex,_⟩:=q2.own a z;rw[y]at ex;cases ex
 obtain⟨os',t1,t2,t3⟩:=Fc (ρ0:=ρ1) h1 eb r2 q2' (by
  rw[nodup_append]
  exact⟨r3'.2.1,na'.2.1,λa ha b hb z=>ndo a (mR ha) (z▸hb)⟩) hg.1 λj hj=>⟨Cj hj,by
   show j < ((Bw hs cs).foldl _ ρ1).length;rw[CB]
   exact J2 ec hg.2 j hj⟩
 have hA:∀v H' o os',rV W σ H' ρ2 c v o->A4 W H' ρ2 σ os'->(o++os').Nodup->AG H H' (o1++os1) (o++os')->Q v H':=hA;refine hA v H' o os' r1 t1 ?_ ?_
 .rw[nodup_append];refine⟨r3'.1,t2,λa ha b hb z=>?_⟩;subst z;rcases mem_append.mp (t3 a hb)with y|y
  .exact r3'.2.2 a ha a y rfl
  .exact ndo a (mL ha) y
 .have f1:=(r4.more or_).perm (perm_append_comm.trans q3) (.refl _);refine f1.sub λa ha=>?_
  rcases mem_append.mp ha with z|z
  .exact mR (mL z)
  .rcases mem_append.mp (t3 a z)with y|y
   .exact mR (mR y)
   .exact mL y
theorem Ko{r:List C->CR}{Q:VK}{E:XK}(h1:B2 W σ H ρ1 hs vs o1)(h2:A4 W H ρ1 σ os1)(h3:(o1++os1).Nodup)(ec:A9 ρ1 hs=some cs)(hg:(Bw hs cs).Nodup/\An hs cs=true)
 {x:Nat}(er:r cs= .err x p)(hA:∀H' os',A4 W H' (lend ρ1 hs cs) σ os'->os'.Nodup->AG H H' (o1++os1) os'->E (.ref (W.B7 x)) none H'):IC W r vs H Q E:=by
 obtain⟨oa,or_,q1,q2,q3⟩:=DV h2 h1 ec hg.2 hg.1 (λ_ _=>rfl) h2;have q2:A4 W H (lend ρ1 hs cs) σ or_:=q2;have na':=nA (q3.nodup_iff.mpr h3);refine⟨cs,oa,q1,na'.1,?_⟩;rw[er];intro H' r2 r4;have q2':A4 W H' (lend ρ1 hs cs) σ or_:=q2.frame r2.tb (r4.but.keep q1.own) r4.but λa ha z=>na'.2.2 a z a ha rfl
 exact hA H' or_ q2' na'.2.1 (((r4.more or_).perm (perm_append_comm.trans q3) (.refl _)).sub λa ha=>mL ha)
theorem F9{cf:CF}{f:Nat}{Q:VK}(h:tG W EX (rV W) (λρ=>(F ρ).bind λhs ρ=>Aq cf f hs ρ) σ H Q):tG W EX (B2 W) F σ H λvs H1=>IC W (cf f) vs H1 Q (EE W EX σ):=by
 obtain⟨ρ,os,hR,hn,hA⟩:=h;dsimp only at hA;refine⟨ρ,os,hR,hn,?_⟩;unfold BQ;cases eF:F ρ with
 |stuck=>rw[eF]at hA;exact hA
 |err x p ρ'=>rw[eF]at hA;exact hA
 |ok hs ρ1=>
   rw[eF,Res.A2]at hA;intro vs H1 o1 os1 h1 h2 h3 h4;have hA:=BQ.shift hA h4;unfold Aq at hA;cases ec:A9 ρ1 hs with
   |none=>rw[ec]at hA;exact hA.elim
   |some cs=>
     rw[ec]at hA;dsimp only at hA;split at hA
     case isFalse=>exact hA.elim
     rename_i hg;cases ecf:cf f cs with
     |stuck=>rw[ecf]at hA;exact hA.elim
     |err x p=>
       rw[ecf]at hA;exact Ko h1 h2 h3 ec hg ecf λH' os' r1 r2 r3=>⟨x,p,rfl,hA H' os' r1 r2 r3⟩
     |ok c outs=>
       rw[ecf]at hA;cases eb:back (lend ρ1 hs cs) hs cs outs with
       |none=>dsimp only at hA;rw[eb]at hA;exact hA.elim
       |some ρ2=>
         dsimp only at hA;rw[eb]at hA;exact MY h1 h2 h3 ec hg ecf eb hA
theorem Bq.addr(h:Bq W H b (.ref a) o)(nb:C.cp (.b b)=false):o=[a]:=by
 cases b with
 |p x=>cases nb
 |ro x=>cases nb
 |lst ps=>obtain⟨a',vs,e,_,_,rfl⟩:=h;cases e;rfl
 |D2 kvs=>obtain⟨a',e,_,rfl⟩:=h;cases e;rfl
theorem Cb{a:Addr}{l:List Addr}(h:a∈l):Hr l H (upd H a x):=λb y e n _=>by
 have ne:b≠a:=λz=>n (by rw[z];exact h)
 rw[A5 ne];exact e
theorem B1.upd(k:AE H (upd H a x'))(hb':Bq W (upd H a x') b' (.ref a) [a]):∀{fs:List (Str×B)} {vs:List (Str×V)} {o:List Addr} {b:B},B1 W H fs vs o->o.Nodup->fs.lookup f=some b->C.cp (.b b)=false->vs.lookup f=some (.ref a)->B1 W (L2.upd H a x') (B6 f b' fs) vs o
 |[],_,_,_,_,_,e,_,_=>by simp at e
 | (g, c)::fs,_,_,b,⟨v,r,o1,o2,e1,h1,h2,e⟩,n,el,nb,ev=>by
   subst e1 e;rw[lookup_cons]at el ev;have n':=nA n;unfold B6;cases hg:f == g with
   |true=>
     rw[hg]at el ev;cases el;cases ev;have:g=f:=(eq_of_beq hg).symm;subst this;rw[iP rfl];have ho:=h1.addr nb;subst ho;exact⟨_,r,[a],o2,rfl,hb',h2.frame k (Cb (l:=[a]) mS) (λb hb z=>n'.2.2 a mS b hb (mE z).symm),rfl⟩
   |false=>
     rw[hg]at el ev;dsimp only at el ev;rw[iN (λz=>by rw[z]at hg;simp at hg)]
     have ha:a∈o2:=by
      obtain⟨u,o',q1,q2,q3⟩:=h2.look el;rw[ev]at q1;cases q1;have:=q2.addr nb;subst this;exact q3 a mS
     exact⟨v,r,o1,o2,rfl,h1.frame k (Cb (l:=[a]) mS) (λb hb z=>n'.2.2 b hb a ha (mE z)),B1.upd k hb' h2 n'.2.1 el nb ev,rfl⟩
theorem Nk{ρ':Env}{h:Hd}(hR:A4 W H ρ σ os)(hn:os.Nodup)(hc:h.cont ρ=some (.b b))(hh:E8 W σ H ρ h (.ref a) o)(nb:C.cp (.b b)=false)
 (hb':Bq W (upd H a x') b' (.ref a) [a])(k:AE H (upd H a x'))(es:setB ρ h b'=some ρ'):∃os',A4 W (upd H a x') ρ' σ os'/\os'.Perm os/\AG H (upd H a x') os os':=by
 have fin:a∈os->∀os',os'.Perm os->AG H (upd H a x') os os':=λha os' p=>⟨Cb ha,λc hc=>.inl (p.subset hc),λc y e=>by
  by_cases hca:c=a
  .subst hca;exact⟨_,Ac⟩
  .exact⟨y,by rw[A5 hca];exact e⟩⟩
 cases h with
 |AD c=>cases es
 |slot i=>
   cases es;have hc:A6 ρ i=some (.b b):=hc;obtain⟨v,oi,osr,t1,t2,t3,t4⟩:=hR.take hc;rw[hh.1]at t1;cases t1;have hoi:oi=[a]:=Bq.addr t2 nb;subst hoi;have nd:=nA (t4.nodup_iff.mpr hn);have t3':=t3.frame (let⟨_,e,n⟩:=Bq.nt t2;t3.tb.upd k e n) k (Cb (x:=x') (l:=[a]) mS) λc hc z=>nd.2.2 a mS c hc (mE z).symm
   obtain⟨os2,u1,u2⟩:=A4.fill (c:=.b b') (v:=.ref a) (o:=[a]) hb' t3' (Ba (BL hc)) (by rw[length_set];exact BL hc);rw[set_set,set_same hh.1]at u1;have p:=u2.trans t4;exact⟨os2,u1,p,fin (t4.subset (mL mS)) os2 p⟩
 |fld i f=>
   obtain⟨_,a0,C0,dx,fs0,e1,e2,e3⟩:=hh;have hc:Bi ρ i f=some (.b b):=hc;unfold Bi at hc;unfold setB at es;dsimp only at es;cases hg:A6 ρ i with
   |none=>rw[hg]at hc;cases hc
   |some d=>
     rw[hg]at hc es;cases d with
     |b y=>cases hc
     |obj kk fs=>
       have hl:fs.lookup f=some b:=by
        obtain⟨z,ez,e⟩:=oM hc;cases e;exact ez
       cases es;obtain⟨v,oi,osr,t1,t2,t3,t4⟩:=hR.take hg;rw[e1]at t1;cases t1;obtain⟨a',dx',vs,osf,z,q1,q2,q3,q4⟩:=t2;cases z;rw[e2]at q1;cases q1;subst q3;have nd:=nA (t4.nodup_iff.mpr hn);have nf:=nodup_cons.mp nd.1
       obtain⟨haf,_,hny,hnt⟩:a∈osf/\∃y,H a=some y/\HL y=false:=by
        obtain⟨u,o',y1,y2,y3⟩:=q2.look hl;rw[e3]at y1;cases y1;have:=y2.addr nb;subst this;exact⟨y3 a mS,Bq.nt y2⟩
       have ne:a0≠a:=λz=>nf.1 (z▸haf)
       have q2':=q2.upd k hb' nf.2 hl nb e3;have t3':=t3.frame (t3.tb.upd k hny hnt) k (Cb (x:=x') (l:=[a]) mS) λc hc z=>nd.2.2 a (mC haf) c hc (mE z).symm
       obtain⟨os2,u1,u2⟩:=A4.fill (c:=.obj kk (B6 f b' fs)) (v:=.ref a0) (o:=a0::osf) ⟨a0,dx,fs0,osf,rfl,by rw[A5 ne];exact e2,q2',rfl,q4.put (q4.2.1 _ (PySem.mem_of_lookup hl))⟩ t3' (Ba (BL hg)) (by rw[length_set];exact BL hg);rw[set_set,set_same e1]at u1;have p:=u2.trans t4;exact⟨os2,u1,p,fin (t4.subset (mL (mC haf))) os2 p⟩
theorem GJ(h:H a=some (.lst vs)):AE H (upd H a x'):=λb=>by
 by_cases hb:b=a
 .subst hb;refine⟨λxs z=>?_,λo u z=>?_⟩
  .rw[h]at z;cases z
  .rw[h]at z;cases z
 .rw[A5 hb];exact⟨λ_ z=>z,λ_ _ z=>z⟩
def KR(W:Wd)(m:MO)(r:V->List V->Hp->VK->Prop):Prop:=∀(H:Hp) (a:Addr) (b b':B) (cs:List C) (c:C) (vs:List V) (Q:VK),Bq W H b (.ref a) [a]->C.cp (.b b)=false->Cq W H cs vs->E4 m b cs=some (c,b')->
 (∀v x',Bq W (upd H a x') b' (.ref a) [a]->AE H (upd H a x')->AQ W (upd H a x') c v []->Q v (upd H a x'))->r (.ref a) vs H Q
theorem Te(h:Cq W H [] vs):vs=[]:=h
theorem Bz{c:C}(h:Cq W H [c] vs):∃v,vs=[v]/\CC W H c v:=by
 obtain⟨v,r,rfl,r1,r2⟩:=h;have r2:r=[]:=r2;subst r2;exact⟨v,rfl,r1⟩
theorem IW{m:MO}{r:V->List V->Hp->VK->Prop}(h:∀(H:Hp) (a:Addr) (ps:List P) (xs:List V) (b':B) (cs:List C) (c:C) (vs:List V) (Q:VK),H a=some (.lst xs)->A3 W H ps xs->Cq W H cs vs->E4 m (.lst ps) cs=some (c,b')->
 (∀v x',Bq W (upd H a x') b' (.ref a) [a]->AE H (upd H a x')->AQ W (upd H a x') c v []->Q v (upd H a x'))->r (.ref a) vs H Q):KR W m r:=by
 intro H a b b' cs c vs Q hb nb hv e q;cases b with
 |p _=>cases nb
 |ro _=>cases nb
 |D2 _=>exact absurd e (by unfold E4;exact nofun)
 |lst ps=>
   obtain⟨a',xs,ea,h1,h2,_⟩:=hb;cases ea;exact h H a ps xs b' cs c vs Q h1 h2 hv e q
theorem Lr:KR W .append MC:=IW λH a ps xs b' cs c vs Q h1 h2 hv e q=>by
 have e:DS ps cs=some (c,b'):=e;unfold DS at e;split at e
 .rename_i x;split at e
  .rename_i hl;cases e;obtain⟨v,rfl,r1⟩:=Bz hv;have k:=GJ (x':=.lst (xs++[v])) h1;refine⟨a,xs,v,rfl,rfl,h1,by rw[h2.length];exact Nat.lt_of_lt_of_le hl C3,?_⟩;exact q .Ai (.lst (xs++[v])) ⟨a,xs++[v],rfl,Ac,A3.append (.cons (Aw.mono k r1) .nil) (h2.mono k),rfl⟩ k ⟨By.mpr rfl,rfl⟩
  .cases e
 .cases e
theorem U5:KR W .pop cb:=IW λH a ps xs b' cs c vs Q h1 h2 hv e q=>by
 have e:Qy ps cs=some (c,b'):=e;unfold Qy at e;split at e
 .have hv:=Te hv;subst hv;obtain⟨x,ex,e⟩:=oM e;cases e;have k:=GJ (x':=.lst xs.dropLast) h1;rw[List.getLast?_eq_getElem?]at ex;obtain⟨v,ev,rv⟩:=h2.get ex;refine⟨a,xs,v,rfl,rfl,h1,by rw[h2.length];exact ev,?_⟩
  have hd:A3 W H ps.dropLast xs.dropLast:=by
   rw[List.dropLast_eq_take,List.dropLast_eq_take,h2.length];exact h2.take _
  exact q v (.lst xs.dropLast) ⟨a,xs.dropLast,rfl,Ac,hd.mono k,rfl⟩ k ⟨rv.mono k,rfl⟩
 .cases e
end Iv
namespace Iv
open PySem L2 PyProof.Rows
variable{X:Cx}{W:Wd}
variable{H:Hp}
theorem Nu{Pg:Program}{h:Heap}{xs:List V}(Ak:Dm Pg W.w H h)(Of:W.K.In h)(hs:ED W.K H a xs):∃its:List Value,Vals xs its/\IsTup h a its.toArray:=by
 rcases hs with hs|⟨o,its,n,hk,hc,hd,hz,r⟩
 .obtain⟨z,its,r,p⟩:=hs.ok Ak;exact⟨its,r,p⟩
 .exact⟨its.toList,r,⟨o,Of a o hk,hc,n,by simpa using hd⟩⟩
def Cp(o:O):C->C->Option C:=λa b=>(CS o a b).map λx=>.p (.bl x)
theorem B0{c:C}(h:Cp o a b=some c):∃x,CS o a b=some x/\c= .p (.bl x):=by
 obtain⟨x,h1,h2⟩:=oM h;exact⟨x,h1,h2.symm⟩
theorem E7.bl{b:Bool}{Q:VK}(q:E7 W H (.p (.bl b)) Q):Q (.bl b) H:=q.plain (Bh.mpr rfl)
theorem Qn(hK:W.K=X.K)(hw:W.w=X.w)(hu:X.A.units + 200 < cLine):BP X (compareOp .Eq) (BS W (Cp .eq))/\BP X (compareOp .NotEq) (BS W (Cp .ne)):=by
 have key:∀{pins s σ H x y v u} {c1 c2:C} {t:Bool} {Q:VK},Inv X pins σ H s->RelV x v->RelV y u->CC W H c1 x->CC W H c2 y->SD c1 c2=some t->SeqAt.RcAt X.A s v u t/\SeqAt.RcNeAt X.A s v u (!t):=by
  intro pins s σ H x y v u c1 c2 t Q I rx ry h1 h2 e;unfold SD at e;split at e
  .rename_i a b;unfold GV at e;split at e
   .rename_i i j;cases e;cases Ao h1;cases Ao h2;obtain⟨t,rfl⟩:=rx;obtain⟨t',rfl⟩:=ry;exact⟨SeqAt.RcAt.int_int _ _ _ _,SeqAt.RcNeAt.int_int _ _ _ _⟩
   .rename_i i j;cases e;cases Bl h1;cases Bl h2;obtain⟨t,rfl⟩:=rx;obtain⟨t',rfl⟩:=ry
    have:decide (i=j)=(i == j):=by
     by_cases h:i=j
     .subst h;simp
     .simp[h]
    rw[this];exact⟨SeqAt.RcAt.str_str _ _ _ _,SeqAt.RcNeAt.str_str _ _ _ _⟩
   .cases e
  .cases e
 constructor
 .rintro pins s σ H x y v u Q I rx ry ⟨c1,c2,c,h1,h2,e,q⟩
  obtain⟨t,et,rfl⟩:=B0 e;have et:SD c1 c2=some t:=et;exact(key (Q:=Q) I rx ry h1 h2 et).1 X.prog X.w _ _ ⟨.bl t,H,I,rfl,q.bl⟩
 .rintro pins s σ H x y v u Q I rx ry ⟨c1,c2,c,h1,h2,e,q⟩
  obtain⟨t,et,rfl⟩:=B0 e;obtain⟨t',et',rfl⟩:=oM (show(SD c1 c2).map (!·)=some t from et);exact(key (Q:=Q) I rx ry h1 h2 et').2 X.prog X.w _ _ ⟨.bl (!t'),H,I,rfl,q.bl⟩
theorem iB:BP X (compareOp .Lt) (BS W (Cp .lt)):=by
 rintro pins s σ H x y v u Q I rx ry ⟨c1,c2,c,h1,h2,e,q⟩
 obtain⟨t,et,rfl⟩:=B0 e;unfold CS at et;dsimp only at et;split at et
 .rename_i a b;unfold fY at et;split at et
  .rename_i i j;cases et;cases Ao h1;cases Ao h2;exact cJ pins s σ H _ _ v u Q I rx ry ⟨i,j,rfl,rfl,q.bl⟩
  .cases et
 .cases et
theorem iF:BP X (compareOp .Gt) (BS W (Cp .gt)):=by
 rintro pins s σ H x y v u Q I rx ry ⟨c1,c2,c,h1,h2,e,q⟩
 obtain⟨t,et,rfl⟩:=B0 e;unfold CS at et;dsimp only at et;split at et
 .rename_i a b;unfold fY at et;split at et
  .rename_i i j;cases et;cases Ao h1;cases Ao h2;exact cL pins s σ H _ _ v u Q I rx ry ⟨_,_,rfl,rfl,q.bl⟩
  .cases et
 .cases et
theorem iG:BP X (compareOp .GtE) (BS W (Cp .ge)):=by
 rintro pins s σ H x y v u Q I rx ry ⟨c1,c2,c,h1,h2,e,q⟩
 obtain⟨t,et,rfl⟩:=B0 e;unfold CS at et;dsimp only at et;split at et
 .cases et;cases Ao h1;cases Ao h2;exact cM pins s σ H _ _ v u Q I rx ry ⟨_,_,rfl,rfl,q.bl⟩
 .cases et
theorem O9(a b:List Nat):decide (a<=b)= !decide (b < a):=by
 by_cases h:b < a
 .have:¬a<=b:=λz=>not_lt.mpr z h
  simp[h,this]
 .have:a<=b:=not_lt.mp h;simp[h,this]
theorem iC:BP X (compareOp .LtE) (BS W (Cp .le)):=by
 rintro pins s σ H x y v u Q I rx ry ⟨c1,c2,c,h1,h2,e,q⟩
 obtain⟨t,et,rfl⟩:=B0 e;unfold CS at et;dsimp only at et;split at et
 .rename_i a b;unfold du at et;split at et
  .cases et;cases Ao h1;cases Ao h2;exact cK pins s σ H _ _ v u Q I rx ry ⟨_,_,rfl,rfl,q.bl⟩
  .cases et;cases Bl h1;cases Bl h2;refine NV pins s σ H _ _ v u Q I rx ry ⟨_,_,rfl,rfl,?_⟩;have:=q.bl;rw[O9]at this;exact this
  .cases et
 .cases et
theorem Lc(h:CC W H c x):decide (c= .p .Ai)=decide (x= .Ai):=by
 by_cases hx:x= .Ai
 .subst hx
  have:c= .p .Ai:=by
   cases c with
   |obj _ _=>obtain⟨_,_,_,z,_⟩:=h;cases z
   |b b=>
     cases b with
     |lst _=>obtain⟨_,_,z,_⟩:=h;cases z
     |ro _=>obtain⟨_,_,z,_⟩:=h;cases z
     |D2 _=>obtain⟨_,z,_⟩:=h;cases z
     |p p=>
       cases p with
       |Ai=>rfl
       |bl _=>cases My h
       |int _=>cases Ao h
       |str _=>cases Bl h
       |fn _=>cases (ET.mp (Xy h)).1
       |box _ _=>obtain⟨_,_,_,hv,_⟩:=Dq.mp (Xy h);cases hv
       |tup _=>obtain⟨_,_,z,_⟩:=BI h;cases z
  rw[this];simp
 .have:c≠.p .Ai:=λz=>by subst z;exact hx (IJ h)
  simp[hx,this]
theorem iD:BP X (compareOp .Is) (BS W (Cp .is)):=by
 rintro pins s σ H x y v u Q I rx ry ⟨c1,c2,c,h1,h2,e,q⟩
 obtain⟨t,et,_⟩:=B0 e;cases et
theorem cU:BP X (compareOp .IsNot) (BS W (Cp .Sz)):=by
 rintro pins s σ H x y v u Q I rx ry ⟨c1,c2,c,h1,h2,e,q⟩
 obtain⟨t,et,rfl⟩:=B0 e;unfold CS at et;dsimp only at et;split at et
 .cases et;cases IJ h2;refine TN pins s σ H _ _ v u Q I rx ry ⟨rfl,?_⟩;have:=q.bl;rw[Lc h1]at this;exact this
 .cases et
theorem iE:BP X (compareOp .In) (BS W (Cp .aD)):=by
 rintro pins s σ H x y v u Q I rx ry ⟨c1,c2,c,h1,h2,e,q⟩
 obtain⟨t,et,_⟩:=B0 e;cases et
theorem cQ:BP X (compareOp .NotIn) (BS W (Cp .fX)):=by
 rintro pins s σ H x y v u Q I rx ry ⟨c1,c2,c,h1,h2,e,q⟩
 obtain⟨t,et,_⟩:=B0 e;cases et
end Iv
namespace Kd
open PySem L2
theorem Pq{x:Str}{j:Int}(h0:0<=j)(h1:j<=x.length):Txt.slice x none (some j)=⟨((x.cps.toList.drop 0).take j.toNat).toArray⟩:=by
 have:=eq_of_beq (PyProof.Rows.slice_closes_toL (x:=x) h0 h1);rw[this];simp
theorem Gk{x:Str}{i:Int}(h0:0<=i)(h1:i<=x.length):Txt.slice x (some i) none=⟨((x.cps.toList.drop i.toNat).take ((x.length:Int)-i).toNat).toArray⟩:=PyProof.Rows.slice_from_eq h0 h1 rfl
end Kd
namespace Iv
open PySem L2 PyProof.Rows
variable{X:Cx}{W:Wd}
def TX(g:C->Option C):List C->Option C
 |[c]=>g c
 |_=>none
def fV(g:C->C->Option C):List C->Option C
 |[a,b]=>g a b
 |_=>none
variable{xs:List V}{H:Hp}
theorem DO{g:C->Option C}{Q:VK}(h:AZ W (TX g) xs H Q):∃x c r,xs=[x]/\CC W H c x/\g c=some r/\E7 W H r Q:=by
 obtain⟨cs,r,h1,h2,h3⟩:=h;unfold TX at h2;split at h2
 .obtain⟨x,rfl,hx⟩:=Bz h1;exact⟨x,_,r,rfl,hx,h2,h3⟩
 .cases h2
theorem Tf{g:C->C->Option C}{Q:VK}(h:AZ W (fV g) xs H Q):∃x y a b r,xs=[x,y]/\CC W H a x/\CC W H b y/\g a b=some r/\E7 W H r Q:=by
 obtain⟨cs,r,h1,h2,h3⟩:=h;unfold fV at h2;split at h2
 .obtain⟨x,t,rfl,hx,ht⟩:=h1;obtain⟨y,rfl,hy⟩:=Bz ht;exact⟨x,y,_,_,r,rfl,hx,hy,h2,h3⟩
 .cases h2
theorem C7{c:C}{ps:List P}(h:CC W H c x)(e:c.nf= .lst ps):∃a vs,x= .ref a/\Eg W.K H a vs/\A3 W H ps vs:=by
 cases c with
 |obj _ _=>cases e
 |b b=>
   cases b with
   |p _=>cases e
   |D2 _=>cases e
   |lst _=>cases e;obtain⟨a,vs,e1,e2,e3⟩:=h;exact⟨a,vs,e1,Eg.of e2,e3⟩
   |ro _=>cases e;obtain⟨a,vs,e1,e2,e3⟩:=h;exact⟨a,vs,e1,e2.sq,e3⟩
theorem Fo{c:C}(e:c.nf= .p p):c= .p p:=by
 cases c with
 |obj _ _=>cases e
 |b b=>cases b<;>cases e<;>rfl
theorem PD{ps:List P}(h:CC W H c x)(e:Hy c=some ps):∃a vs,x= .ref a/\(Eg W.K H a vs\/ED W.K H a vs)/\A3 W H ps vs:=by
 unfold Hy at e;split at e
 .rename_i hc;cases e;obtain⟨a,vs,e1,e2,e3⟩:=C7 h hc;exact⟨a,vs,e1,.inl e2,e3⟩
 .rename_i hc;cases e;rw[Fo hc]at h;obtain⟨a,vs,e1,e2,e3⟩:=BI h;exact⟨a,vs,e1,.inr e2,e3⟩
 .cases e
theorem G8(n d:Nat)(o:Option Int):Oy n d o=HT.Br n d o:=by
 cases o with
 |none=>rfl
 |some v=>
   have:=HT.Jt v n d;unfold Oy;dsimp only;split
   .rename_i h;rw[iP h]at this
    lia
   .rename_i h;rw[iN h]at this
    lia
variable{vs:List V}
theorem UP{ps:List P}(h:A3 W H ps vs)(lo hi:Option Int):A3 W H (cut ps lo hi) (Kx vs lo hi):=by
 unfold cut Kx;rw[G8,G8,h.length];exact(h.drop _).take _
def i9(W:Wd):V->Option Int->Option Int->Hp->VK->Prop:=λx lo hi H Q=>∃c r,CC W H c x/\D3 c lo hi=some r/\E7 W H r Q
theorem L7{x:Str}{i:Int}(h:(x.length:Int) < i):Txt.slice x (some i) none=Txt.slice x (some (x.length:Int)) none:=by
 have e:Builtin.Str.strSliceIndices (some i) none 1 x.length=Builtin.Str.strSliceIndices (some (x.length:Int)) none 1 x.length:=by
  unfold Builtin.Str.strSliceIndices;have h0:¬i < 0:=by lia
  have h1:¬((x.length:Int)) < 0:=by lia
  have h2:max 0 (min i (x.length:Int))=x.length:=by lia
  simp[h0,h1,h2]
 unfold Txt.slice;rw[e]
theorem Mt(hK:W.K=X.K):aR X (i9 W):=by
 intro pins s σ H x v vl vu lo hi sl Q I rx hs pl pu h;obtain⟨c,r,h1,e,q⟩:=h;unfold D3 at e;split at e
 .rename_i ps hc;cases e;rw[Fo hc]at h1;obtain⟨a,vs,rfl,k1,k2⟩:=BI h1
  by_cases hw:HT.Br vs.length 0 lo=0/\HT.Br vs.length vs.length hi=vs.length
  .refine T2 pins s σ H _ v vl vu lo hi sl Q I rx hs pl pu ⟨a,vs,rfl,hK▸k1,hw,?_⟩
   have e:cut ps lo hi=ps:=by
    unfold cut;rw[G8,G8,<-k2.length,hw.1,hw.2];simp[k2.length]
   rw[e]at q;exact q.plain (CM.mpr ⟨a,vs,rfl,k1,k2⟩)
  .exact Xb pins s σ H _ v vl vu lo hi sl Q I rx hs pl pu ⟨a,vs,rfl,hK▸k1,hw,q.tup (UP k2 lo hi)⟩
 .rename_i z hc;rw[Fo hc]at h1;cases Bl h1;obtain⟨y,ey,rfl⟩:=oM e;have hlen:z.cps.toList.length=z.length:=by show z.cps.toList.length=z.cps.size;simp
  unfold BY at ey;split at ey
  .rename_i j;split at ey
   case isFalse=>cases ey
   rename_i hj;cases ey;refine L8 pins s σ H _ v vl vu none (some j) sl Q I rx hs pl pu ⟨z,rfl,Nat.le_trans hj.2.2 C3,?_⟩;rw[Kd.Pq hj.1 hj.2.1];exact q.plain (AL.mpr rfl)
  .rename_i i;split at ey
   case isFalse=>cases ey
   rename_i hj;cases ey;refine L8 pins s σ H _ v vl vu (some i) none sl Q I rx hs pl pu ⟨z,rfl,Nat.le_trans hj.2 C3,?_⟩
   have e:Txt.slice z (some i) none=⟨(z.cps.toList.drop i.toNat).toArray⟩:=by
    by_cases h:(z.length:Int) < i
    .rw[L7 h,Kd.Gk (Int.natCast_nonneg _) (Int.le_refl _),Int.sub_self,List.drop_eq_nil_of_le (by lia:z.cps.toList.length<=i.toNat)];rfl
    .rw[Kd.Gk hj.1 (by lia),List.take_of_length_le];rw[length_drop,hlen]
     lia
   rw[e];exact q.plain (AL.mpr rfl)
  .rename_i i j;split at ey
   case isFalse=>cases ey
   rename_i hj;cases ey;refine L8 pins s σ H _ v vl vu (some i) (some j) sl Q I rx hs pl pu ⟨z,rfl,Nat.le_trans hj.2.2.2 C3,?_⟩;rw[eq_of_beq (PyProof.Rows.slice_closesL hj.1 hj.2.1 hj.2.2.1)];exact q.plain (AL.mpr rfl)
  .cases ey
 .cases e
theorem eR(hK:W.K=X.K):Bk X (.builtin "len") (AZ W (TX J5)):=by
 intro pins s σ H xs us Q I r h;obtain⟨x,c,r',rfl,h1,e,q⟩:=DO h;have e0:=e;unfold J5 at e;split at e
 .rename_i ps hc;cases e;obtain⟨a,vs,rfl,k1,k2⟩:=C7 h1 hc;refine GZ pins s σ H _ us Q I r ⟨_,_,rfl,.inl ⟨vs,hK▸k1,rfl⟩,?_⟩;rw[k2.length];exact q.plain (Ae.mpr rfl)
 .rename_i ps hc;cases e;rw[Fo hc]at h1;obtain⟨a,vs,rfl,k1,k2⟩:=BI h1;refine GZ pins s σ H _ us Q I r ⟨_,_,rfl,.inr ⟨vs,hK▸k1,rfl⟩,?_⟩;rw[k2.length];exact q.plain (Ae.mpr rfl)
 .rename_i z hc;split at e
  case isFalse=>cases e
  rename_i hl;cases e;rw[Fo hc]at h1;cases Bl h1;exact GZ pins s σ H _ us Q I r ⟨_,_,rfl,⟨Nat.le_trans hl C3,rfl⟩,q.plain (Ae.mpr rfl)⟩
 .cases e
theorem V2(hK:W.K=X.K):Bk X (.type "tuple") (AZ W (TX λc=>(Hy c).map λx=>.p (.tup x))):=by
 intro pins s σ H xs us Q I r h;obtain⟨x,c,r',rfl,h1,e,q⟩:=DO h;obtain⟨ps,ep,rfl⟩:=oM e;obtain⟨a,vs,rfl,k1,k2⟩:=PD h1 ep;rcases k1 with k1|k1
 .exact Ef pins s σ H _ us Q I r ⟨a,vs,rfl,.inl ⟨hK▸k1,q.tup k2⟩⟩
 .exact Ef pins s σ H _ us Q I r ⟨a,vs,rfl,.inr ⟨hK▸k1,q.plain (CM.mpr ⟨a,vs,rfl,k1,k2⟩)⟩⟩
theorem Ih:∀{ps:List P} {vs:List V} {ns:List Bool},A3 W H ps vs->EB ps=some ns->vs=ns.map V.bl
 |[],vs,ns,h,e=>by unfold A3 at h;cases e;exact h
 | .bl i::ps,vs,ns,h,e=>by
   unfold EB at e;obtain⟨ms,em,rfl⟩:=oM e;unfold A3 at h;obtain⟨v,r,rfl,h1,h2⟩:=h;cases Bh.mp h1;rw[Ih h2 em];rfl
 |.Ai::_,_,_,_,e=>by cases e
 |.int _::_,_,_,_,e=>by cases e
 |.str _::_,_,_,_,e=>by cases e
 |.tup _::_,_,_,_,e=>by cases e
 |.fn _::_,_,_,_,e=>by cases e
 |.box _ _::_,_,_,_,e=>by cases e
theorem eY(hK:W.K=X.K)(hc:X.calm=true):Bk X (.builtin "all") (AZ W (TX Md)):=by
 intro pins s σ H xs us Q I r h;obtain⟨x,c,r',rfl,h1,e,q⟩:=DO h;unfold Md dm at e;split at e
 .rename_i ps hc';obtain⟨ns,en,rfl⟩:=oM e;obtain⟨a,vs,rfl,k1,k2⟩:=C7 h1 hc';rw[Ih k2 en]at k1;exact KC hc pins s σ H _ us Q I r ⟨a,ns,rfl,hK▸k1,q.bl⟩
 .cases e
theorem eP(hc:X.calm=true):Bk X (.builtin "min") (AZ W (fV (Dy dh))):=by
 intro pins s σ H xs us Q I r h;obtain⟨x,y,a,b,r',rfl,h1,h2,e,q⟩:=Tf h;unfold Dy at e;split at e
 .obtain⟨k,ek,rfl⟩:=oM e;cases ek;cases Ao h1;cases Ao h2;exact OA hc pins s σ H _ us Q I r ⟨_,_,rfl,q.plain (Ae.mpr rfl)⟩
 .cases e
section
variable (K:PySem.W.Frag)
theorem FV:kitOne K (.type "NoneType") (.type "int")=some false:=by kernel_rfl
theorem Fq:kitOne K (.type "NoneType") (.type "bool")=some false:=by kernel_rfl
theorem FU:kitOne K (.type "NoneType") (.type "str")=some false:=by kernel_rfl
theorem EY:kitOne K (.type "NoneType") (.type "tuple")=some false:=by kernel_rfl
theorem Kk:kitOne K (.type "bool") (.type "int")=some true:=by kernel_rfl
theorem Jc:kitOne K (.type "bool") (.type "bool")=some true:=by kernel_rfl
theorem Kj:kitOne K (.type "bool") (.type "str")=some false:=by kernel_rfl
theorem Hj:kitOne K (.type "bool") (.type "tuple")=some false:=by kernel_rfl
theorem LJ:kitOne K (.type "int") (.type "int")=some true:=by kernel_rfl
theorem Ki:kitOne K (.type "int") (.type "bool")=some false:=by kernel_rfl
theorem LI:kitOne K (.type "int") (.type "str")=some false:=by kernel_rfl
theorem Jb:kitOne K (.type "int") (.type "tuple")=some false:=by kernel_rfl
theorem LH:kitOne K (.type "str") (.type "int")=some false:=by kernel_rfl
theorem Kg:kitOne K (.type "str") (.type "bool")=some false:=by kernel_rfl
theorem LG:kitOne K (.type "str") (.type "str")=some true:=by kernel_rfl
theorem Ja:kitOne K (.type "str") (.type "tuple")=some false:=by kernel_rfl
theorem J9:kitOne K (.type "tuple") (.type "int")=some false:=by kernel_rfl
theorem Hi:kitOne K (.type "tuple") (.type "bool")=some false:=by kernel_rfl
theorem J6:kitOne K (.type "tuple") (.type "str")=some false:=by kernel_rfl
theorem GH:kitOne K (.type "tuple") (.type "tuple")=some true:=by kernel_rfl
theorem Kh:kitOne K (.type "list") (.type "str")=some false:=by kernel_rfl
end
def Mo:Ty->String
 |.int=>"int"| .bool=>"bool"| .str=>"str"| .tuple=>"tuple"| .cls _=>"object"
variable{pins:List (Addr×Obj)}{s:Shared}
theorem SK{σ:L2.St}(I:Inv X pins σ H s)(h:Eg X.K H a xs):∃o,s.heap.get? a=some o/\o.cls= .type "list":=by
 obtain⟨its,_,⟨o,n,e,c,_⟩,_⟩:=I.list h;exact⟨o,e,c⟩
theorem X7{σ:L2.St}(I:Inv X pins σ H s)(h:ED X.K H a xs):∃o,s.heap.get? a=some o/\o.cls= .type "tuple":=by
 obtain⟨its,_,⟨o,e,c,_⟩,_⟩:=I.tuple h;exact⟨o,e,c⟩
theorem eU(hK:W.K=X.K)(hw:W.w=X.w)(t:Ty)(ht:∀cs,t≠.cls cs):Bk X (.builtin "isinstance") (λxs H Q=>∃x c b,xs=[x,.ty (Mo t)]/\CC W H c x/\Dx t c=some b/\Q (.bl b) H):=by
 intro pins s σ H xs us Q I r h;obtain⟨x,c,b,rfl,h1,e,q⟩:=h;obtain⟨u,w',rfl,ru,rw'⟩:=vals2 r;cases rw'
 have fin:∀(b':Bool),Dx t c=some b'->∀tk,EP X pins σ Q (.bool b') {s with toks:=tk}:=λb' e' tk=>by
  rw[e]at e';cases e';exact⟨.bl b,H,I.tok tk,rfl,q⟩
 cases c with
 |obj _ _=>cases t<;>first|exact absurd rfl (ht _)|cases e
 |b y =>
   cases y with
   |p p =>
     cases p with
     |fn _=>cases t<;>first|cases e|exact absurd rfl (ht _)
     |box n ps=>
       obtain⟨a,o,vs,rfl,_,hb⟩:=Dq.mp (show Aw W H (.box n ps) x from h1);cases ru;cases t with
       |str=>
         rcases hb with⟨rfl,hb⟩|⟨rfl,_⟩
         .obtain⟨o',h3,h4⟩:=SK I (xs:=vs) (.inl (.inr ⟨o,hb⟩));exact kia_one PySem.W.kitx_list I.BX ⟨o',h3,h4⟩ (Kh _) (λz=>nomatch z) (fin false rfl)
         .cases e
       |cls cs=>exact absurd rfl (ht cs)
       |_=>cases n with|zero=>cases e|succ n=>cases e
     |Ai=>
       cases IJ h1;cases ru;cases t with
       |int=>exact kia_one kitx_none I.BX True.intro (FV _) (λz=>nomatch z) (fin false rfl)
       |bool=>exact kia_one kitx_none I.BX True.intro (Fq _) (λz=>nomatch z) (fin false rfl)
       |str=>exact kia_one kitx_none I.BX True.intro (FU _) (λz=>nomatch z) (fin false rfl)
       |tuple=>exact kia_one kitx_none I.BX True.intro (EY _) (λz=>nomatch z) (fin false rfl)
       |cls cs=>exact absurd rfl (ht cs)
     |bl i=>
       cases My h1;cases ru;cases t with
       |int=>exact kia_one kitx_bool I.BX True.intro (Kk _) (λz=>nomatch z) (fin true rfl)
       |bool=>exact kia_one kitx_bool I.BX True.intro (Jc _) (λz=>nomatch z) (fin true rfl)
       |str=>exact kia_one kitx_bool I.BX True.intro (Kj _) (λz=>nomatch z) (fin false rfl)
       |tuple=>exact kia_one kitx_bool I.BX True.intro (Hj _) (λz=>nomatch z) (fin false rfl)
       |cls cs=>exact absurd rfl (ht cs)
     |int i=>
       cases Ao h1;obtain⟨tk,rfl⟩:=ru;cases t with
       |int=>exact kia_one kitx_int I.BX True.intro (LJ _) (λz=>nomatch z) (fin true rfl)
       |bool=>exact kia_one kitx_int I.BX True.intro (Ki _) (λz=>nomatch z) (fin false rfl)
       |str=>exact kia_one kitx_int I.BX True.intro (LI _) (λz=>nomatch z) (fin false rfl)
       |tuple=>exact kia_one kitx_int I.BX True.intro (Jb _) (λz=>nomatch z) (fin false rfl)
       |cls cs=>exact absurd rfl (ht cs)
     |str i=>
       cases Bl h1;obtain⟨tk,rfl⟩:=ru;cases t with
       |int=>exact kia_one kitx_str I.BX True.intro (LH _) (λz=>nomatch z) (fin false rfl)
       |bool=>exact kia_one kitx_str I.BX True.intro (Kg _) (λz=>nomatch z) (fin false rfl)
       |str=>exact kia_one kitx_str I.BX True.intro (LG _) (λz=>nomatch z) (fin true rfl)
       |tuple=>exact kia_one kitx_str I.BX True.intro (Ja _) (λz=>nomatch z) (fin false rfl)
       |cls cs=>exact absurd rfl (ht cs)
     |tup ps=>
       obtain⟨a,vs,rfl,k1,k2⟩:=BI h1;cases ru;have ob:=X7 I (hK▸k1);cases t with
       |int=>exact kia_one kitx_tuple I.BX ob (J9 _) (λz=>nomatch z) (fin false rfl)
       |bool=>exact kia_one kitx_tuple I.BX ob (Hi _) (λz=>nomatch z) (fin false rfl)
       |str=>exact kia_one kitx_tuple I.BX ob (J6 _) (λz=>nomatch z) (fin false rfl)
       |tuple=>exact kia_one kitx_tuple I.BX ob (GH _) (λz=>nomatch z) (fin true rfl)
       |cls cs=>exact absurd rfl (ht cs)
   |lst ps=>cases t<;>first|exact absurd rfl (ht _)|cases e
   |ro ps=>cases t<;>first|exact absurd rfl (ht _)|cases e
   |D2 kvs=>cases t<;>first|exact absurd rfl (ht _)|cases e
variable{prog:Program}{w:World}{A:Around}{es:List DictEntry}{ep:Nat}
variable{H:Hp}
variable{E:Value->Shared->Prop}{s:Shared}{d:Addr}
def PF(W:Wd):V->Hp->(Bool->Hp->Prop)->Prop:=λx H Q=>∃c b,CC W H c x/\Cw c=some b/\Q b H
theorem HV{ps:List P}(h:A3 W H ps vs):(!ps.isEmpty)= !vs.isEmpty:=by
 have:=h.length;cases ps<;>cases vs<;>simp at this ⊢
theorem X2(hK:W.K=X.K):fz X (PF W):=by
 intro pins s σ H x v Q I rx h;obtain⟨c,b,h1,e,q⟩:=h;have ok:=λ(z:fy X.K x H b)=>X3 pins s σ H x v Q I rx ⟨b,z,q⟩
 unfold Cw at e;split at e
 .rename_i hc;cases e;rw[Fo hc]at h1;cases IJ h1;exact ok rfl
 .rename_i hc;cases e;rw[Fo hc]at h1;cases My h1;exact ok rfl
 .rename_i hc;cases e;rw[Fo hc]at h1;cases Ao h1;exact ok rfl
 .rename_i y hc;rw[Fo hc]at h1;cases Bl h1;split at e
  case isFalse=>cases e
  rename_i hl;cases e;refine ok ⟨Nat.le_trans hl C3,?_⟩;cases y.length<;>simp<;>lia
 .rename_i ps hc;cases e;rw[Fo hc]at h1;obtain⟨a,vs,rfl,k1,k2⟩:=BI h1;exact ok (.inr (.inl ⟨vs,hK▸k1,HV k2⟩))
 .rename_i ps hc;cases e;obtain⟨a,vs,rfl,k1,k2⟩:=C7 h1 hc;exact ok (.inl ⟨vs,hK▸k1,HV k2⟩)
 .cases e
variable{EX:XP}{σ:L2.St}
theorem MX{F:Env->Res Hd}{K:List V->Hp->Prop}(h:tG W EX (B2 W) (λρ=>(F ρ).bind λh ρ=>.ok [h] ρ) σ H K):tG W EX (E8 W) F σ H λv H1=>K [v] H1:=by
 obtain⟨ρ,os,hR,hn,hA⟩:=h;dsimp only at hA;refine⟨ρ,os,hR,hn,?_⟩;cases eF:F ρ with
 |stuck=>rw[eF]at hA;exact hA
 |err x p ρ'=>rw[eF]at hA;exact hA
 |ok a ρ1=>
   rw[eF]at hA;exact λv H1 o os1 h1 h2 h3 h4=>hA [v] H1 o os1 ⟨v,[],o,[],rfl,h1,⟨rfl,rfl⟩,by simp⟩ h2 h3 h4
theorem G6{F:Env->Res (List Hd)}{n:Nat}(hF:∀ρ hs ρ',F ρ= .ok hs ρ'->hs.length=n){K:List V->Hp->Prop}(h:tG W EX (B2 W) F σ H K):tG W EX (B2 W) F σ H λvs H1=>vs.length=n/\K vs H1:=by
 obtain⟨ρ,os,hR,hn,hA⟩:=h;refine⟨ρ,os,hR,hn,?_⟩;unfold BQ at hA ⊢;cases eF:F ρ with
 |stuck=>rw[eF]at hA;exact hA
 |err x p ρ'=>rw[eF]at hA;exact hA
 |ok a ρ1=>
   rw[eF]at hA;intro vs H1 o os1 h1 h2 h3 h4;refine⟨?_,hA vs H1 o os1 h1 h2 h3 h4⟩;rw[<-hF ρ a ρ1 eF];clear hA eF h3 h4
   induction a generalizing vs o with
   |nil=>rw[h1.1];rfl
   |cons h hs ih=>
     obtain⟨v,r,o1,o2,rfl,_,h5,rfl⟩:=h1;rw[lC,lC,ih r o2 h5]
theorem Dn{α β:Type}{rep:L2.St->Hp->Env->α->β->List Addr->Prop}{F:Env->Res α}{Q Q':β->Hp->Prop}(h:tG W EX rep F σ H Q)(k:∀b H',Q b H'->Q' b H'):tG W EX rep F σ H Q':=by
 obtain⟨ρ,os,hR,hn,hA⟩:=h;exact⟨ρ,os,hR,hn,hA.imp k⟩
section
variable{tg:Expr}
theorem Nj(hK:W.K=X.K){xs:List P}{g:Hp->Prop}(h:∀H,g H->∃vs,Eg W.K H a vs/\A3 W H xs vs):Walk W (kn X.K a) xs g where
 go:=λi H hg hi=>by
   obtain⟨vs,h1,h2⟩:=h H hg;have hi':i < vs.length:=by rw[h2.length];exact hi
   exact⟨vs,vs[i],hK▸h1,List.getElem?_eq_getElem hi'⟩
 KY:=λi H x H' hg hi hy=>by
  obtain⟨rfl,hy⟩:=hy;obtain⟨vs,h1,h2⟩:=h _ hg;exact⟨Bp.refl _,h2.get' (hy vs (hK▸h1))⟩
 stop:=λH hg=>by
  obtain⟨vs,h1,h2⟩:=h H hg;exact⟨vs,hK▸h1,Nat.le_of_eq h2.length⟩
theorem ON(hK:W.K=X.K){xs:List P}{g:Hp->Prop}(h:∀H,g H->∃vs,ED W.K H a vs/\A3 W H xs vs):Walk W (kj X.K a) xs g where
 go:=λi H hg hi=>by
   obtain⟨vs,h1,h2⟩:=h H hg;have hi':i < vs.length:=by rw[h2.length];exact hi
   exact⟨vs,vs[i],hK▸h1,List.getElem?_eq_getElem hi'⟩
 KY:=λi H x H' hg hi hy=>by
  obtain⟨rfl,hy⟩:=hy;obtain⟨vs,h1,h2⟩:=h _ hg;exact⟨Bp.refl _,h2.get' (hy vs (hK▸h1))⟩
 stop:=λH hg=>by
  obtain⟨vs,h1,h2⟩:=h H hg;exact⟨vs,hK▸h1,Nat.le_of_eq h2.length⟩
theorem Hv(y:Str):(signs y).length=y.length:=by
 unfold signs;rw[lM,Array.length_toList];rfl
theorem OO{g:Hp->Prop}:Walk W (kl y) (signs y) g where
 go:=λi H _ hi=>by rw[Hv]at hi;exact hi
 KY:=λi H x H' _ hi hy=>by
  obtain⟨rfl,c,hc,rfl⟩:=hy;refine⟨Bp.refl _,sign c,?_,AL.mpr rfl⟩;unfold signs;rw[List.getElem?_map,Array.getElem?_toList,hc];rfl
 stop:=λH _=>by rw[Hv];exact lR
theorem MG(hK:W.K=X.K)(hw:W.w=X.w){F:Env->Res Hd}(hl:PE X l (tG W EX (E8 W) F)):PI X tg l (Ml W EX .op (λρ=>(F ρ).bind λh ρ=>.ok [h] ρ)):=by
 intro pins s σ H R I h;refine AI (hl pins s σ H _ I (MX h)) λv s1 ⟨x,H1,I1,r1,q1⟩=>?_
 obtain⟨cs,xs,h1,h2,h3⟩:=q1
 have hS:∃c,cs=[c]/\Pw c=some xs:=by
  unfold Ap at h2;split at h2<;>first|cases h2|skip
  all_goals first|exact⟨_,rfl,h2⟩|(exfalso;simp_all)
 clear h2;obtain⟨c,rfl,h2⟩:=hS;obtain⟨_,e,hc⟩:=Bz h1;cases e
 have up:∀{H'},Cq W H' [c] [x]->CC W H' c x:=λz=>by
  obtain⟨_,e,hc⟩:=Bz z;cases e;exact hc
 have fp:∀b,b=s1.heap.objs.size->FF X pins H1 b:=λb hb=>by
  subst hb;exact I1.Ou (lR) (I1.Ak.fresh (lR))
 unfold Pw at h2;split at h2
 .rename_i ps hn;cases h2;obtain⟨a,vs,rfl,k1,k2⟩:=C7 hc hn;cases r1;obtain⟨its,rv,p,hz⟩:=I1.list (hK▸k1);refine wpAny_pyIter_list p.isList ⟨s1.heap.objs.size,[s1.heap.objs.size],_,_,H1,rfl,I1.kept (t':=s1.toks) λb o e=>gP e,Nm a _,⟨_,Heap.get?_push_size _ rfl,rfl,rfl⟩,λb hb=>fp b (mE hb),h3 _ (Nj hK λH' z=>?_)⟩;obtain⟨a',vs',e,g1,g2⟩:=C7 (up z) hn;cases e;exact⟨vs',g1,g2⟩
 .rename_i ps hn;cases h2;have hn':=Fo hn;subst hn';obtain⟨a,vs,rfl,k1,k2⟩:=BI hc;cases r1;obtain⟨its,rv,p,hz⟩:=I1.tuple (hK▸k1);refine wpAny_pyIter_tuple (show s1.heap.IsTuple a its.toArray from p) ⟨s1.heap.objs.size,[s1.heap.objs.size],_,_,H1,rfl,I1.kept (t':=s1.toks) λb o e=>gP e,L1 a _,⟨_,Heap.get?_push_size _ rfl,rfl,rfl⟩,λb hb=>fp b (mE hb),h3 _ (ON hK λH' z=>?_)⟩;obtain⟨a',vs',e,g1,g2⟩:=BI (up z);cases e;exact⟨vs',g1,g2⟩
 .rename_i y hn;split at h2
  case isFalse=>cases h2
  rename_i hy;cases h2;have hn':=Fo hn;subst hn';cases Bl hc;obtain⟨t,rfl⟩:=r1;exact wpAny_pyIter_ascii hy.2 ⟨s1.heap.objs.size,[s1.heap.objs.size],_,_,H1,rfl,I1.kept (t':=s1.toks) λb o e=>gP e,OS _ y t,⟨_,Heap.get?_push_size _ rfl,rfl,rfl⟩,λb hb=>fp b (mE hb),h3 _ OO⟩
 .cases h2
theorem Az(lo hi:Int):(Af lo hi).length=(hi-lo).toNat:=by unfold Af;rw[lM,length_range]
theorem JE{lo hi:Int}{g:Hp->Prop}:Walk W (aS lo (hi - lo).toNat) (Af lo hi) g where
 go:=λi H _ h=>by rw[Az]at h;exact h
 KY:=λi H x H' _ h hy=>by
  obtain⟨rfl,rfl⟩:=hy;rw[Az]at h;refine⟨Bp.refl _,.int (lo+(i:Nat)),?_,Ae.mpr rfl⟩;unfold Af;rw[List.getElem?_map,List.getElem?_range h];rfl
 stop:=λH _=>by rw[Az];exact lR
variable{α:Type}
theorem QB{l:List α}(h:l.length=1):∃a,l=[a]:=by
 match l,h with
 |[a],_=>exact⟨a,rfl⟩
theorem O8{l:List α}(h:l.length=2):∃a b,l=[a,b]:=by
 match l,h with
 |[a,b],_=>exact⟨a,b,rfl⟩
theorem Uh{l:List α}(h:l.length=3):∃a b c,l=[a,b,c]:=by
 match l,h with
 |[a,b,c],_=>exact⟨a,b,c,rfl⟩
theorem Tb{c:C}{xs:List P}(h:Ap .BZ [c]=some xs):∃n:Int,c= .p (.int n)/\n.natAbs < 2 ^ 61/\xs=Af 0 n:=by
 unfold Ap at h;split at h<;>first|(exfalso;simp_all;done)|skip
 .rename_i n hk hc;split at h
  .rename_i hb;cases hc;cases h;exact⟨n,rfl,hb,rfl⟩
  .cases h
theorem Ta{c d:C}{xs:List P}(h:Ap .BZ [c,d]=some xs):∃a n:Int,c= .p (.int a)/\d= .p (.int n)/\(a.natAbs < 2 ^ 61/\n.natAbs < 2 ^ 61)/\xs=Af a n:=by
 unfold Ap at h;split at h<;>first|(exfalso;simp_all;done)|skip
 .rename_i a n hk hc;split at h
  .rename_i hb;cases hc;cases h;exact⟨a,n,rfl,rfl,hb,rfl⟩
  .cases h
end
section
variable{tg:Expr}
theorem ND{c d f:C}{xs:List P}(h:Ap .BZ [c,d,f]=some xs):∃a n s:Int,c= .p (.int a)/\d= .p (.int n)/\f= .p (.int s)/\(0 < s/\s < 1000000/\a.natAbs < 2 ^ 61/\n.natAbs < 2 ^ 61)/\xs=(List.range ((n - a + s - 1) / s).toNat).map λk=>.int (a + s * (k:Nat)):=by
 unfold Ap at h;split at h<;>first|(exfalso;simp_all;done)|skip
 .rename_i a n s hk hc;split at h
  .rename_i hb;cases hc;cases h;exact⟨a,n,s,rfl,rfl,rfl,hb,rfl⟩
  .cases h
variable{H:Hp}{y:V}
theorem IH{a b:C}{x:V}(h:Cq W H [a,b] [x,y]):CC W H a x/\CC W H b y:=by
 obtain⟨_,_,e,h1,h2⟩:=h;cases e;obtain⟨_,e,h2⟩:=Bz h2;cases e;exact⟨h1,h2⟩
theorem Fm{a b c:C}{x z:V}(h:Cq W H [a,b,c] [x,y,z]):CC W H a x/\CC W H b y/\CC W H c z:=by
 obtain⟨_,_,e,h1,h2⟩:=h;cases e;exact⟨h1,IH h2⟩
variable{F:Env->Res (List Hd)}{pos:Pos}
theorem TC{a:Expr}{p:Pos}(hg:Gl X "range")(hm:X.mg "range"=none)(hF:∀ρ hs ρ',F ρ= .ok hs ρ'->hs.length=1)(ha:PA X [a] (tG W EX (B2 W) F))(hs:starEach [a] X.env=[(false,eval a X.env)]):PI X tg (.Call (.Name "range" p) [a] [] pos) (Ml W EX .BZ F):=by
 intro pins s σ H R I h;refine NR hg hm ha hs pins s σ H R I (Dn (G6 hF h) λvs H1 z=>?_);obtain⟨hl,cs,xs,h1,h2,h3⟩:=z;obtain⟨v,rfl⟩:=QB hl;obtain⟨c,rfl⟩:=QB (h1.length.symm.trans hl);obtain⟨n,rfl,hb,rfl⟩:=Tb h2;obtain⟨_,e,hc⟩:=Bz h1;cases e;cases Ao hc;have:=h3 (aS 0 (n-0).toNat) JE;rw[Int.sub_zero]at this;exact⟨n,rfl,by lia,by lia,this⟩
theorem TB{a b:Expr}{p:Pos}(hg:Gl X "range")(hm:X.mg "range"=none)(hF:∀ρ hs ρ',F ρ= .ok hs ρ'->hs.length=2)(ha:PA X [a,b] (tG W EX (B2 W) F))(hs:starEach [a,b] X.env=[(false,eval a X.env),(false,eval b X.env)])(hs2:starEach [b] X.env=[(false,eval b X.env)]):PI X tg (.Call (.Name "range" p) [a,b] [] pos) (Ml W EX .BZ F):=by
 intro pins s σ H R I h;refine NQ hg hm ha hs hs2 pins s σ H R I (Dn (G6 hF h) λvs H1 z=>?_);obtain⟨hl,cs,xs,h1,h2,h3⟩:=z;obtain⟨v,u,rfl⟩:=O8 hl;obtain⟨c,d,rfl⟩:=O8 (h1.length.symm.trans hl);obtain⟨i,n,rfl,rfl,hb,rfl⟩:=Ta h2;obtain⟨c1,c2⟩:=IH h1;cases Ao c1;cases Ao c2;exact⟨i,n,rfl,⟨by lia,by lia,by lia,by lia⟩,h3 _ JE⟩
theorem VW{s:Int}(hs:0 < s):Builtin.Range.rangeSize a n s=(((n - a + s - 1) / s).toNat:Nat):=by
 unfold Builtin.Range.rangeSize;rw[iP hs];have e:n-a+s-1=(n-a-1)+s:=by lia
 have e2:((n - a - 1) + s) / s=(n - a - 1) / s + 1:=by
  have:=Int.add_mul_ediv_right (n-a-1) 1 (c:=s) (by lia);rw[Int.one_mul]at this;exact this
 rw[e,e2];split
 .have:0<=(n-a-1)/s:=Int.ediv_nonneg (by lia) (by lia)
  lia
 .have:(n-a-1)/s < 0:=Int.ediv_neg_of_neg_of_pos (by lia) hs
  lia
theorem Xa{a n s:Int}(hs:0 < s)(h2:s < 1000000)(ha:a.natAbs < 2 ^ 61)(hn:n.natAbs < 2 ^ 61):Builtin.Range.small a n s=true:=by
 have hz:=VW (a:=a) (n:=n) hs
 have hb:(n - a + s - 1) / s<=2 ^ 62 + 1000000:=by
  have:(n-a+s-1)/s*s<=n-a+s-1:=Int.ediv_mul_le _ (by omega);rcases Int.lt_or_le ((n-a+s-1)/s) 0 with z|z
  .omega
  .have h1:(n-a+s-1)/s*1<=(n-a+s-1)/s*s:=Int.mul_le_mul_of_nonneg_left (by omega) z;omega
 unfold Builtin.Range.small;rw[hz,iP hs];simp only[Builtin.Range.rangeFitsLong,bA,Bool.or_eq_true,decide_eq_true_eq,beq_iff_eq];omega
theorem Ni{a s:Int}{n:Nat}{g:Hp->Prop}:Walk W (jK a s n) ((List.range n).map λk=>.int (a + s * (k:Nat))) g where
 go:=λi H _ h=>by rw[lM,length_range]at h;exact h
 KY:=λi H x H' _ h hy=>by
  obtain⟨rfl,rfl⟩:=hy;rw[lM,length_range]at h;refine⟨Bp.refl _,.int (a+s*(i:Nat)),?_,Ae.mpr (by rw[Int.mul_comm])⟩;rw[List.getElem?_map,List.getElem?_range h];rfl
 stop:=λH _=>by rw[lM,length_range];exact lR
theorem Tz{a b c:Expr}{p:Pos}(hg:Gl X "range")(hm:X.mg "range"=none)(hF:∀ρ hs ρ',F ρ= .ok hs ρ'->hs.length=3)(ha:PA X [a,b,c] (tG W EX (B2 W) F))(hs:starEach [a,b,c] X.env=[(false,eval a X.env),(false,eval b X.env),(false,eval c X.env)])
 (hs2:starEach [b,c] X.env=[(false,eval b X.env),(false,eval c X.env)]):PI X tg (.Call (.Name "range" p) [a,b,c] [] pos) (Ml W EX .BZ F):=by
 intro pins s σ H R I h;refine NP hg hm ha hs hs2 pins s σ H R I (Dn (G6 hF h) λvs H1 z=>?_);obtain⟨hl,cs,xs,h1,h2,h3⟩:=z;obtain⟨v,u,t,rfl⟩:=Uh hl;obtain⟨c,d,f,rfl⟩:=Uh (h1.length.symm.trans hl);obtain⟨i,n,k,rfl,rfl,rfl,hb,rfl⟩:=ND h2;obtain⟨c1,c2,c3⟩:=Fm h1;cases Ao c1;cases Ao c2;cases Ao c3;exact⟨i,n,k,_,rfl,hb.1,hb.2.1,Xa hb.1 hb.2.1 hb.2.2.1 hb.2.2.2,VW hb.1,h3 _ Ni⟩
noncomputable def ki(K:PySem.W.Frag)(a:Addr)(n:Nat):It:=
 ⟨λi H=>i < n/\∃xs,Eg K H a xs/\xs.length=n,λi H x H'=>H'=H/\∀xs,Eg K H a xs->xs[n-1-i]? =some x,λi H=>n<=i⟩
theorem WW{P:Program}{w:World}{K:PySem.W.Frag}{tg:Expr}(a it:Addr)(n:Nat):Turn P w K tg (ki K a n) [it] it (λi h=>i<=n/\h.IsRevIter it a ((n:Int) - 1 - (i:Int))) where
 mem:=mS
 obj:=λi h st b hb=>by
  cases mE hb;obtain⟨_,o,e,c,d⟩:=st;exact⟨o,e,λv z=>by rw[d]at z;cases z⟩
 keep:=λi h h' st k=>⟨st.1,st.2.at λo e=>k it mS o e⟩
 item:=by
  intro X hP hw hK hc i pins s σ H E I hf st hg;subst hP hw hK;obtain⟨hi,xs,hq,rfl⟩:=hg;obtain⟨its,rv,p,hz⟩:=I.list hq;have hlen:=rv.length;have hx:xs[xs.length-1-i]? =some (xs[xs.length-1-i]'(by lia)):=List.getElem?_eq_getElem (by lia);obtain⟨u,hu,ru⟩:=rv.get hx;obtain⟨f0,f1,f2,f3,f4,f5⟩:=hf it mS;have st2:=st.2;rw[show(xs.length:Int)-1-(i:Int)=((xs.length-1-i:Nat):Int)by lia]at st2;refine wpAny_pyNext_rev_item st2 p.isList (x:=u) (by simpa using hu) λh' st' sb=>?_
  rw[show((xs.length-1-i:Nat):Int)-1=(xs.length:Int)-1-((i+1:Nat):Int)by lia]at st';have I1:Inv X pins σ H {s with heap:=h'}:=I.turned (t':=s.toks) (λb o hb e=>(sb.2 b hb).trans e) f0 f1 f3 f4 f5;obtain⟨o,e,c,d⟩:=id st';exact⟨u,rfl,HP (s:={s with heap:=h'}) e c d (by decide) ⟨_,H,I1,ru,⟨rfl,λys hy=>by rw[I.Ka hy hq];exact hx⟩,⟨hi,st'⟩,λb hb=>(hf b hb).1⟩⟩
 done:=by
  intro X hP hw hK hc i pins s σ H E I hf st hg;subst hP hw hK;have hg:n<=i:=hg;have hi:i=n:=Nat.le_antisymm st.1 hg;obtain⟨f0,f1,f2,f3,f4,f5⟩:=hf it mS;have st2:=st.2;rw[show(n:Int)-1-(i:Int)= -1 by lia]at st2;exact wpAny_pyNext_rev_end (I.ok.hd hc) st2 λh' eb=>⟨rfl,I.turned (t':=s.toks) (λb o hb e=>eb b o hb e) f0 f1 f3 f4 f5⟩
 self:=λ_ _ _ _ _ st h=>wpAny_pyIter_revIter st.2 h
theorem WN(hK:W.K=X.K){ps:List P}{g:Hp->Prop}(h:∀H,g H->∃vs,Eg W.K H a vs/\A3 W H ps vs):Walk W (ki X.K a ps.length) ps.reverse g where
 go:=λi H hg hi=>by
   obtain⟨vs,h1,h2⟩:=h H hg;exact⟨by rw[length_reverse]at hi;exact hi,vs,hK▸h1,h2.length⟩
 KY:=λi H x H' hg hi hy=>by
  obtain⟨rfl,hy⟩:=hy;rw[length_reverse]at hi;obtain⟨vs,h1,h2⟩:=h _ hg;obtain⟨p,h3,h4⟩:=h2.get' (hy vs (hK▸h1));refine⟨Bp.refl _,p,?_,h4⟩;rw[List.getElem?_reverse hi];exact h3
 stop:=λH _=>by rw[length_reverse];exact lR
theorem Tc{c:C}{xs:List P}(h:Ap .rev [c]=some xs):∃ps,c.nf= .lst ps/\xs=ps.reverse:=by
 unfold Ap at h;split at h<;>first|(exfalso;simp_all;done)|skip
 .rename_i hk hc;cases hc;split at h
  .rename_i ps hn;cases h;exact⟨ps,hn,rfl⟩
  .cases h
theorem TF(hK:W.K=X.K){F:Env->Res Hd}{p:Pos}(hg:Gl X "reversed")(hm:X.mg "reversed"=none)(hl:PE X l (tG W EX (E8 W) F))(hs:starEach [l] X.env=[(false,eval l X.env)]):PI X tg (.Call (.Name "reversed" p) [l] [] pos) (Ml W EX .rev (λρ=>(F ρ).bind λh ρ=>.ok [h] ρ)):=by
 intro pins s σ H R I h
 have h':Bb (tG W EX (E8 W) F) E3 σ H (λvs H1=>match vs with|[x]=>(∃c ps,c.nf= .lst ps/\CC W H1 c x/\∀J,Walk W J ps.reverse (λH=>CC W H c x)->R J H1)|_=>False):=by
  refine Dn (MX h) λv H1 z=>?_
  obtain⟨cs,xs,h1,h2,h3⟩:=z;obtain⟨c,rfl⟩:=QB h1.length.symm;obtain⟨ps,hn,rfl⟩:=Tc h2;obtain⟨_,e,hc⟩:=Bz h1;cases e;refine⟨c,ps,hn,hc,λJ hJ=>h3 J ⟨λi H hg=>hJ.go i H ?_,λi H x H' hg=>hJ.KY i H x H' ?_,λH hg=>hJ.stop H ?_⟩⟩
  all_goals
   obtain⟨_,e,hc⟩:=Bz hg;cases e;exact hc
 refine Call_ (Er I hg hm boot_reversed (PyProof.Rows.callWith_type1 (AI (AO hl Cf hs pos pins s σ H _ I h') λus s1 ⟨vs,H1,I1,r1,q1⟩=>?_) hs rfl))
 match vs,r1,q1 with
 |[x],r1,q1=>
   obtain⟨u,rfl,ru⟩:=vals1 r1;obtain⟨c,ps,hn,hc,q⟩:=q1;obtain⟨a,vs,rfl,k1,k2⟩:=C7 hc hn;cases ru;obtain⟨its,rv,pl,hz⟩:=I1.list (hK▸k1);refine call_reversed_list pl.isList ?_;rw[show(its.toArray.size:Int)-1=(ps.length:Int)-1 by rw[size_toArray,<-rv.length,k2.length]];have st:(s1.heap.push (revObj a ((ps.length:Int)-1))).IsRevIter s1.heap.objs.size a ((ps.length:Int)-1-((0:Nat):Int)):=⟨_,Heap.get?_push_size _ rfl,rfl,by simp[revObj]⟩;refine wpAny_pyIter_revIter st ⟨s1.heap.objs.size,[s1.heap.objs.size],_,_,H1,rfl,I1.kept (t':=s1.toks) λb o e=>gP e,WW a _ ps.length,⟨Nat.zero_le _,st⟩,λb hb=>?_,q _ (WN hK λH' z=>?_)⟩
   .cases mE hb;exact I1.Ou (lR) (I1.Ak.fresh (lR))
   .obtain⟨a',vs',e,g1,g2⟩:=C7 z hn;cases e;exact⟨vs',g1,g2⟩
end
end Iv
namespace Iv
open PySem PySem.Spec L2 PyProof.Rows
variable{prog:Program}{w:World}{A:Around}{R:Result->Shared->Prop}{s:Shared}
abbrev tests(ifs:List Expr)(env:PySem.Env):Sem Bool:=forIn ifs true λc r=>if r=true then do let ok <-isTrue c env (eval c env);pure (ForInStep.yield ok)else pure (ForInStep.yield r)
theorem Lz{elt target iter:Expr}{ifs:List Expr}{scope:Scope}{pos:Pos}{it acc:Value}{env:PySem.Env}(I:Nat->Shared->Prop)
 (turn : ∀n s,I n s->wpAny (model prog w) A (pyNext it) (λr s₁=>match r with
  |none=>R (.ok .next) s₁
  |some v=>wpAny (model prog w) A (letOwnedTupleGo target it v) (λ_ s₀=>wpAny (model prog w) A (assign target env v) (λ_ s₂=>wpAny (model prog w) A (tests ifs env) (λok s₃=>
   if ok=true then wpAny (model prog w) A (eval elt env) (λx s₄=>
    wpAny (model prog w) A (call (.builtin "list.append") [acc,x]) (λ_ s₅=>∃m,m < n/\I m s₅) (λ_ _=>False) s₄) (λ_ _=>False) s₃ else ∃m,m < n/\I m s₃) (λ_ _=>False) s₂) (λ_ _=>False) s₀) (λ_ _=>False) s₁) (λ_ _=>False) s)
 (n:Nat)(h:I n s):codeAny (model prog w) A (.compLoop (.ListComp elt [⟨target,iter,ifs,0⟩] scope pos) 0 it acc env) R s:=by
 refine codeAny_loop rfl I (λn s hI=>?_) n h;show wpAny _ _ ((compTurn (.ListComp elt [⟨target,iter,ifs,0⟩] scope pos) 0 it acc env).onRaise (λx=>noteFrame x env >>= λ_=>theTreesLotGoes x)) _ _ s;refine wpAny_noted ?_;rw[compTurn_list];refine wpAny_bind (wpAny_standAt (wpAny_bind (wpAny_mono (turn n s hI) (λr s₁ h₁=>?_) λ_ _ z=>z.elim)));cases r with
 |none=>exact wP h₁
 |some v=>
   refine wpAny_bind (wpAny_mono h₁ (λ_ s₀ h₀=>wpAny_bind (wpAny_mono h₀ (λ_ s₂ h₂=>wpAny_bind (wpAny_mono h₂ (λok s₃ h₃=>?_) λ_ _ z=>z.elim)) λ_ _ z=>z.elim)) λ_ _ z=>z.elim);cases ok with
   |true=>
     rw[iP rfl]at h₃;exact wpAny_bind (wpAny_bind (wpAny_mono h₃ (λx s₄ h₄=>wpAny_bind (wpAny_mono h₄ (λ_ s₅ h₅=>wP (wP ⟨rfl,h₅⟩)) λ_ _ z=>z.elim)) λ_ _ z=>z.elim))
   |false=>
     rw[iN Bool.false_ne_true]at h₃;exact wP ⟨rfl,h₃⟩
section
variable{X:Cx}{elt iter tg:Expr}{ifs:List Expr}{scope:Scope}{pos:Pos}{N:List Str}{fr:List (Option Nat)}{g:TG}{te:TE}{tc:TT}{wi:TI}
def Vf(X:Cx)(ifs:List Expr)(t:TT):Prop:=
 ∀(pins:List (Addr×Obj)) (s:Shared) (σ:L2.St) (H:Hp) (Q:Bool->Hp->Prop),Inv X pins σ H s->t σ H Q->wpAny (model X.prog X.w) X.A (tests ifs X.env) (TP X pins σ Q) X.xe s
theorem Tx:Vf X [] (λσ H Q=>Q true H):=λpins s σ H Q I h=>wpAny_tests_nil ⟨H,I,h⟩
theorem Tw(h:PT X c tc):Vf X [c] tc:=λpins s σ H Q I k=>wpAny_tests_one (h pins s σ H Q I k)
def RP(J:It)(g:TG)(tc:TT)(te:TE)(σ0:L2.St)(H0:Hp)(Q:List V->Hp->Prop):Prop:=∃W:Nat->List V->Nat->L2.St->Hp->Prop,(∃m,W 0 [] m σ0 H0)/\∀i acc m σ' H',W i acc m σ' H'->
 (J.stop i H'/\Q acc H')\/(J.go i H'/\acc.length < sizeLine/\∀x H2,J.KY i H' x H2->g x σ' H2 λσ2 H3=>tc σ2 H3 λb H4=>if b=true then te σ2 H4 λy H5=>∃m',m' < m/\W (i+1) (acc++[y]) m' σ2 H5 else ∃m',m' < m/\W (i+1) acc m' σ2 H4)
theorem RF{pins:List (Addr×Obj)}{σ:L2.St}{H:Hp}{s:Shared}{J:It}{fp:List Addr}{it:Addr}{tn:Nat->Heap->Prop}{Q:List V->Hp->Prop}{E:Value->Shared->Prop}(hc:X.calm=true)(ok:De X.N X.env.scope N scope fr)
 (hb:∀C s H fp,PG (AM X N scope C s H fp) tg g/\PE (AM X N scope C s H fp) elt te/\Vf (AM X N scope C s H fp) ifs tc)(I:Inv X pins σ H s)(T:Turn X.prog X.w X.K tg J fp it tn)(t0:tn 0 s.heap)(hf:∀b∈fp,FF X pins H b)
 (hW:RP J g tc te (BF fr σ) H Q):
 wpAny (model X.prog X.w) X.A (newList []) (λacc s₃=>wpAny (model X.prog X.w) X.A (newFunctionEnv scope X.env.globals (FR X.env.cells scope.names []) [] X.env.qual none .none (some X.env)) (λcenv s₄=>
  codeAny (model X.prog X.w) X.A (.compStart (.ListComp elt [⟨tg,iter,ifs,0⟩] scope pos) 0 (.ref it) acc {cenv with scope:=relabel scope X.env}) (CompEnd X pins σ Q acc cenv.locals) s₄) E s₃) E s:=by
 have hfl:∀b∈fp,b < s.heap.objs.size:=λb hb=>by
  obtain⟨o,e,_⟩:=T.obj 0 _ t0 b hb;exact Heap.lt_size e
 refine wpAny_newObj_type (wpAny_newFunctionEnv ok.Dt (by intro y hy;simp at hy) (λh₁ hns₁ hsb₁=>?_) ok.kind);dsimp only at hns₁ hsb₁ ⊢;generalize hH2:s.heap.push {cls:=.type "list",dict:=none,data:=.seq ([]:List Value).toArray}=H2 at hns₁ hsb₁ ⊢;have hC:H2.objs.size=s.heap.objs.size+1:=by rw[<-hH2,Heap.size_push]
 have hDC:s.heap.objs.size≠H2.objs.size:=by rw[hC];exact Nat.ne_of_lt (Nat.lt_succ_self _)
 have hCle:s.heap.objs.size<=H2.objs.size:=by rw[hC];exact Nat.le_succ _
 have old:∀b o,s.heap.get? b=some o->h₁.get? b=some o:=λb o e=>
  hsb₁.extBut b o (by rw[hC];exact Nat.ne_of_lt (Nat.lt_succ_of_lt (Heap.lt_size e))) (gP (hH2▸gP e))
 have hacc:h₁.get? s.heap.objs.size=some {cls:=.type "list",dict:=none,data:=.seq ([]:List Value).toArray}:=hsb₁.extBut _ _ hDC (gP (hH2▸Heap.get?_push_size _ rfl));obtain⟨W,⟨m0,w0⟩,turn⟩:=hW;obtain⟨hg,he,ht⟩:=hb H2.objs.size s H fp;have I1:=Rt (N:=N) (fr:=fr) (tk:=s.toks+([]:List (Str×Value)).length) I ok hf hfl hCle hns₁ old;have hDfp:s.heap.objs.size∉fp:=λz=>Nat.lt_irrefl _ (hfl _ z)
 have fpx:∀{H':Hp} {ps:List (Addr×Obj)},(∀b∈fp,H' b=none)->(∀p∈ps,p.1=s.heap.objs.size)->∀b∈fp,FF (AM X N scope H2.objs.size s H fp) ps H' b:=λ{H' ps} hn hp b hb=>
  ⟨hn b hb,(I1.ok.dY b hb).1,I1.ok.Ov b hb,.inl hb,(I1.ok.dY b hb).2,λp hp' z=>by
   have hp':p∈([]:List (Addr×Obj))++ps:=hp';rw[nil_append]at hp'
   exact hDfp (by rw[<-hp p hp',z];exact hb)⟩
 have loop :∀s₃:Shared,s₃={s with heap:=h₁,toks:=s.toks + ([]:List (Str×Value)).length}->
  codeAny (model X.prog X.w) X.A (.compLoop (.ListComp elt [⟨tg,iter,ifs,0⟩] scope pos) 0 (.ref it) (.ref s.heap.objs.size) (compEnvC scope (FR X.env.cells scope.names []) H2.objs.size X.env))
   (CompEnd X pins σ Q (.ref s.heap.objs.size) H2.objs.size) s₃:=by
  rintro s₃ rfl
  refine Lz (λn s'=>∃i acc its k σ' H',Inv (AM X N scope H2.objs.size s H fp) [(s.heap.objs.size,({cls:=.type "list",data:=.seq its k}:Obj))] σ' H' s'/\tn i s'.heap/\(∀b∈fp,H' b=none)/\acc.length<=sizeLine/\Vals acc its.toList/\W i acc n σ' H') ?_ m0
   ⟨0,[],#[],0,BF fr σ,H,?_,?_,λb hb=>(hf b hb).1,Nat.zero_le _,.nil,w0⟩
  .rintro n s3 ⟨i,acc,its,k,σ3,H3,I3,st3,fr3,hz3,va3,w3⟩
   have pinD:=I3.pin _ (mR mS);rcases turn i acc n σ3 H3 w3 with⟨stop,q⟩|⟨go,hlen,step⟩
   .refine AI (T.done (AM X N scope H2.objs.size s H fp) rfl rfl rfl hc i _ s3 σ3 H3 _ I3 (fpx fr3 (by simp)) st3 stop) λr s4 ⟨hr,I4⟩=>?_
    subst hr;have p4:=I4.pin _ (mR mS);have J4:Inv X pins σ H3 s4:=I.WB (ch:=fp) I4.os I4.base I4.Ak I4.bare λb hb=>⟨(hf b hb).2.2.2.1,(hf b hb).2.1,(hf b hb).2.2.2.2.1,(hf b hb).2.2.2.2.2⟩
    have fD:FF X pins H3 s.heap.objs.size:=I.Ou (lR) p4.2.1;have e4:s4.heap.get? s.heap.objs.size=some {cls:=.type "list",data:=.seq its.toList.toArray k}:=by simpa using p4.1
    refine⟨rfl,_,H3,acc,rfl,p4.2.1,J4.bf fD hz3 va3 e4,?_,I.Ou hCle ?_,q⟩
    .obtain⟨m,hn,_⟩:=I4.loc;exact⟨m,hn⟩
    .rw[A5 (Ne.symm hDC)];exact I4.free
   .refine AI (T.item (AM X N scope H2.objs.size s H fp) rfl rfl rfl hc i _ s3 σ3 H3 _ I3 (fpx fr3 (by simp)) st3 go) λr s4 ⟨u,hr,h4⟩=>?_
    subst hr;refine AI h4 λ_ s5 ⟨x,H5,I5,r5,y5,st5,fr5⟩=>?_
    have I5':=I5.pinned (fpx fr5 (by simp)) (T.obj _ _ st5);refine AI (hg _ s5 σ3 H5 x u _ I5' r5 (step x H5 y5)) λ_ s6 ⟨σ6,H6,I6,q6⟩=>?_
    refine AI (ht _ s6 σ6 H6 _ I6 q6) λok s6' ⟨H6',I6',q6'⟩=>?_
    cases ok with
    |false=>
      rw[iN Bool.false_ne_true]at q6' ⊢;obtain⟨m',hm,w7⟩:=q6';have p7:=I6'.pin _ (mR (mL mS));refine⟨m',hm,i+1,acc,its,k,σ6,H6',?_,?_,λb hb=>?_,hz3,va3,w7⟩
      .refine(I6'.D6 (pins':=[]) λp hp=>absurd hp (by simp)).D6 λp hp=>?_
       have:p=(s.heap.objs.size,({cls:=.type "list",data:=.seq its k}:Obj)):=by simpa using hp
       subst this;exact p7
      .refine T.keep _ _ _ st5 λb hb o e=>?_
       exact(I6'.pin (b,o) (mR (mR (BJ hb e)))).1
      .obtain⟨o,e,d⟩:=T.obj _ _ st5 b hb;exact(I6'.pin (b,o) (mR (mR (BJ hb e)))).2.1
    |true=>
    rw[iP rfl]at q6' ⊢;refine AI (he _ s6' σ6 H6' _ I6' q6') λy s7 ⟨z,H7,I7,r7,q7⟩=>?_
    obtain⟨m',hm,w7⟩:=q7;have p7:=I7.pin _ (mR (mL mS));have hsz:its.size=acc.length:=by rw[va3.length];simp
    refine wpAny_list_append_plain (hsz:=by rw[hsz];exact hz3) ⟨k,p7.1⟩ λh₅ hl₅ hs₅=>?_
    obtain⟨k',e5⟩:=hl₅;refine⟨m',hm,i+1,acc++[z],its.push y,k',σ6,H7,?_,?_,λb hb=>?_,?_,?_,w7⟩
    .have J7:Inv (AM X N scope H2.objs.size s H fp) [] σ6 H7 s7:=I7.D6 λp hp=>absurd hp (by simp)
     have J8:Inv (AM X N scope H2.objs.size s H fp) [] σ6 H7 {s7 with heap:=h₅}:=by
      refine J7.turned (t':=s7.toks) (it:=s.heap.objs.size) (λb o hb e=>(hs₅.2 b hb).trans e) p7.2.1 p7.2.2.1 (.inr (lR)) (λx c e z=>?_) λp hp=>absurd (show p∈([]:List (Addr×Obj))from hp) (by simp)
      obtain⟨v,oc,hoc,hod⟩:=J7.cell x c e;rw[z,p7.1]at hoc;cases hoc;cases hod
     refine J8.D6 λp hp=>?_
     have:p=(s.heap.objs.size,({cls:=.type "list",data:=.seq (its.push y) k'}:Obj)):=by simpa using hp
     subst this;exact⟨e5,p7.2.1,p7.2.2.1,p7.2.2.2.1,λv z=>by cases z⟩
    .refine T.keep _ _ _ st5 λb hb o e=>?_
     have q:=(I7.pin (b,o) (mR (mR (BJ hb e)))).1;exact(hs₅.2 b (λz=>hDfp (z▸hb))).trans q
    .obtain⟨o,e,d⟩:=T.obj _ _ st5 b hb;exact(I7.pin (b,o) (mR (mR (BJ hb e)))).2.1
    .rw[lA,lS];exact hlen
    .rw[Array.toList_push];exact Vals.append va3 (.cons r7 .nil)
  .refine I1.D6 λp hp=>?_
   have:p=(s.heap.objs.size,({cls:=.type "list",data:=.seq #[] 0}:Obj)):=by simpa using hp
   subst this
   exact⟨hacc,I.Ak.fresh (lR),hDC,λz=>I.Y7 (lR) (by
    rcases mK (I.Gh _ z)with e|e
    .exact absurd I.lt (by rw[<-e];exact Nat.lt_irrefl _)
    .exact e),λv z=>by cases z⟩
  .exact T.keep _ _ _ t0 λb _ o e=>old b o e
 refine codeAny_compStart_list (loop _ rfl) ?_;exact T.self _ 0 _ _ _ (T.keep _ _ _ t0 λb _ o e=>old b o e) (loop _ rfl)
noncomputable def IB(wi:TI)(g:TG)(tc:TT)(te:TE)(fr:List (Option Nat)):TE:=λσ H Q=>wi σ H λJ H1=>RP J g tc te (BF fr σ) H1 λxs H'=>∀p,H' p=none->Q (.ref p) (upd H' p (.lst xs))
theorem Qc(N:List Str)(fr:List (Option Nat))(hc:X.calm=true)(ok:De X.N X.env.scope N scope fr)(hi:PI X tg iter wi)(hb:∀C s H fp,PG (AM X N scope C s H fp) tg g/\PE (AM X N scope C s H fp) elt te/\Vf (AM X N scope C s H fp) ifs tc)
 (hs:∀x,foldedSetIterable iter X.env x=pure x:=by intro _;rfl):PE X (.ListComp elt [⟨tg,iter,ifs,0⟩] scope pos) (IB wi g tc te fr):=by
 intro pins s σ H Q I h;rw[eval_ListComp];refine wpAny_comprehension_free (use:=none) rfl hs (Cn λy hy e=>I.ok.has y.1 (ok.free y hy e)) ok.kind ok.own ?_;refine AI (hi pins s σ H _ I h) λv s1 h1=>AI h1 λitv s2 h2=>?_
 obtain⟨it,fp,tn,J,H2,e,I2,T,st2,f2,hW⟩:=h2;subst e;refine AI (RF (pos:=pos) (iter:=iter) (E:=X.xe) hc ok hb I2 T st2 f2 hW) λacc s3 h3=>AI h3 λcenv s4 h4=>?_
 refine codeAny_mono h4 λr s5 h5=>?_
 obtain⟨rfl,D,H',xs,rfl,hD,I5,⟨m,hn⟩,fC,q⟩:=h5;refine⟨m,hn,λh' hs'=>⟨.ref D,_,I5.turned (t':=s5.toks) (it:=cenv.locals) (λb o hb e=>(hs'.2 b hb).trans e) fC.1 fC.2.1 fC.2.2.2.1 fC.2.2.2.2.1 fC.2.2.2.2.2,rfl,q D hD⟩⟩
theorem PR{i:Nat}{y:Str}{py spos:Pos}(N:List Str)(fr:List (Option Nat))(hN:X.N.Nodup)(hy:X.N[i]? =some y)(hl:X.env.scope.names.lookup y=some .local)(hc:X.calm=true)(ok:De X.N X.env.scope N scope fr)(hi:PI X tg iter wi)
 (hb:∀C s H fp,PG (AM X N scope C s H fp) tg g/\PE (AM X N scope C s H fp) elt te/\Vf (AM X N scope C s H fp) ifs tc)
 (hsw:swapsWith (.ListComp elt [⟨tg,iter,ifs,0⟩] scope pos) (some (.Name y py)) spos.line X.env=pure true:=by rfl)
 (hs:∀x,foldedSetIterable iter X.env x=pure x:=by intro _;rfl):PS X (.Assign [.Name y py] (.ListComp elt [⟨tg,iter,ifs,0⟩] scope pos) spos) (P0 (IB wi g tc te fr) (Ed i)):=by
 intro pins s σ H Q I h;rw[exec_Assign_Name_used _ _ _ _ hsw];refine wpAny_bind (wpAny_standAt (wpAny_bind ?_));show wpAny _ X.A (do let _ <-comprehension (.ListComp elt [⟨tg,iter,ifs,0⟩] scope pos) scope X.env _ (newList []) false (eval iter X.env) (some (assign (.Name y py) X.env))) _ _ s;refine wpAny_bind (wpAny_mono (wpAny_comprehension_free (use:=some (assign (.Name y py) X.env)) (Q:=λ_ s'=>SP X pins Q .next s') rfl hs (Cn λy hy e=>I.ok.has y.1 (ok.free y hy e)) ok.kind ok.own ?_) (λ_ s' hq=>wP (wP hq)) λ_ _ e=>e);refine AI (hi pins s σ H _ I h) λv s1 h1=>AI h1 λitv s2 h2=>?_
 obtain⟨it,fp,tn,J,H2,e,I2,T,st2,f2,hW⟩:=h2;subst e;refine AI (RF (pos:=pos) (iter:=iter) (E:=X.xe) hc ok hb I2 T st2 f2 hW) λacc s3 h3=>AI h3 λcenv s4 h4=>?_
 refine codeAny_mono h4 λr s5 h5=>?_
 obtain⟨rfl,D,H',xs,rfl,hD,I5,⟨m,hn⟩,fC,q⟩:=h5;show wpAny _ X.A (assign (.Name y py) X.env (.ref D)) _ _ _;refine wpAny_assign_Name (Ht (v:=.ref D) I5 hN hy (.inl hl) rfl (λs6 I6 hsb=>?_) (.inr hl));obtain⟨a,sb,ha⟩:=hsb
 have hCa:cenv.locals≠a:=by
  rcases ha with e|e
  .rw[e];exact fC.2.1
  .exact λz=>fC.2.2.2.2.1 _ _ e z.symm
 refine⟨m,hn.sameBut sb hCa,λh' hs'=>?_⟩;exact⟨_,_,I6.turned (t':=s6.toks) (it:=cenv.locals) (λb o hb e=>(hs'.2 b hb).trans e) fC.1 fC.2.1 fC.2.2.2.1 fC.2.2.2.2.1 fC.2.2.2.2.2,q D hD⟩
end
end Iv
namespace Iv
open PySem L2
variable{ρ:Env}
theorem E9{i:Nat}(e:A6 ρ i=none):ρ.set i none=ρ:=by
 apply ext_getElem?;intro j;rw[List.getElem?_set];split
 .rename_i hj;subst hj;split
  .rename_i hl;unfold A6 at e;rw[List.getElem?_eq_getElem hl]at e ⊢;have e:ρ[i]=none:=e;rw[e]
  .rename_i hl;rw[List.getElem?_eq_none (by lia)]
 .rfl
variable{j:Nat}
theorem Dz{i:Nat}(h:i≠j):A6 (ρ.set i x) j=A6 ρ j:=by
 unfold A6;rw[List.getElem?_set_ne h]
variable{W:Wd}{H:Hp}
variable{fr:List (Option Nat)}
theorem AB{o:Option Nat}:(o::fr).filterMap id=(match o with|some i=>[i]|none=>[])++fr.filterMap id:=by
 cases o<;>simp
theorem KJ{i:Nat}(h:i∉fr.filterMap id):BB fr (ρ.set i none)=BB fr ρ:=by
 unfold BB;apply map_congr_left;intro o ho;cases o with
 |none=>rfl
 |some j=>
   show A6 (ρ.set i none) j=A6 ρ j;refine Dz λz=>h ?_
   subst z;exact mem_filterMap.mpr ⟨some i,ho,rfl⟩
theorem EJ:∀{fr:List (Option Nat)} {ρ:Env} {σ:L2.St} {os:List Addr},(fr.filterMap id).Nodup->A4 W H ρ σ os->∃ob or_,A4 W H (BB fr ρ) (BF fr σ) ob/\A4 W H (CH fr ρ) σ or_/\(ob++or_).Perm os
 |[],ρ,σ,os,_,hR=>⟨[],os,⟨rfl,rfl,hR.tb⟩,hR,.refl _⟩
 | none::fr,ρ,σ,os,hn,hR=>by
   obtain⟨ob,or_,h1,h2,h3⟩:=EJ (fr:=fr) (by simpa[AB]using hn) hR;exact⟨ob,or_,⟨none,BF fr σ,rfl,h1⟩,by unfold CH at h2 ⊢;simpa[AB]using h2,h3⟩
 | some i::fr,ρ,σ,os,hn,hR=>by
   rw[AB]at hn;have hn:=nA hn;have hi:i∉fr.filterMap id:=λz=>hn.2.2 i mS i z rfl
   cases hg:A6 ρ i with
   |none=>
     obtain⟨ob,or_,h1,h2,h3⟩:=EJ (fr:=fr) hn.2.1 hR;refine⟨ob,or_,?_,?_,h3⟩
     .show A4 W H (A6 ρ i::BB fr ρ) _ _;rw[hg];exact⟨_,BF fr σ,rfl,h1⟩
     .unfold CH at h2 ⊢;rw[AB,foldl_append];show A4 W H ((fr.filterMap id).foldl _ (ρ.set i none)) _ _;rw[E9 hg];exact h2
   |some c=>
     obtain⟨v,o,osr,t1,t2,t3,t4⟩:=hR.take hg;obtain⟨ob,or_,h1,h2,h3⟩:=EJ (fr:=fr) hn.2.1 t3;rw[KJ hi]at h1;refine⟨o++ob,or_,?_,?_,?_⟩
     .show A4 W H (A6 ρ i::BB fr ρ) _ _;rw[hg];refine⟨v,BF fr σ,o,ob,?_,t2,h1,rfl⟩;show(σ[i]?).join::BF fr σ=_;rw[t1];rfl
     .unfold CH at h2 ⊢;rw[AB,foldl_append];exact h2
     .rw[append_assoc];exact(h3.append_left o).trans t4
theorem Cs:∀{fr:List (Option Nat)} {β ρ:Env} {τ σ:L2.St} {ob or_:List Addr},(fr.filterMap id).Nodup->A4 W H β τ ob->A4 W H ρ σ or_->(∀i∈fr.filterMap id,A6 ρ i=none)->(∀(j i:Nat),fr[j]? =some (some i)->τ[j]? =some ((σ[i]?).join))->(ob++or_).Nodup->
 ∃os',A4 W H (AN ρ fr β) σ os'/\os'.Nodup/\∀a∈os',a∈ob++or_
 |[],β,ρ,τ,σ,ob,or_,_,_,hR,_,_,hn=>⟨or_,by cases β<;>exact hR,(nA hn).2.1,λa ha=>mR ha⟩
 |none::fr,[],ρ,τ,σ,ob,or_,_,_,hR,_,_,hn=>⟨or_,hR,(nA hn).2.1,λa ha=>mR ha⟩
 |some i::fr,[],ρ,τ,σ,ob,or_,_,_,hR,_,_,hn=>⟨or_,hR,(nA hn).2.1,λa ha=>mR ha⟩
 | none::fr,x::β,ρ,τ,σ,ob,or_,hd,hB,hR,he,ht,hn=>by
   have hd':(fr.filterMap id).Nodup:=by simpa[AB]using hd
   have he':∀i∈fr.filterMap id,A6 ρ i=none:=λi hi=>he i (by rw[AB];exact mR hi)
   cases x with
   |none=>
     obtain⟨y,r,rfl,hB⟩:=hB;show ∃os',A4 W H (AN ρ fr β) σ os'/\_;exact Cs hd' hB hR he' (λj i e=>by simpa using ht (j+1) i (by simpa using e)) hn
   |some c=>
     obtain⟨v,r,o,o2,rfl,hc,hB,rfl⟩:=hB;show ∃os',A4 W H (AN ρ fr β) σ os'/\_
     have hn':(o2++or_).Nodup:=by
      rw[append_assoc]at hn;exact(nA hn).2.1
     obtain⟨os',h1,h2,h3⟩:=Cs hd' hB hR he' (λj i e=>by simpa using ht (j+1) i (by simpa using e)) hn';exact⟨os',h1,h2,λa ha=>by rw[append_assoc];exact mR (h3 a ha)⟩
 | some i::fr,x::β,ρ,τ,σ,ob,or_,hd,hB,hR,he,ht,hn=>by
   rw[AB]at hd;have hd:=nA hd;have hi:i∉fr.filterMap id:=λz=>hd.2.2 i mS i z rfl
   have hei:A6 ρ i=none:=he i (by rw[AB];exact mL mS)
   have he':∀{y:Option C},∀k∈fr.filterMap id,A6 (ρ.set i y) k=none:=λ{y} k hk=>by
    have hne:i≠k:=λz=>hi (by rw[z];exact hk)
    rw[Dz hne];exact he k (by rw[AB];exact mR hk)
   have hti:=ht 0 i rfl;cases x with
   |none=>
     obtain⟨y,r,rfl,hB⟩:=hB;show ∃os',A4 W H (AN (ρ.set i none) fr β) σ os'/\_;have hR':A4 W H (ρ.set i none) σ or_:=by rw[E9 hei];exact hR
     exact Cs hd.2.1 hB hR' he' (λj i e=>by simpa using ht (j+1) i (by simpa using e)) hn
   |some c=>
     obtain⟨v,r,o,o2,rfl,hc,hB,rfl⟩:=hB
     have hσ:σ[i]? =some (some v):=by
      have hti:some (some v)=some ((σ[i]?).join):=hti;cases q:σ[i]? with
      |none=>rw[q]at hti;cases hti
      |some z=>rw[q]at hti;exact congrArg some (Option.some.inj hti).symm
     have hil:i < ρ.length:=by
      rw[<-hR.length];exact(List.getElem?_eq_some_iff.mp hσ).1
     obtain⟨os2,u1,u2⟩:=A4.fill hc hR hei hil;rw[set_same hσ]at u1;show ∃os',A4 W H (AN (ρ.set i (some c)) fr β) σ os'/\_
     have hp:(o2++os2).Perm ((o++o2)++or_):=by
      refine(u2.append_left o2).trans ?_;rw[<-append_assoc];exact perm_append_comm.append_right or_
     obtain⟨os',h1,h2,h3⟩:=Cs hd.2.1 hB u1 he' (λj i e=>by simpa using ht (j+1) i (by simpa using e)) (hp.nodup_iff.mpr hn);exact⟨os',h1,h2,λa ha=>hp.subset (h3 a ha)⟩
theorem Nl:(CH fr ρ).length=ρ.length:=CB
theorem KZ{i:Nat}(h:i∈fr.filterMap id):A6 (CH fr ρ) i=none:=Cj h
theorem OQ{i:Nat}(h:i∉fr.filterMap id):A6 (CH fr ρ) i=A6 ρ i:=F4 h
theorem IS{i:Nat}:∀{fr:List (Option Nat)} {ρ β:Env},i∉fr.filterMap id->A6 (AN ρ fr β) i=A6 ρ i
 |[],ρ,β,_=>by cases β<;>rfl
 |none::fr,ρ,[],_=>rfl
 |some j::fr,ρ,[],_=>rfl
 |none::fr,ρ,x::β,h=>IS (fr:=fr) (by simpa[AB]using h)
 | some j::fr,ρ,x::β,h=>by
   rw[AB]at h;have h1:i∉fr.filterMap id:=λz=>h (mR z)
   have h2:j≠i:=λz=>h (mL (by rw[z];exact mS))
   show A6 (AN (ρ.set j x) fr β) i=_;rw[IS h1,Dz h2]
theorem Lm{i:Nat}{x:Option C}:∀{fr:List (Option Nat)} {ρ β:Env} {j:Nat},(fr.filterMap id).Nodup->fr[j]? =some (some i)->β[j]? =some x->i < ρ.length->A6 (AN ρ fr β) i=x
 |[],_,_,_,_,e,_,_=>by simp at e
 |o::fr,ρ,[],j,_,_,e,_=>by simp at e
 |none::fr,ρ,y::β,0,_,e,_,_=>by simp at e
 |none::fr,ρ,y::β,j+1,hn,e,e2,hl=>Lm (fr:=fr) (j:=j) (by simpa[AB]using hn) (by simpa using e) (by simpa using e2) hl
 | some k::fr,ρ,y::β,0,hn,e,e2,hl=>by
   rw[AB]at hn;have hn:=nA hn;simp at e e2;subst e e2;show A6 (AN (ρ.set k y) fr β) k=y;rw[IS (λz=>hn.2.2 k mS k z rfl),Ba hl]
 | some k::fr,ρ,y::β,j + 1,hn,e,e2,hl=>by
   rw[AB]at hn;have hn:=nA hn;exact Lm (fr:=fr) (j:=j) (ρ:=ρ.set k y) hn.2.1 (by simpa using e) (by simpa using e2) (by rw[length_set];exact hl)
theorem LV{i:Nat}(h:inner fr i=some j):fr[j]? =some (some i):=by
 unfold inner at h;obtain⟨hj,h1,_⟩:=List.findIdx?_eq_some_iff_getElem.mp h;rw[List.getElem?_eq_getElem hj];exact congrArg some (by simpa using h1)
theorem GO{i:Nat}(h:inner fr i=none):i∉fr.filterMap id:=λz=>by
 unfold inner at h;obtain⟨o,ho,e⟩:=mem_filterMap.mp z;have e:o=some i:=e;subst e;have:=List.findIdx?_eq_none_iff.mp h _ ho;simp at this
def NX:XP:=λ_ _ _ _=>False
variable{EX:XP}{σ:L2.St}
theorem Hq{g:Tg}(h:Fb g fr=true):(fr.filterMap id).Nodup/\∀j∈g.slots,fr[j]? =some none:=by
 unfold Fb at h;rw[bA]at h;exact⟨of_decide_eq_true h.1,λj hj=>of_decide_eq_true (all_eq_true.mp h.2 j hj)⟩
theorem R9{i:Nat}(e:fr[j]? =some (some i)):(BF fr σ)[j]? =some ((σ[i]?).join):=by
 unfold BF;rw[List.getElem?_map,e];rfl
theorem UT{k:IK}{F:Env->Res (List Hd)}{B:Env->Res Bool}{E:Env->Res C}{Q:VK}(h:tG W EX (rV W) (λρ=>(F ρ).bind (Ib k g fr B E)) σ H Q):
 IB (Ml W EX k F) (gT W g) (tG W NX rB B) (tG W NX (rV W) E) fr σ H Q:=by
 obtain⟨ρ,os,hR,hn,hA⟩:=h;dsimp only at hA;refine⟨ρ,os,hR,hn,?_⟩;unfold BQ;cases eF:F ρ with
 |stuck=>rw[eF]at hA;exact hA
 |err x p ρ'=>rw[eF]at hA;exact hA
 |ok hs ρ1=>
   rw[eF,Res.A2]at hA;intro vs H1 o1 os1 h1 h2 h3 h4;have hA:=BQ.shift hA h4;unfold Ib at hA;cases ec:A9 ρ1 hs with
   |none=>rw[ec]at hA;exact hA.elim
   |some cs=>
   rw[ec]at hA;dsimp only at hA;cases ex:Ap k cs with
   |none=>rw[ex]at hA;exact hA.elim
   |some xs=>
   rw[ex]at hA;dsimp only at hA;refine⟨cs,xs,DD h2 h1 ec,ex,λJ hJ=>?_⟩;split at hA
   case isFalse=>exact hA.elim
   rename_i hgd;rw[bA,bA]at hgd;obtain⟨⟨hgf,hbk⟩,hbig⟩:=hgd;have hbig:xs.length<=big:=of_decide_eq_true hbig;obtain⟨hnd,hsl⟩:=Hq hbk;cases eL:BG g (BO fr hs cs) B E xs [] (BB fr ρ1)with
   |stuck=>rw[eL]at hA;exact hA.elim
   |err x p β=>rw[eL]at hA;exact hA.elim
   |ok ys βf=>
   rw[eL]at hA;have hA:∀v H' o os',AQ W H' (.lst ys) v o->A4 W H' (AN (CH fr ρ1) fr βf) σ os'->(o++os').Nodup->AG H1 H' (o1++os1) (o++os')->Q v H':=hA;obtain⟨ob,or_,s1,s2,s3⟩:=EJ hnd h2;have n3:=nA h3;have nob:=nA (s3.nodup_iff.mpr n3.2.1);have hlen:(BF fr σ).length=fr.length:=by unfold BF;rw[lM]
   have whole:∀{H':Hp} {β:Env} {τ:L2.St} {ob':List Addr},A4 W H' β τ ob'->ob'.Nodup->AG H1 H' ob ob'->AF g.slots (BF fr σ) τ->∃os',A4 W H' (AN (CH fr ρ1) fr β) σ os'/\os'.Nodup/\∀a∈os',a∈ob'++or_:=by
    intro H' β τ ob' r1 r2 r3 r4;have k1:AE H1 H':=r3.but.keep s1.own;have s2':A4 W H' (CH fr ρ1) σ or_:=s2.frame r1.tb k1 r3.but λa ha z=>nob.2.2 a z a ha rfl
    refine Cs hnd r1 s2' (λi hi=>KZ hi) (λj i e=>?_) ?_
    .rw[r4.2 j (λz=>by rw[hsl j z]at e;cases e)];exact R9 e
    .rw[nodup_append];refine⟨r2,nob.2.1,λa ha b hb z=>?_⟩;subst z;rcases r3.src a ha with y|y
     .exact nob.2.2 a y a hb rfl
     .obtain⟨x,e,_⟩:=s2.own a hb;rw[y]at e;cases e
   have rd : ∀ {H':Hp} {β:Env} {τ:L2.St} {ob':List Addr},A4 W H' β τ ob'->ob'.Nodup->AG H1 H' ob ob'->AF g.slots (BF fr σ) τ->holds (BO fr hs cs) β=true->Cq W H' cs vs:=by
    intro H' β τ ob' r1 r2 r3 r4 hh;obtain⟨os',w1,w2,w3⟩:=whole r1 r2 r3 r4;refine II w1 (r3.but.keep s1.own) r3.but h1 ec h2 hgf (λq hq=>⟨?_,rfl⟩) λa ha z=>n3.2.2 a ha a (s3.subset (mL z)) rfl
    have hq':A6 ρ1 q.1=some q.2:=by
     unfold guards at hq;obtain⟨p,hp,e⟩:=mem_filterMap.mp hq;split at e
     .cases e
     .split at e
      .rename_i i hi;cases e
       have:∀{hs:List Hd} {cs:List C},A9 ρ1 hs=some cs->p∈hs.zip cs->p.1.cont ρ1=some p.2:=by
        intro hs
        induction hs with
        |nil=>intro cs _ hp;simp at hp
        |cons h hs ih=>
          intro cs e hp;unfold A9 at e;obtain⟨c,ec,e⟩:=oB e;obtain⟨ds,ed,rfl⟩:=oM e;rw[zip_cons_cons]at hp;rcases mK hp with z|z
          .rw[z];exact ec
          .exact ih ed z
       have z:=this ec hp;rw[hi]at z;exact z
      .cases e
    have hlt:q.1 < (CH fr ρ1).length:=by rw[Nl];exact BL hq'
    cases hin:inner fr q.1 with
    |none=>rw[IS (GO hin),OQ (GO hin)];exact hq'
    |some j=>
      have hm:(j,q.2)∈BO fr hs cs:=by
       unfold BO;exact mem_filterMap.mpr ⟨q,hq,by rw[hin];rfl⟩
      have hj:=HN hh _ hm;have hj:A6 β j=some q.2:=hj
      have hjβ:β[j]? =some (some q.2):=by
       unfold A6 at hj;cases z:β[j]? with
       |none=>rw[z]at hj;cases hj
       |some y=>rw[z]at hj;exact congrArg some hj
      exact Lm hnd (LV hin) hjβ hlt
   refine⟨λi acc m τ H'=>m=xs.length - i/\i<=xs.length/\∃β ob' accP,A4 W H' β τ ob'/\ob'.Nodup/\AG H1 H' ob ob'/\AF g.slots (BF fr σ) τ/\A3 W H' accP acc/\accP.length<=i/\BG g (BO fr hs cs) B E (xs.drop i) accP β= .ok ys βf,
    ⟨xs.length,rfl,Nat.zero_le _,BB fr ρ1,ob,[],s1,nob.1,AG.refl _ _,AF.refl _ _,.nil,lR,eL⟩,?_⟩
   rintro i acc m τ H' ⟨rfl,hi,β,ob',accP,r1,r2,r3,r4,r5,r6,r7⟩
   by_cases hlt:i < xs.length
   .rw[List.drop_eq_getElem_cons hlt]at r7;unfold BG at r7;split at r7
    case isFalse=>cases r7
    rename_i hh;have hrd:=rd r1 r2 r3 r4 hh;refine .inr ⟨hJ.go i H' hrd hlt,?_,λx H2 hy=>?_⟩
    .rw[r5.length];exact Nat.lt_of_le_of_lt r6 (Nat.lt_of_lt_of_le hlt (Nat.le_trans hbig C3))
    obtain⟨sm,p,ep,rp⟩:=hJ.KY i H' x H2 hrd hlt hy;rw[List.getElem?_eq_getElem hlt]at ep;cases ep;cases eT:EM g xs[i] β with
    |none=>rw[eT]at r7;cases r7
    |some β1=>
    rw[eT,Res.TY,Res.A2]at r7;refine R8 eT rp (r1.same sm) r2 (λj hj=>?_) λτ2 ob2 g1 g2 g3 g4=>?_
    .have e:=hsl j hj;have:τ.length=fr.length:=r4.1.trans hlen;rw[this];exact(List.getElem?_eq_some_iff.mp e).1
    have fr2:AG H1 H2 ob ob2:=(r3.trans (AG.of sm λa ha=>.inl ha)).sub g3;have un2:AF g.slots (BF fr σ) τ2:=r4.trans g4;refine⟨β1,ob2,g1,g2,?_⟩;unfold BQ;cases eB:B β1 with
    |stuck=>rw[eB]at r7;cases r7
    |err x p ρ'=>rw[eB]at r7;cases r7
    |ok b β2=>
    rw[eB,Res.A2]at r7;intro b' H4 o4 os4 rb hR4 hn4 fr4;obtain⟨rfl,rfl⟩:=rb;have fr4':AG H1 H4 ob os4:=fr2.trans fr4;have kp4:AE H' H4:=(AE.of sm).trans (fr4.but.keep g1.own);cases b with
    |false=>
      rw[iN Bool.false_ne_true]at r7 ⊢;exact⟨xs.length-(i+1),by lia,rfl,hlt,β2,os4,accP,hR4,hn4,fr4',un2,r5.mono kp4,by lia,r7⟩
    |true=>
      rw[iP rfl]at r7 ⊢;refine⟨β2,os4,hR4,hn4,?_⟩;unfold BQ;cases eE:E β2 with
      |stuck=>rw[eE]at r7;cases r7
      |err x p ρ'=>rw[eE]at r7;cases r7
      |ok c β3=>
      rw[eE,Res.A2]at r7;intro y H5 o5 os5 rc hR5 hn5 fr5;cases c with
      |obj _ _=>cases r7
      |b bb=>
      cases bb with
      |lst _=>cases r7
      |D2 _=>cases r7
      |ro _=>cases r7
      |p yp=>
      have r7:BG g (BO fr hs cs) B E (xs.drop (i+1)) (accP++[yp]) β3= .ok ys βf:=r7;obtain⟨rp5,rfl⟩:=(show Aw W H5 yp y/\o5=[]from rc);have kp5:AE H' H5:=kp4.trans (fr5.but.keep hR4.own);refine⟨xs.length-(i+1),by lia,rfl,hlt,β3,os5,accP++[yp],hR5,hn5,fr4'.trans fr5,un2,A3.append (.cons rp5 .nil) (r5.mono kp5),?_,r7⟩;rw[lA,lS]
      lia
   .have e:i=xs.length:=by lia
    subst e;rw[List.drop_length]at r7;unfold BG at r7;split at r7
    case isFalse=>cases r7
    rename_i hh;cases r7;refine .inl ⟨hJ.stop H' (rd r1 r2 r3 r4 hh),λp hp=>?_⟩;obtain⟨os',w1,w2,w3⟩:=whole r1 r2 r3 r4;have sm:Bp H' (upd H' p (.lst acc)):=λb o e=>by rw[A5 (Av e hp)];exact e
    have hpos:p∉os':=λz=>by
     obtain⟨x,e,_⟩:=w1.own p z;rw[hp]at e;cases e
    have fr':AG H1 H' (o1++os1) os':=by
     have f1:=((r3.more or_).perm (perm_append_comm.trans s3) (.refl _)).sub (os2:=os') λa ha=>by
      rcases mem_append.mp (w3 a ha)with z|z
      .exact mR z
      .exact mL z
     exact f1.weak λa ha=>mR ha
    refine hA (.ref p) _ [p] os' ⟨p,acc,rfl,Ac,r5.mono (AE.of sm),rfl⟩ (w1.same sm) ?_ ?_
    .rw[nodup_append];exact⟨by simp,w2,λa ha b hb z=>hpos (by rw[<-mE ha,z];exact hb)⟩
    .refine fr'.trans (AG.of sm λa ha=>?_);rcases mem_append.mp ha with z|z
     .rw[mE z];exact .inr hp
     .exact .inl z
variable{X:Cx}
theorem Ab{t t':TE}(h:PE X e t)(k:∀σ H Q,t' σ H Q->t σ H Q):PE X e t':=λpins s σ H Q I z=>h pins s σ H Q I (k σ H Q z)
theorem Em{t t':TT}(h:PT X e t)(k:∀σ H Q,t' σ H Q->t σ H Q):PT X e t':=λpins s σ H Q I z=>h pins s σ H Q I (k σ H Q z)
theorem Ll{t t':TA}(h:PA X e t)(k:∀σ H Q,t' σ H Q->t σ H Q):PA X e t':=λpos pins s σ H Q I z=>h pos pins s σ H Q I (k σ H Q z)
variable{t':TS}
theorem Cz{e:Stmt}{t:TS}(h:PS X e t)(k:∀D σ H,t' D σ H->t D σ H):PS X e t':=λpins s σ H D I z=>h pins s σ H D I (k D σ H z)
theorem ME{e:List Stmt}{t:TS}(h:Mf X e t)(k:∀D σ H,t' D σ H->t D σ H):Mf X e t':=λpins s σ H D I z=>h pins s σ H D I (k D σ H z)
noncomputable def XR(W:Wd)(σ:L2.St)(H:Hp):T->V->Prop
 |.cst p,v=>Fd p=true/\Aw W H p v
 |.var i,v=>σ[i]? =some (some v)
 |.bor i,v=>σ[i]? =some (some v)
 |.fld i f,v=>∃a C dx fs,σ[i]? =some (some (.ref a))/\H a=some (.ins C dx fs)/\Df W.K C/\Bu W.K C f/\fs.lookup f=some v
 |_,_=>False
def tX(W:Wd)(t:T):TE:=λσ H Q=>∃v,XR W σ H t v/\Q v H
def SJ(W:Wd):List T->TA
 |[]=>E3
 |t::ts=>Bb (tX W t) (SJ W ts)
section
variable{cf:CF}{mt:MT}{ρ:Env}{os:List Addr}
theorem RI(h:Fd p=true):∃v,Aw W H p v:=by
 cases p with
 |Ai=>exact⟨_,By.mpr rfl⟩
 |bl b=>exact⟨_,Bh.mpr rfl⟩
 |int b=>exact⟨_,Ae.mpr rfl⟩
 |str b=>exact⟨_,AL.mpr rfl⟩
 |tup b=>cases h
 |fn b=>cases h
 |box _ _=>cases h
theorem GQ(hR:A4 W H ρ σ os){i:Nat}{c:C}(e:Bi ρ i f=some c):∃a C dx fs v b o',σ[i]? =some (some (.ref a))/\H a=some (.ins C dx fs)/\Df W.K C/\Bu W.K C f/\fs.lookup f=some v/\c= .b b/\Bq W H b v o':=by
 unfold Bi at e;cases hg:A6 ρ i with
 |none=>rw[hg]at e;cases e
 |some d=>
   rw[hg]at e;cases d with
   |b x=>cases e
   |obj k fs'=>
     obtain⟨b,hb,rfl⟩:=oM e;obtain⟨u,o',q1,q2,_⟩:=hR.get hg;obtain⟨a',dx',vs,os',rfl,q3,q4,_,q5⟩:=q2;obtain⟨v',o'',g1,g2,_⟩:=q4.look hb;exact⟨a',W.B7 k,dx',vs,v',b,o'',q1,q3,q5.1,q5.2.1 _ (PySem.mem_of_lookup hb),g1,rfl,g2⟩
theorem R0{t:T}(ht:t.calm=true)(hR:A4 W H ρ σ os):(∃h v,Bn t (ev cf mt t) ρ= .ok h ρ/\XR W σ H t v/\E8 W σ H ρ h v [])\/Bn t (ev cf mt t) ρ= .stuck:=by
 have slot:∀i,(∃h v,(if(A6 ρ i).isSome then Res.ok (Hd.slot i) ρ else .stuck)= .ok h ρ/\σ[i]? =some (some v)/\E8 W σ H ρ h v [])\/(if(A6 ρ i).isSome then Res.ok (Hd.slot i) ρ else .stuck)= .stuck:=by
  intro i;cases hg:A6 ρ i with
  |none=>exact .inr rfl
  |some c=>
    obtain⟨v,o,q1,_⟩:=hR.get hg;exact .inl ⟨.slot i,v,rfl,q1,q1,rfl⟩
 cases t with
 |cst p=>
   obtain⟨v,hv⟩:=RI (W:=W) (H:=H) (show Fd p=true from ht);exact .inl ⟨.AD (.p p),v,by unfold Bn ev den;rfl,⟨ht,hv⟩,hv,rfl⟩
 |var i=>exact slot i
 |bor i=>exact slot i
 |fld i f=>
   show(∃h v,(if(Bi ρ i f).isSome then Res.ok (Hd.fld i f) ρ else .stuck)= .ok h ρ/\_)\/(if(Bi ρ i f).isSome then Res.ok (Hd.fld i f) ρ else .stuck)= .stuck;cases hg:Bi ρ i f with
   |none=>exact .inr rfl
   |some c=>
     obtain⟨a,C,dx,fs,v,b,o',q1,q2,q3,q4,q5,_⟩:=GQ hR hg;exact .inl ⟨.fld i f,v,rfl,⟨a,C,dx,fs,q1,q2,q3,q4,q5⟩,rfl,a,C,dx,fs,q1,q2,q5⟩
 |_=>cases ht
theorem BK(t:T)(ts:List T)(ρ:Env):A8 cf mt (t::ts) ρ=(Bn t (ev cf mt t) ρ).bind λh ρ=>match h with
 |.fld i f=>if ts.all T.calm then(A8 cf mt ts ρ).bind λhs ρ=>.ok (.fld i f::hs) ρ else .stuck
 |h=>(A8 cf mt ts ρ).bind λhs ρ=>.ok (h::hs) ρ:=by
 conv=>lhs;unfold A8
 all_goals rfl
theorem Cm(ρ:Env):A8 cf mt [] ρ= .ok [] ρ:=by unfold A8;rfl
theorem DZ:∀{ts:List T},ts.all T.calm=true->A4 W H ρ σ os->(∃hs,A8 cf mt ts ρ= .ok hs ρ/\∀Q:List V->Hp->Prop,(∀vs,B2 W σ H ρ hs vs []->Q vs H)->SJ W ts σ H Q)\/A8 cf mt ts ρ= .stuck
 |[],_,hR=>.inl ⟨[],Cm ρ,λQ k=>k [] ⟨rfl,rfl⟩⟩
 | t ::ts,ht,hR=>by
   rw[all_cons,bA]at ht;rcases R0 (cf:=cf) (mt:=mt) ht.1 hR with⟨h,v,e,x,r⟩|e
   .rcases DZ ht.2 hR with⟨hs,e2,q2⟩|e2
    .refine .inl ⟨h::hs,?_,λQ k=>⟨v,x,q2 _ λvs r2=>k (v::vs) ⟨v,vs,[],[],rfl,r,r2,rfl⟩⟩⟩;rw[BK,e,Res.A2];cases h with
     |fld i f=>dsimp only;rw[iP ht.2,e2];rfl
     |slot i=>dsimp only;rw[e2];rfl
     |AD c=>dsimp only;rw[e2];rfl
    .refine .inr ?_;rw[BK,e,Res.A2];cases h with
     |fld i f=>dsimp only;rw[iP ht.2,e2];rfl
     |slot i=>dsimp only;rw[e2];rfl
     |AD c=>dsimp only;rw[e2];rfl
   .refine .inr ?_;rw[BK,e];rfl
noncomputable def FH(W:Wd)(EX:XP)(cf:CF)(mt:MT):List T->TA
 |[]=>E3
 |t::ts=>if(t::ts).all T.calm=true then SJ W (t::ts)else Bb (tG W EX (E8 W) (Bn t (ev cf mt t))) (FH W EX cf mt ts)
theorem RH{r:Res C}{i:Nat}(e:(r.bind λc ρ=>Res.ok (Hd.AD c) ρ)=Res.ok (Hd.fld i f) ρ'):False:=by
 cases r<;>cases e
theorem Ux{i:Nat}(e:Bn t (ev cf mt t) ρ= .ok (.fld i f) ρ'):t= .fld i f:=by
 cases t with
 |fld j g=>
   have e:(if(Bi ρ j g).isSome then Res.ok (Hd.fld j g) ρ else .stuck)= .ok (.fld i f) ρ':=e;split at e
   .cases e;rfl
   .cases e
 |var j=>
   have e:(if(A6 ρ j).isSome then Res.ok (Hd.slot j) ρ else .stuck)= .ok (.fld i f) ρ':=e;split at e<;>cases e
 |bor j=>
   have e:(if(A6 ρ j).isSome then Res.ok (Hd.slot j) ρ else .stuck)= .ok (.fld i f) ρ':=e;split at e<;>cases e
 |_=>
   unfold Bn at e;exact(RH e).elim
theorem Ln:∀{ts:List T} {σ:L2.St} {H:Hp} {K:List V->Hp->Prop},tG W EX (B2 W) (A8 cf mt ts) σ H K->FH W EX cf mt ts σ H K
 | [],σ,H,K,h=>by
   obtain⟨ρ,os,hR,hn,hA⟩:=h;rw[Cm]at hA;exact hA [] H [] os ⟨rfl,rfl⟩ hR hn (AG.refl _ _)
 | t ::ts,σ,H,K,h=>by
   unfold FH;split
   .rename_i hc;obtain⟨ρ,os,hR,hn,hA⟩:=h;rcases DZ (cf:=cf) (mt:=mt) hc hR with⟨hs,e,q⟩|e
    .rw[e]at hA;exact q K λvs r=>hA vs H [] os r hR hn (AG.refl _ _)
    .rw[e]at hA;exact hA.elim
   .rename_i hc
    by_cases hf:∃i f,t= .fld i f
    .obtain⟨i,f,rfl⟩:=hf;have hts:¬ts.all T.calm=true:=λz=>hc (by rw[all_cons,z];rfl)
     obtain⟨ρ,os,hR,hn,hA⟩:=h;rw[BK]at hA;have e:Bn (.fld i f) (ev cf mt (.fld i f)) ρ=(if(Bi ρ i f).isSome then Res.ok (Hd.fld i f) ρ else .stuck):=rfl;rw[e]at hA;cases hg:(Bi ρ i f).isSome with
     |false=>rw[hg]at hA;exact False.elim hA
     |true=>
       rw[hg]at hA;have hA:BQ W EX (B2 W σ) H os σ (if ts.all T.calm then(A8 cf mt ts ρ).bind λhs ρ=>.ok (.fld i f::hs) ρ else .stuck) K:=hA;rw[iN hts]at hA;exact False.elim hA
    .have nf:∀ρ h ρ',Bn t (ev cf mt t) ρ= .ok h ρ'->∀i f,h≠.fld i f:=λρ h ρ' e i f z=>hf ⟨i,f,by rw[z]at e;exact Ux e⟩
     have h2:tG W EX (B2 W) (λρ=>(Bn t (ev cf mt t) ρ).bind λh ρ=>(A8 cf mt ts ρ).bind λhs ρ=>.ok (h::hs) ρ) σ H K:=by
      obtain⟨ρ,os,hR,hn,hA⟩:=h;refine⟨ρ,os,hR,hn,?_⟩;rw[BK]at hA;show BQ W EX (B2 W σ) H os σ ((Bn t (ev cf mt t) ρ).bind λh ρ=>(A8 cf mt ts ρ).bind λhs ρ=>.ok (h::hs) ρ) K;cases e:Bn t (ev cf mt t) ρ with
      |stuck=>rw[e]at hA;exact hA
      |err x p ρ'=>rw[e]at hA;exact hA
      |ok h ρ'=>
        rw[e,Res.A2]at hA;cases h with
        |fld i f=>exact absurd rfl (nf ρ _ ρ' e i f)
        |slot i=>exact hA
        |AD c=>exact hA
     have:=QY nf h2;exact Dn this λv H1 z=>Ln z
end
end Iv
namespace Xc
open PySem PySem.Spec
abbrev Eu(C t:Addr)(d:Option Addr):Obj:={cls:=.ref C,dict:=d,data:=.fields #[.ref t,.none,.none,.none,.bool false,.none]}
abbrev Iu(rest:List Value):Obj:={cls:=.type "tuple",data:=.seq rest.toArray}
section
variable{prog:Program}{w:World}{A:Around}{h:Heap}{g:Array GenState}{d:Drawn}{t:Nat}{os:OsState}
variable{nm q:Str}{C N:Addr}{bs bm:List Value}{hdct:Bool}{sn:List Str}{sub:List Value}{ab:Bool}{col:Option Bool}{dd:Option Addr}{k0 k1 k2 k3 k5:Option Value}
structure Df(h:Heap)(C:Addr)(bm:List Value):Prop where
 at_:∃nm q N bs hdct sn sub ab col dd k0 k1 k2 k3 k5,h.get? C=some (excClassObj nm q C N bs bm hdct sn sub ab col dd k0 k1 k2 k3 k5 "ValueError.__new__")
 val:bm.contains (.type "ValueError")=true
 base:bm.contains (.type "BaseException")=true
 fW:bm.contains (.type "AttributeError")=false
 kR:bm.contains (.type "NameError")=false
theorem Df.keeps{h h':Heap}{C:Addr}{bm:List Value}(c:Df h C bm)(k:∀b o,h.get? b=some o->h'.get? b=some o):Df h' C bm:=by
 obtain⟨⟨nm,q,N,bs,hdct,sn,sub,ab,col,dd,k0,k1,k2,k3,k5,e⟩,h1,h2,h3,h4⟩:=c;exact⟨⟨nm,q,N,bs,hdct,sn,sub,ab,col,dd,k0,k1,k2,k3,k5,k _ _ e⟩,h1,h2,h3,h4⟩
theorem O2{M:Model}{E:Value->Shared->Prop}{rest:List Value}{Q:Unit->Shared->Prop}(c:Df h C bm)(hq:Q () ⟨h,g,d,t,os⟩):wpAny M A (checkBuiltinCall "ValueError.__new__" ⟨.ref C::rest,[]⟩) Q E ⟨h,g,d,t,os⟩:=by
 obtain⟨⟨nm,q,N,bs,hdct,sn,sub,ab,col,dd,k0,k1,k2,k3,k5,hC⟩,h1,-,-,-⟩:=c;have F:=PySem.F.excBase_ValueError;have hv:(Value.ref C::bm).contains (.type "ValueError")=true:=by rw[contains_cons,h1,Bool.or_true]
 have hs:=F.noStar;simp only[checkBuiltinCall,F.newKind,F.newSplit,F.newRow]
 repeat (first
  |simp only[bne_self_eq_false,Bool.false_eq_true,if_false]
  |refine wpAny_madeBy_exc hC ?_
  |refine wpAny_staticBase_exc hC ?_
  |refine wpAny_loadPart_at hC ?_
  |(refine wpAny_isSubtype_exc hC ?_;rw[hv])
  |wp_step)
 exact hq
theorem U2{R:Result->Shared->Prop}{rest:List Value}(c:Df h C bm)(hr:rest.length<=sizeLine)(hq:R (.ok (.ret (.ref (h.objs.size + 1)))) ⟨(h.push (Iu rest)).push (Eu C h.objs.size none),g,d,t,os⟩):
 codeAny (model prog w) A (.builtin "ValueError.__new__" ⟨.ref C::rest,[]⟩) R ⟨h,g,d,t,os⟩:=by
 obtain⟨⟨nm,q,N,bs,hdct,sn,sub,ab,col,dd,k0,k1,k2,k3,k5,hC⟩,h1,-,h3,h4⟩:=c;have F:=PySem.F.excBase_ValueError;have he:=F.ends;have hv:(Value.ref C::bm).contains (.type "ValueError")=true:=by rw[contains_cons,h1,Bool.or_true]
 have ha:(Value.ref C::bm).contains (.type "AttributeError")=false:=by rw[contains_cons,h3];rfl
 have hn:(Value.ref C::bm).contains (.type "NameError")=false:=by rw[contains_cons,h4];rfl
 refine codeAny_builtinAt F.entry ?_;unfold Builtin.«BaseException.__new__»;refine wpAt_bind ?_;show wpAt _ _ _ (stack >>= _) _ _ _;refine wpAt_bind (wpAt_stack λp below=>wpAt_of_wpAny ?_)
 wp_walk
 refine wpAt_of_wpAny ?_;rw[F.owner]
 repeat (first
  |with_reducible refine wpAny_loadPart_at hC ?_
  |with_reducible refine wpAny_madeHere_exc F.canon hC ?_
  |(with_reducible refine wpAny_isSubtype_exc hC ?_;first|rw[hv]|rw[ha]|rw[hn])
  |wp_step)
 show R _ _;rw[Heap.size_push];exact hq
end
section
variable{prog:Program}{w:World}{A:Around}{h:Heap}{g:Array GenState}{d:Drawn}{t:Nat}{os:OsState}{C f:Addr}{bm:List Value}{K:PySem.W.Frag}
theorem Rg{R:Result->Shared->Prop}{rest:List Value}(X:K.In h)(c:Df h C bm)(hi:findIn K (.ref C) "__init__"=some (some (.ref f)))(hf:typeIn K (.ref f)=some (.type "function"))(hr:rest.length<=sizeLine)
 (hq:codeAny (model prog w) (A.under (.builtin "type.__call__" ⟨.ref C::rest,[]⟩)) (.call (.ref f) ⟨.ref (h.objs.size+1)::rest,[]⟩) (InitBack (h.objs.size+1) R) ⟨(h.push (Iu rest)).push (Eu C h.objs.size none),g,d,t,os⟩):
 codeAny (model prog w) A (.call (.ref C) ⟨rest,[]⟩) R ⟨h,g,d,t,os⟩:=by
 obtain⟨nm,q,N,bs,hdct,sn,sub,ab,col,dd,k0,k1,k2,k3,k5,hC⟩:=c.at_;have F:=PySem.F.excBase_ValueError;have f1:=tc_lookup;have f2:=tc_bind (.ref C);have hT:(⟨h,g,d,t,os⟩:Shared).TypeIs (.ref C) "type":=⟨_,hC,rfl⟩;refine codeAny_of_tree ?_;show wpAny _ _ (callAny (.ref C) _) _ _ _
 repeat (any_goals (first|assumption|with_reducible refine wpAny_loadPart_at hC ?_|wp_step))
 refine⟨rfl,?_⟩;refine codeAny_call_builtin_at (Code.quiet_builtin _ (by decide +kernel)) entry_typeCall (wpAny_check_type_call_sub hC ?_)
 repeat (first|with_reducible refine wpAny_loadPart_at hC ?_|with_reducible refine wpAny_madeBy_exc hC ?_|wp_step)
 refine codeAny_call_builtin_code (Code.quiet_builtin _ F.quiet) (O2 c ?_);refine U2 c hr ?_;show wpAny _ _ _ _ _ _;have k:∀b o,h.get? b=some o->((h.push (Iu rest)).push (Eu C h.objs.size none)).get? b=some o:=λb o e=>gP (gP e)
 have hg:((h.push (Iu rest)).push (Eu C h.objs.size none)).get? (h.objs.size+1)=some (Eu C h.objs.size none):=by heap_get
 have hC1:=k _ _ hC;have hcC:(Value.ref C::bm).contains (.ref C)=true:=by simp
 have i1:=(looks_findIn (M:=model prog w) X hi).keeps k;have b1:=(bind_fn (M:=model prog w) X (.ref (h.objs.size+1)) hf).keeps k;unfold isInstance
 repeat (first|with_reducible refine wpAny_loadPart_at hg ?_|(with_reducible refine wpAny_isSubtype_exc hC1 ?_;rw[hcC])|wp_step)
 show wpAny _ _ (isSubtype (.ref C) (.ref C)) _ _ ⟨(h.push (Iu rest)).push (Eu C h.objs.size none),g,d,t,os⟩;refine wpAny_isSubtype_exc hC1 ?_;rw[hcC];simp only[Bool.not_true,Bool.false_eq_true,if_false];have t1:Looks (model prog w) ((h.push (Iu rest)).push (Eu C h.objs.size none)) (typeOf (.ref (h.objs.size+1))) (.ref C):=(Looks.ld hg).andThen .now;unfold callSpecial? specialOf
 repeat (first|with_reducible refine wpAny_call ?_|lk)
 refine codeAny_mono hq λr s' z=>?_
 rcases r with e|(v|_|_|_)<;>first|exact z|exact z.elim|skip
 obtain⟨rfl,z⟩:=z;exact wP (wP z)
end
end Xc
namespace Xc
open PySem PySem.Spec PySem.Builtin PySem.Builtin.ObjectAttr
noncomputable def Ql:List Value->Bool
 |.ref _::r=>Ql r
 |r=>r == [.type "ValueError",.type "Exception",.type "BaseException",.type "object"]
theorem JZ(self:Value):∀{l:List Value},Ql l=true->refuseLoop self "__setattr__" l=pure ():=by
 intro l
 induction l with
 |nil=>intro e;cases e
 |cons v l ih=>
   intro e;cases v with
   |ref c=>rw[refuseLoop_ref];exact ih e
   |_=>
     have:=beq_iff_eq.mp (show(_ == _)=true from e);rw[this];exact PySem.F.store_ValueError.passes self
theorem Qj:∀{l:List Value},Ql l=true->l.contains (.type "object")=true:=by
 intro l
 induction l with
 |nil=>intro e;cases e
 |cons v l ih=>
   intro e;cases v with
   |ref c=>rw[contains_cons,ih e,Bool.or_true]
   |_=>
     have:=beq_iff_eq.mp (show(_ == _)=true from e);rw[this];decide +kernel
def HD(K:PySem.W.Frag)(C:Addr):Bool:=(clsIn K C).any λcd=>Ql cd.mro
section
variable{prog:Program}{w:World}{A:Around}{E:Value->Shared->Prop}{s:Shared}{x C:Addr}{K:PySem.W.Frag}{name:Str}{v:Value}
theorem T4{Q:Unit->Shared->Prop}{vs:Array Value}(X:K.In s.heap)(hx:s.heap.get? x=some ⟨.ref C,none,.fields vs,#[]⟩)
 (hs:findIn K (.ref C) "__setattr__"=some (some (.builtin "object.__setattr__")))(hp:HD K C=true)(ht:takerIn K C name=some none)(hh:hasDictIn K C=true)
 (h:∀h' tk,h'.get? x=some ⟨.ref C,some s.heap.objs.size,.fields vs,#[]⟩->h'.Ns1 s.heap.objs.size (λz=>if z=name then some v else none)->(∀b o,b≠x->s.heap.get? b=some o->h'.get? b=some o)->Q () {s with heap:=h',toks:=tk}):
 wpAny (model prog w) A (setAttr (.ref x) name v) Q E s:=by
 have I:InstAt s.heap x ⟨.ref C,none,.fields vs,#[]⟩ C none:=⟨hx,rfl,rfl,trivial⟩;refine set_plain X I hs ?_;have SF:=PySem.F.store_object;obtain⟨cd,hc,ho⟩:=any_some hp;obtain⟨cd',hc',hd⟩:=any_some hh;obtain rfl:cd=cd':=Option.some.inj (hc.symm.trans hc');have ne:cd.mro.isEmpty=false:=by cases q:cd.mro with|nil=>rw[q]at ho;cases ho|cons _ _=>rfl
 have sub:Looks (model prog w) s.heap (isInstance (.ref x) (.type "object")) true:=I.type.andThen (looks_mroIn X (by unfold mroIn;rw[hc,Option.bind_some,iN (by rw[ne];decide),Qj ho]));refine codeAny_call_builtin SF.slot.plain SF.entry (@check_slot (model prog w) _ _ _ "object.__setattr__" "object" "__setattr__" (.ref x) [.str name s.toks,v] [] _ SF.kind SF.split sub (SF.args (.ref x) (.str name s.toks) v) ?_);obtain⟨attr,ha,hr⟩:=oB ht;have hm:Looks (model prog w) s.heap (mroOf (.ref C)) cd.mro:=(looks_clsIn X hc).andThen .now
 have L3:Looks (model prog w) s.heap (storeTaker? attr) none:=by
  cases attr with
  |none=>exact .now
  |some a=>
    obtain⟨b,hb,e⟩:=oM hr;refine(PySem.W.looks_takesIn X hb).andThen ?_;cases b
    .exact .now
    .cases e
 rw[osa_eq,refuse_eq];have kk:∀b o,s.heap.get? b=some o->s.heap.get? b=some o:=λ_ _ e=>e
 refine wpAny_bind (wpAny_bind (I.type _ _ _ _ kk (wpAny_bind (hm _ _ _ _ kk ?_))));rw[JZ _ ho];refine wP (wpAny_bind (I.type _ _ _ _ kk (wpAny_bind (looks_findIn X ha _ _ _ _ kk (wpAny_bind (L3 _ _ _ _ kk ?_))))));show wpAny _ _ (storeInOwnDict (.ref x) (.ref C) (.str name s.toks) name v _) _ _ _;refine wpAny_bind (wP (wpAny_bind (wpAny_bind (wpAny_loadPart hx (wpAny_bind (looks_clsIn X hc _ _ _ _ kk ?_))))));rw[hd];show wpAny _ _ (alloc _ >>= λd=>_) _ _ _;have hx1:(s.heap.push {cls:=.type "dict",data:=.dict #[]}).get? x=some ⟨.ref C,none,.fields vs,#[]⟩:=gP hx;have hxs:x≠s.heap.objs.size:=Nat.ne_of_lt (Heap.lt_size hx);refine wpAny_bind (wpAny_alloc' (wpAny_bind (wpAny_update' hx1 ?_)));refine wP ?_;show wpAny _ _ (storeInDict s.heap.objs.size (.str name s.toks) name v) _ _ _
 have hgd:((s.heap.push {cls:=.type "dict",data:=.dict #[]}).update x λo=>{cls:=o.cls,dict:=some s.heap.objs.size,data:=o.data,slots:=o.slots}).get? s.heap.objs.size=some {cls:=.type "dict",data:=.dict #[]}:=
  (Heap.get?_update_ne _ _ _ _ hxs.symm).trans (Heap.get?_push_at rfl rfl)
 have hnd:((s.heap.push {cls:=.type "dict",data:=.dict #[]}).update x λo=>{cls:=o.cls,dict:=some s.heap.objs.size,data:=o.data,slots:=o.slots}).Ns s.heap.objs.size (λ_=>none):=
  ⟨_,#[],_,hgd,rfl,λe he=>absurd he (by simp),λ_=>rfl⟩
 unfold storeInDict newKeyGuard;refine wpAny_bind (wP (wpAny_bind (wpAny_nsSet1 (s:=⟨_,s.gens,s.drawn,s.toks+1,s.os⟩) (Heap.Ns1.of_empty hnd) λh' hn' hs'=>?_)));obtain⟨oD,esD,epD,hoD,hdD,hcD⟩:=hn'.count (Within.cons name v Within.nil);refine wpAny_bind (wpAny_lookBehind hoD (by rw[hdD];exact pastItsLine_dict (Nat.le_trans hcD (by rw[lC,length_nil,sizeLine_eq];omega))) ?_)
 wp_walk
 refine h h' _ ((hs'.2 x hxs).trans (Heap.get?_update_self _ hx1 rfl)) hn' λb o hb e=>?_
 exact(hs'.2 b (Nat.ne_of_lt (Heap.lt_size e))).trans ((Heap.get?_update_ne _ _ _ _ hb).trans (gP e))
end
end Xc
namespace Xc
open PySem PySem.Spec L2
section
variable{P:Program}{w:World}{A:Around}{s:Shared}{e C f:Addr}{K:PySem.W.Frag}{x qual:Str}{st:Stmt}{fd:FuncData}{p1 p2 p3 p4:Pos}{sf pl:Str}
theorem QT{R:Result->Shared->Prop}{vs:Array Value}(F:BW K x qual st f fd)(S:Cv [sf,pl] [sf,pl] (Ah st))(hb:Binds K fd [sf,pl] [])
 (h1:(Ah st).names.lookup sf=some .local)(h2:(Ah st).names.lookup pl=some .local)
 (hbody:BN st=[.Assign [.Attribute (.Name sf p1) pl p2] (.Name pl p3) p4])(hne:sf≠pl)(d1:(sf == ("__debug__":Str))=false)(d2:(pl == ("__debug__":Str))=false)(hr:B3 2 A)(X:K.In s.heap)(lim:s.heap.NoLimit)
 (he:s.heap.get? e=some ⟨.ref C,none,.fields vs,#[]⟩)(hs:findIn K (.ref C) "__setattr__"=some (some (.builtin "object.__setattr__")))(hp:HD K C=true)(ht:takerIn K C pl=some none)(hh:hasDictIn K C=true)
 (h:∀h' tk d,h'.get? e=some ⟨.ref C,some d,.fields vs,#[]⟩->h'.Ns1 d (λz=>if z=pl then some .none else none)->s.heap.objs.size<=d->(∀b o,b≠e->s.heap.get? b=some o->h'.get? b=some o)->R (.ok (.ret .none)) {s with heap:=h',toks:=tk}):
 codeAny (model P w) A (.call (.ref f) ⟨[.ref e,.none],[]⟩) R s:=by
 obtain⟨oc,od,kV,doc,pm,an,cdv,ct,osl,rfl,lk,hcd⟩:=F.ex
 have hkind:∀y∈[sf,pl].zip [Value.ref e,Value.none],(Ah st).names.lookup y.1=some .local\/((Ah st).names.lookup y.1=some .cell/\((cellsFrom (s.heap.objs.size + 1) (Ah st).names []).lookup y.1).isSome=true):=λ⟨n,v⟩ hy=>by
  rcases S.par n (of_mem_zip hy).1 with q|q
  .exact .inl q
  .exact .inr ⟨q,cellsFrom_some _ _ _ (.inl q)⟩
 refine codeAny_call_function hr.depth (X _ _ lk) rfl S.co S.gen rfl (codeRec_of X hcd) (hb s [.ref e,.none] X rfl _ _ _ _ ?_);refine wpAny_newFunctionEnv_cells S.kind hkind λenv hen s1 x=>?_
 subst hen;refine⟨lim.keeps x.toInCall.keep,codeAny_func ?_⟩;show wpAny (model P w) (A.deeper (PyProof.Rows.envOfC qual (Ah st) s.heap.objs.size f cdv)) (execs (BN st) (PyProof.Rows.envOfC qual (Ah st) s.heap.objs.size f cdv)) _ _ s1;have hk:=x.toInCall.keep;have hns:=x.toInCall.ns;obtain⟨h1',tk,rfl,hkp⟩:=x.done;have m1:=E2 (kindOf:=(PyProof.Rows.envOfC qual (Ah st) s.heap.objs.size f cdv).kindOf) (m:=λ_=>none) (vs:=[Value.ref e,Value.none]) S.nd (i:=0) (x:=sf) rfl rfl h1;have m2:=E2 (kindOf:=(PyProof.Rows.envOfC qual (Ah st) s.heap.objs.size f cdv).kindOf) (m:=λ_=>none) (vs:=[Value.ref e,Value.none]) S.nd (i:=1) (x:=pl) rfl rfl h2;rw[hbody];refine wpAny_execs_cons (plainObj_wpAny_Assign_Attribute ?_);refine wpAny_Name (wpAny_loadName_local S.kind h2 hns m2 ?_) d2;refine wpAny_Name (wpAny_loadName_local S.kind h1 hns m1 ?_) d1;refine T4 (λb o q=>hk b o (X b o q)) (hk _ _ he) hs hp ht hh λh' tk' q1 q3 q2=>?_
 exact wpAny_execs_nil (h h' tk' _ q1 q3 (Nat.le_of_lt (show s.heap.objs.size < _ from hns.lt)) λb o hb q=>q2 b o hb (hk b o q))
end
variable{s:Shared}
theorem Ld{M:Model}{A:Around}{E:Value->Shared->Prop}{env:Env}{x:Sem Value}{Q:Flow->Shared->Prop}{C:Addr}{bm:List Value}(hh:A.handled=none)
 (h:wpAny M A x (λv s1=>∃e d t,v= .ref e/\Df s1.heap C bm/\s1.heap.get? e=some (Eu C t d)/\E (.ref e) s1) E s):wpAny M A (raiseStmt env (some x) none) Q E s:=by
 unfold raiseStmt;refine wpAny_bind (AI h λv s1 ⟨e,d,t,hv,c,he,hE⟩=>?_);subst hv;obtain⟨nm,q,N,bs,hdct,sn,sub,ab,col,dd,k0,k1,k2,k3,k5,hC⟩:=c.at_;have hcB:(Value.ref C::bm).contains (.type "BaseException")=true:=by rw[contains_cons,c.base,Bool.or_true]
 obtain⟨hp,g,dr,tk,os⟩:=s1
 repeat (first|with_reducible refine wpAny_loadPart_at he ?_|with_reducible refine wpAny_loadPart_at hC ?_|(with_reducible refine wpAny_isSubtype_exc hC ?_;rw[hcB])|wp_step)
 exact wpAny_raiseNew_none hh hE
structure Xk(K:PySem.W.Frag)(C f:Addr)(sf:Str)(st:Stmt)(fd:FuncData):Prop where
 cls:∃bm,∀h:Heap,K.In h->Df h C bm
 kp:keepIn K (.ref C)=true
 kD:findIn K (.ref C) "__init__"=some (some (.ref f))
 fn:isFn K (.ref f)=true
 sa:findIn K (.ref C) "__setattr__"=some (some (.builtin "object.__setattr__"))
 ov:HD K C=true
 tk:takerIn K C "place"=some none
 hd:hasDictIn K C=true
 fu:∃x qual,BW K x qual st f fd
 sc:Cv [sf,"place"] [sf,"place"] (Ah st)
 bi:Binds K fd [sf,"place"] []
 l1:(Ah st).names.lookup sf=some .local
 l2:(Ah st).names.lookup ("place":Str)=some .local
 bd:∃p1 p2 p3 p4,BN st=[.Assign [.Attribute (.Name sf p1) "place" p2] (.Name "place" p3) p4]
 ne:sf≠"place"
 d1:(sf == ("__debug__":Str))=false
 d2:(("place":Str) == ("__debug__":Str))=false
theorem NI{X:Cx}{C:Addr}{sf:Str}{st:Stmt}{fd:FuncData}{cp pos np:Pos}{j:Nat}{pins:List (Addr×Obj)}{σ:St}{H:Hp}{Q:Flow->Shared->Prop}
 (k:Xk X.K C f sf st fd)(hr:B3 4 X.A)(hg:Gl X x)(hm:X.mg x=some (.ref C))(hdb:(x == ("__debug__":Str))=false)(I:Inv X pins σ H s)
 (h:∀s1 s' e t d,Inv X pins σ H s1->s'.os=s1.os->s'.gens=s1.gens->(∀b o,s1.heap.get? b=some o->s'.heap.get? b=some o)->s1.heap.get? e=none->s'.heap.get? e=some (Eu C t (some d))->s'.heap.Ns1 d (λz=>if z="place" then some .none else none)->s1.heap.get? d=none->d≠e->X.xe (.ref e) s'):
 wpAny (model X.prog X.w) X.A (exec (.Raise (some (.Call (.Name x p) [.Constant .none j np] [] cp)) none pos) X.env) Q X.xe s:=by
 rw[arm_exec_Raise];obtain⟨bm,hc⟩:=k.cls;refine wpAny_bind (wpAny_standAt (Ld (C:=C) (bm:=bm) hr.hd ?_));refine wpAny_bind (AI (Q:=λv s1=>∃e d t,v= .ref e/\Df s1.heap C bm/\s1.heap.get? e=some (Eu C t d)/\X.xe (.ref e) s1) ?_ λv s1 h1=>wpAny_bind (wpAny_standAt (wP h1)));refine wpAny_Call_Name_kw (D8 I hg hm ?_ hdb);refine callWith_K (h₀:=X.base) I.ok.mod.Of k.kp (AI ((AO (X:=X) (Li (j:=j) (pos:=np)) Cf rfl) cp pins s σ H (λvs H1=>vs=[V.Ai]/\H1=H) I ⟨rfl,rfl⟩) λus s1 ⟨vs,H1,I1,r,e1,e2⟩=>⟨I1.BX,?_⟩);subst e1;subst e2;obtain⟨u,rfl,ru⟩:=vals1 r;obtain rfl:u=Value.none:=ru;obtain⟨x',qual,F⟩:=k.fu;obtain⟨p1,p2,p3,p4,hb⟩:=k.bd;have hf:=beq_iff_eq.mp k.fn;have I0:=I1;obtain⟨hp,g,dr,tk,os⟩:=s1;refine wpAny_call (Rg I1.BX (hc _ I1.BX) k.kD hf (by decide) ?_);have kk:∀b o,hp.get? b=some o->((hp.push (Iu [.none])).push (Eu C hp.objs.size none)).get? b=some o:=λb o e=>gP (gP e)
 refine QT (s:=⟨(hp.push (Iu [.none])).push (Eu C hp.objs.size none),g,dr,tk,os⟩) F k.sc k.bi k.l1 k.l2 hb k.ne k.d1 k.d2 ((hr.mono (by decide:3<=4)).make C [.none] []) (λb o q=>kk b o (I1.BX b o q)) (I1.nolimit.keeps kk) (by heap_get) k.sa k.ov k.tk k.hd λh' tk' d q1 q3 q4 q2=>?_
 have q5:hp.objs.size + 1 + 1<=d:=by
  have z:((hp.push (Iu [.none])).push (Eu C hp.objs.size none)).objs.size<=d:=q4;rwa[Heap.size_push,Heap.size_push]at z
 have kp:∀b o,hp.get? b=some o->h'.get? b=some o:=λb o q=>q2 b o (Nat.ne_of_lt (Nat.lt_succ_of_lt (Heap.lt_size q))) (kk b o q)
 exact⟨rfl,_,some d,hp.objs.size,rfl,(hc hp I1.BX).keeps kp,q1,h ⟨hp,g,dr,tk,os⟩ _ _ _ _ I0 rfl rfl kp (Heap.get?_none_of_le (Nat.le_succ _)) q1 q3 (Heap.get?_none_of_le (by lia)) (by lia)⟩
end Xc
namespace Xc
open PySem PySem.Spec
def kg(h base:Heap)(e:Addr)(cls:Value)(d:Option Addr)(fl:Value):Prop:=
 ∃oe vs T oT ts,h.get? e=some oe/\(oe.cls=cls/\oe.dict=d)/\oe.data= .fields vs/\vs[1]? =some (.ref T)/\base.get? T=none/\T≠e/\h.get? T=some oT/\oT.data= .fields ts/\ts[3]? =some fl
def VM(base:Heap)(l:List Env)(e:Addr)(cls:Value)(d:Option Addr)(fl:Value)(h':Heap):Prop:=base.StaysIn h'/\h'.FunFrames base l/\kg h' base e cls d fl
abbrev gL(head L fl:Value)(pl:List Value):Obj:={cls:=.type "traceback",data:=.fields ([head,L,Value.none,fl,Value.none]++if pl.isEmpty=true then List.replicate 6 Value.none else pl).toArray}
section
variable{M:Model}{A:Around}{E:Value->Shared->Prop}{s:Shared}{base:Heap}{env:Env}{outer:List Env}{L e:Addr}{cls head fl:Value}{d:Option Addr}{Q:Unit->Shared->Prop}
variable{oe:Obj}{vs:Array Value}
theorem K0{b:Bool}(fr:A.frames=some (env::outer))(ff:s.heap.FunFrames base (env::outer))(hf:env.frame=some L)(he:s.heap.get? e=some oe)(st:base.StaysIn s.heap)(hb:base.get? e=none)(hd:oe.data= .fields vs)(hz:1 < vs.size)(hc:oe.cls=cls/\oe.dict=d)
 (k:∀h',VM base (env::outer) e cls d (rawInt ↑L) h'->s.heap.UpToSlots h'->Q () {s with heap:=h'}):
 wpAny M A (do let a <-frameOf env;let pl <-entryPlaceOf L b;let b <-EntryCells.newEntry head a Value.none (rawInt ↑L) Value.none pl;setField (.ref e) 1 b) Q E s:=by
 refine wpAny_bind (wpAny_frameOf_fun fr ff hf λh1 so=>wpAny_bind (wpAny_entryPlaceOf λpl ip=>?_));obtain⟨hp,g,dr,tk,os⟩:=s;obtain⟨o1,o2,o3⟩:=so;obtain⟨sl,he1⟩:=o3 e oe he
 have hlen:(([head,.ref L,Value.none,rawInt ↑L,Value.none]++if pl.isEmpty=true then List.replicate 6 Value.none else pl).toArray).size<=11:=by
  rcases ip with rfl|⟨_,_,_,_,_,_,_,rfl⟩<;>simp
 unfold EntryCells.newEntry newFields newObj;dsimp only;have h11:(11:Nat)<=sizeLine+2:=by decide
 rw[iN (by lia)];unfold newObjAsIs;refine wpAny_bind (wpAny_bind (wpAny_alloc' (wP ?_)));have he2:(h1.push (gL head (.ref L) (rawInt ↑L) pl)).get? e=some {cls:=oe.cls,dict:=oe.dict,data:=oe.data,slots:=sl}:=gP he1;refine wpAny_setField he2 hd hz ?_;have CJ:∀c o,c≠e->h1.get? c=some o->((h1.push (gL head (.ref L) (rawInt ↑L) pl)).update e (Obj.mapFields λx=>x.setIfInBounds 1 (.ref h1.objs.size))).get? c=some o:=λc o hne q=>(Heap.get?_update_ne _ _ _ _ hne).trans (gP q)
 have up:hp.UpToSlots ((h1.push (gL head (.ref L) (rawInt ↑L) pl)).update e (Obj.mapFields λx=>x.setIfInBounds 1 (.ref h1.objs.size))):=λc o q hn=>by
  obtain⟨sl',q'⟩:=o3 c o q;exact⟨sl',CJ c _ (λz=>by subst z;rw[he]at q;cases q;exact hn _ hd) q'⟩
 have en:h1.objs.size≠e:=(Nat.ne_of_lt (Heap.lt_size he1)).symm;refine k _ ⟨λc o q=>CJ c o (λz=>by subst z;rw[hb]at q;cases q) (by rw[o2 c (λhm=>by rw[(ff.mem hm).1]at q;cases q)];exact st c o q),ff.of_keeps λc o q hn=>?_,?_⟩ up
 .obtain⟨sl',q'⟩:=up c o q hn;exact⟨_,q',rfl⟩
 .refine⟨_,_,h1.objs.size,_,_,Heap.get?_update_self _ he2 (by unfold Obj.mapFields;rw[hd];rfl),?_,by unfold Obj.mapFields;rw[hd],?_,?_,en,(Heap.get?_update_ne _ _ _ _ en).trans (Heap.get?_push_size _ rfl),rfl,?_⟩
  .unfold Obj.mapFields;rw[hd];exact hc
  .rw[Array.getElem?_setIfInBounds_self,iP hz]
  .cases q:base.get? h1.objs.size with
   |none=>rfl
   |some o=>
     have:=Heap.lt_size (st _ o q);rw[<-o1]at this;exact absurd this (Nat.lt_irrefl _)
  .rfl
theorem G7(st:base.StaysIn s.heap)(ff:s.heap.FunFrames base outer)(hb:base.get? e=none)(t:kg s.heap base e cls d fl)(k:∀h',VM base outer e cls d Value.none h'->s.heap.UpToSlots h'->Q () {s with heap:=h'}):wpAny M A (setFlight (.ref e) none) Q E s:=by
 obtain⟨oe,vs,T,⟨cT,dT,aT,sT⟩,ts,h1,h2,h3,h4,h5,h6,h7,h8,h9⟩:=t;cases (show aT=_ from h8);have hsz:=(Array.getElem?_eq_some_iff.mp h9).1;refine wpAny_setFlight_none h1 h3 h4 h7 h8 hsz ?_;have CJ:∀c o,c≠T->s.heap.get? c=some o->(s.heap.update T (Obj.mapFields λx=>x.setIfInBounds 3 Value.none)).get? c=some o:=λc o hne q=>(Heap.get?_update_ne _ _ _ _ hne).trans q
 have up:s.heap.UpToSlots (s.heap.update T (Obj.mapFields λx=>x.setIfInBounds 3 Value.none)):=λc o q hn=>⟨o.slots,CJ c o (λz=>by subst z;rw[h7]at q;cases q;exact hn _ h8) q⟩
 refine k _ ⟨λc o q=>CJ c o (λz=>by subst z;rw[h5]at q;cases q) (st c o q),ff.of_keeps λc o q hn=>?_,oe,vs,T,_,_,CJ e oe (Ne.symm h6) h1,h2,h3,h4,h5,h6,Heap.get?_update_self _ h7 rfl,rfl,by rw[Array.getElem?_setIfInBounds_self,iP hsz]⟩ up;obtain⟨sl',q'⟩:=up c o q hn;exact⟨_,q',rfl⟩
theorem K1(fr:A.frames=some (env::outer))(hf:env.frame=some L)(hb:base.get? e=none)(t:VM base (env::outer) e cls d Value.none s.heap)(k:∀h',VM base (env::outer) e cls d (rawInt ↑L) h'->s.heap.UpToSlots h'->Q () {s with heap:=h'}):
 wpAny M A (noteFrame (.ref e) env) Q E s:=by
 obtain⟨st,ff,oe,vs,T,oT,ts,h1,h2,h3,h4,h5,h6,h7,h8,h9⟩:=t;have hsz:=(Array.getElem?_eq_some_iff.mp h9).1;unfold noteFrame;rw[hf];refine wpAny_bind (wpAny_field h1 h3 h4 ?_);show wpAny _ _ (if _ then _ else _) _ _ _;rw[iP (by simp)];refine wpAny_bind (wpAny_field h7 h8 h9 ?_);rw[iN (by intro z;cases beq_iff_eq.mp z)];refine wpAny_bind (wpAny_setField h7 h8 hsz ?_);have CJ:∀c o,c≠T->s.heap.get? c=some o->(s.heap.update T (Obj.mapFields λx=>x.setIfInBounds 3 Value.none)).get? c=some o:=λc o hne q=>(Heap.get?_update_ne _ _ _ _ hne).trans q
 have up:s.heap.UpToSlots (s.heap.update T (Obj.mapFields λx=>x.setIfInBounds 3 Value.none)):=λc o q hn=>⟨o.slots,CJ c o (λz=>by subst z;rw[h7]at q;cases q;exact hn _ h8) q⟩
 exact K0 (s:={s with heap:=s.heap.update T (Obj.mapFields λx=>x.setIfInBounds 3 Value.none)}) fr (ff.of_keeps λc o q hn=>by obtain⟨sl',q'⟩:=up c o q hn;exact⟨_,q',rfl⟩) hf (CJ e oe (Ne.symm h6) h1) (λc o q=>CJ c o (λz=>by subst z;rw[h5]at q;cases q) (st c o q)) hb h3 (Array.getElem?_eq_some_iff.mp h4).1 h2 λh' f u=>k h' f (up.trans u)
theorem LC(fr:A.frames=some (env::outer))(hf:env.frame=some L)(hb:base.get? e=none)(t:VM base (env::outer) e cls d Value.none s.heap)(k:∀h',VM base (env::outer) e cls d Value.none h'->s.heap.UpToSlots h'->Q () {s with heap:=h'}):
 wpAny M A (leaving env (.ref e)) Q E s:=by
 unfold leaving;exact wpAny_bind (K1 fr hf hb t λh' f u=>G7 f.1 f.2.1 hb f.2.2 λh2 f2 u2=>k h2 f2 (u.trans u2))
theorem Ke(fr:A.frames=some (env::outer))(ff:s.heap.FunFrames base (env::outer))(hf:env.frame=some L)(he:s.heap.get? e=some oe)(st:base.StaysIn s.heap)(hb:base.get? e=none)(hd:oe.data= .fields vs)(h1:vs[1]? =some Value.none)(hc:oe.cls=cls/\oe.dict=d)
 (k:∀h',VM base (env::outer) e cls d Value.none h'->s.heap.UpToSlots h'->Q () {s with heap:=h'}):wpAny M A (leaving env (.ref e)) Q E s:=by
 unfold leaving noteFrame;rw[hf];refine wpAny_bind (wpAny_bind (wpAny_field he hd h1 ?_));show wpAny _ _ (if _ then _ else _) _ _ _;rw[iN (by decide)];exact K0 fr ff hf he st hb hd (Array.getElem?_eq_some_iff.mp h1).1 hc λh' f u=>G7 f.1 f.2.1 hb f.2.2 λh2 f2 u2=>k h2 f2 (u.trans u2)
end
end Xc
namespace Xc
open PySem PySem.Spec L2 PyProof.Rows
abbrev W7:Str->Option Value:=λz=>if z="place" then some .none else none
noncomputable def DI(P:Program)(w:World):aw:=λouter H s E e s'=>∃(ea C d:Addr) (B:Heap) (H':Hp),e= .ref ea/\s'.os=s.os/\AllBare s'.gens/\Un (C6 outer) [] H H' s.heap s'.heap/\Dm P w H' s'.heap/\
 B.get? ea=none/\(B.Ns1 d W7/\H' d=none)/\VM B outer ea (.ref C) (some d) Value.none s'.heap/\(∀b,b∉C6 outer->((∃o,s.heap.get? b=some o)\/H' b≠none)->∃o,B.get? b=some o)/\E (.ref C) none H'
variable{w:World}
theorem W8{P:Program}{X:Cx}:Passes (DI P w) X E0:=λ_ _ _ _ _ _ _ ⟨_,_,_,_,_,_,_,_,_,_,_,_,_,_,q⟩=>q.elim
section
variable{X:Cx}{pins:List (Addr×Obj)}{σ:L2.St}{H H':Hp}{s s':Shared}{B h':Heap}{e C d:Addr}{E:XK}
theorem dJ{P:Program}{w:World}(ok:Dm P w H' s'.heap)(hB:∀b o,s'.heap.get? b=some o->H' b≠none->h'.get? b=some o):Dm P w H' h':=λa o q=>
 (ok a o q).CJ (λb u hb r=>hB b u r (by rcases hb with rfl|hb<;>simp_all)) (λ_ r=>r) λ_ _ r=>r
theorem R4{l:List Addr}{R:Addr->Prop}(k0:B.StaysIn s'.heap)(hB:∀b,b∉l->R b->∃o,B.get? b=some o){b:Addr}{o:Obj}(q:s'.heap.get? b=some o)(hb:b∉l)(r:R b):B.get? b=some o:=by
 obtain⟨o2,e2⟩:=hB b hb r;have:=k0 b o2 e2;rw[q]at this;rw[e2,this]
theorem Mn(I:Inv X pins σ H s)(un:Un (C6 X.stack) [] H H' s.heap s'.heap)(k0:B.StaysIn s'.heap)(hB:∀b,b∉C6 X.stack->((∃o,s.heap.get? b=some o)\/H' b≠none)->∃o,B.get? b=some o)(k1:B.StaysIn h')(k4:s'.heap.UpToSlots h'):
 Un (C6 X.stack) [] H H' s.heap h' where
 keep:=λb o q n hb hx=>k1 b o (R4 k0 hB (un.keep b o q n hb hx) hb (.inl ⟨o,q⟩))
 slot:=λb o q n hb hx=>by
  obtain⟨sl,e1⟩:=un.slot b o q n hb hx;obtain⟨_,o',q',hd⟩:=I.stack.mem hb;rw[q]at q';cases q';obtain⟨sl',e2⟩:=k4 b _ e1 hd;exact⟨sl',e2⟩
 free:=un.free
 there:=λb o q hx=>by
  by_cases hb:b∈C6 X.stack
  .obtain⟨sl,e1⟩:=un.slot b o q (I.DJ b hb) hb hx;obtain⟨_,o',q',hd⟩:=I.stack.mem hb;rw[q]at q';cases q';obtain⟨sl',e2⟩:=k4 b _ e1 hd;exact⟨_,e2⟩
  .obtain⟨o',e1⟩:=un.there b o q hx;exact⟨o',k1 b o' (R4 k0 hB e1 hb (.inl ⟨o,q⟩))⟩
 Fi:=un.Fi
 Dk:=un.Dk
 EI:=un.EI
theorem Kn(I:Inv X pins σ H s)(un:Un (C6 X.stack) [] H H' s.heap s'.heap)(Ak:Dm X.prog X.w H' s'.heap)(k0:B.StaysIn s'.heap)(hB:∀b,b∉C6 X.stack->((∃o,s.heap.get? b=some o)\/H' b≠none)->∃o,B.get? b=some o)(k1:B.StaysIn h'):Dm X.prog X.w H' h':=
 dJ Ak λb o q hn=>k1 b o (R4 k0 hB q (λhb=>by
  obtain⟨_,o',q',_⟩:=I.stack.mem hb
  exact hn (un.free b o' q' (I.DJ b hb) (by simp))) (.inr hn))
theorem MR(I:Inv X pins σ H s)(hst:X.stack=X.env::X.outer)(hf:X.env.frame=some X.env.locals)(hex:X.ex=[])(os:s'.os=s.os)(gb:AllBare s'.gens)(un:Un (C6 X.stack) [] H H' s.heap s'.heap)(Ak:Dm X.prog X.w H' s'.heap)
 (k0:B.StaysIn s'.heap)(hB:∀b,b∉C6 X.stack->((∃o,s.heap.get? b=some o)\/H' b≠none)->∃o,B.get? b=some o)(L:VM B (X.env::X.outer) e (.ref C) (some d) Value.none h')(k4:s'.heap.UpToSlots h')(en:B.get? e=none)(hd:B.Ns1 d W7/\H' d=none)(q:E (.ref C) none H'):
 DI X.prog X.w X.outer X.H₀ X.s₀ E (.ref e) {s' with heap:=h'}:=by
 obtain⟨k1,⟨_,_,k2⟩,k3⟩:=L;have U:=Mn I un k0 hB k1 k4;have hfs:C6 X.stack=X.env.locals::C6 X.outer:=by rw[hst];unfold C6;rw[filterMap_cons,hf]
 have out:∀b o,X.s₀.heap.get? b=some o->b∉C6 X.outer->b∉C6 X.stack:=λb o q hb=>by
  rw[hfs];intro hm;rcases mK hm with z|z
  .exact absurd (Heap.lt_size q) (by rw[z];exact Nat.not_lt.mpr I.ok.above)
  .exact hb z
 have aD:∀b,b∈C6 X.outer->b∈C6 X.stack:=λb hb=>by rw[hfs];exact mC hb
 have no:∀b:Addr,b∉X.ex:=λb=>by rw[hex];simp
 refine⟨e,C,d,B,H',rfl,os.trans I.os,gb,⟨λb o q n hb hx=>?_,λb o q n hb hx=>?_,λb o q n hx=>?_,λb o q hx=>?_,λb xs q=>U.Fi b xs (I.base.Fi b xs q),λb o u q=>U.Dk b o u (I.base.Dk b o u q),λb ps q=>?_⟩,Kn I un Ak k0 hB k1,en,hd,⟨k1,k2,k3⟩,λb hb hor=>?_,q⟩
 .exact U.keep b o (I.base.keep b o q n hb (no b)) (I.base.free b o q n (no b)) (out b o q hb) hx
 .obtain⟨sl,e1⟩:=I.base.slot b o q n hb (no b);obtain⟨sl',e2⟩:=U.slot b _ e1 (I.base.free b o q n (no b)) (aD b hb) hx;exact⟨sl',e2⟩
 .obtain⟨o',e1⟩:=I.base.there b o q (no b);exact U.free b o' e1 (I.base.free b o q n (no b)) hx
 .obtain⟨o',e1⟩:=I.base.there b o q (no b);exact U.there b o' e1 hx
 .obtain⟨m1,e1⟩:=I.base.EI b ps q;obtain⟨m2,e2⟩:=U.EI b _ e1;exact⟨m1++m2,by rw[e2,Array.append_assoc]⟩
 .rcases hor with⟨o,e0⟩|hn
  .obtain⟨o',e1⟩:=I.base.there b o e0 (no b);exact hB b (out b o e0 hb) (.inl ⟨o',e1⟩)
  .exact hB b (λhm=>by
    obtain⟨_,o',q',_⟩:=I.stack.mem hm
    exact hn (un.free b o' q' (I.DJ b hm) (by simp))) (.inr hn)
end
variable{X:Cx}{pins:List (Addr×Obj)}{σ:L2.St}{H H':Hp}{s s':Shared}{E E':XK}
variable{h:Heap}
theorem DQ{P:Program}{H:Hp}{a:Addr}{o:HO}(x:Bc P w H h a o):∃ob,h.get? a=some ob:=by
 induction o with
 |lst xs=>obtain⟨_,_,_,_,e⟩:=x;exact⟨_,e⟩
 |tup xs=>obtain⟨_,_,_,ob,e,_⟩:=x;exact⟨ob,e⟩
 |dK kvs=>obtain⟨_,_,_,_,o,_,_,e,_⟩:=x;exact⟨_,e⟩
 |dT kvs=>obtain⟨_,_,_,_,o,_,_,e,_⟩:=x;exact⟨_,e⟩
 |set S n=>obtain⟨o,_,_,_,e,_⟩:=x;exact⟨_,e⟩
 |ins C dx fs=>obtain⟨_,_,_,e,_⟩:=x;exact⟨_,e⟩
 |own y=>exact x
 |xd fs=>obtain⟨_,⟨_,_,_,e,_⟩,_⟩:=x;exact⟨_,e⟩
 |BZ lo hi=>obtain⟨_,_,_,e⟩:=x;exact⟨_,e⟩
 |Dl o u ih=>exact⟨_,x.1⟩
 |Iy ps=>exact⟨_,x⟩
 |met f y=>exact⟨_,x⟩
 |ext φ=>exact x.2.1
theorem Kq{base:Heap}{as:List Addr}:∀{l:List PySem.Env},h.FunFrames base l->(∀b∈C6 l,b∈as)->h.FunFrames (hideAll h as) l
 |[],_,_=>trivial
 | env::l,⟨hk,⟨L,o,hf,_,ho,hd⟩,hr⟩,hin=>by
   have h1:C6 (env::l)=L::C6 l:=by unfold C6;rw[filterMap_cons,hf]
   exact⟨hk,⟨L,o,hf,hideAll_none _ (hin L (by rw[h1];exact .head _)),ho,hd⟩,Kq hr λb hb=>hin b (by rw[h1];exact .tail _ hb)⟩
theorem OL{C:Addr}(I:Inv X pins σ H s)(hst:X.stack=X.env::X.outer)(hf:X.env.frame=some X.env.locals)(hex:X.ex=[])(os:s'.os=s.os)(gb:s'.gens=s.gens)
 (kp:∀b o,s.heap.get? b=some o->s'.heap.get? b=some o)(en:s.heap.get? e=none)(he:s'.heap.get? e=some (Eu C t (some d)))(nd:s'.heap.Ns1 d W7)(dn:s.heap.get? d=none)(de:d≠e)(q:E (.ref C) none H):
 wpAny (model X.prog X.w) X.A (leaving X.env (.ref e)) (λ_ s''=>DI X.prog X.w X.outer X.H₀ X.s₀ E (.ref e) s'') (λe' s''=>DI X.prog X.w X.outer X.H₀ X.s₀ E e' s'') s':=by
 have k0:(hideAll s'.heap (e::C6 X.stack)).StaysIn s'.heap:=λb o q=>of_hideAll _ q
 have en':(hideAll s'.heap (e::C6 X.stack)).get? e=none:=hideAll_none _ mS;have ff2:s'.heap.FunFrames (hideAll s'.heap (e::C6 X.stack)) (X.env::X.outer):=hst▸Kq (I.stack.of_keeps (h':=s'.heap) λb o q _=>⟨o,kp b o q,rfl⟩) λb hb=>mC hb
 have isB:∀b o,s.heap.get? b=some o->b∉C6 X.stack->∃o,(hideAll s'.heap (e::C6 X.stack)).get? b=some o:=λb o e0 hb=>⟨o,hideAll_get _ (kp b o e0) λz=>by
  rcases mK z with z|z
  .rw[z,en]at e0;cases e0
  .exact hb z⟩
 refine Ke (base:=hideAll s'.heap (e::C6 X.stack)) (outer:=X.outer) (by rw[I.ok.frames,hst]) ff2 hf he k0 en' rfl rfl ⟨rfl,rfl⟩ λh' L k4=>?_
 refine MR (B:=hideAll s'.heap (e::C6 X.stack)) I hst hf hex os (by rw[gb];exact I.bare) ⟨λb o q _ _ _=>kp b o q,λb o q _ _ _=>⟨o.slots,kp b o q⟩,λb o q n _=>n,λb o q _=>⟨o,kp b o q⟩,λ_ _ q=>q,λ_ _ _ q=>q,λ_ ps q=>⟨#[],by rw[Array.append_empty];exact q⟩⟩ (I.Ak.kept kp) k0 (λb hb hor=>?_) L k4 en' ⟨nd.at λo q=>hideAll_get _ q λz=>?_,?_⟩ q
 .rcases hor with⟨o,e0⟩|hn
  .exact isB b o e0 hb
  .have hl:∃o,s.heap.get? b=some o:=by
    cases hH:H b with
    |none=>exact absurd hH hn
    |some u=>exact DQ (I.Ak b u hH)
   obtain⟨o,e0⟩:=hl;exact isB b o e0 hb
 .rcases mK z with z|z
  .exact de z
  .obtain⟨_,o',q',_⟩:=I.stack.mem z;rw[dn]at q';cases q'
 .cases hH:H d with
  |none=>rfl
  |some u=>
    obtain⟨o,e0⟩:=DQ (I.Ak d u hH);rw[dn]at e0;cases e0
theorem SH(I:Inv X pins σ H s)(hst:X.stack=X.env::X.outer)(hf:X.env.frame=some X.env.locals)(hex:X.ex=[])(c:DI X.prog X.w X.stack H s E' e s')(hE:∀cls H',E' cls none H'->E cls none H'):
 wpAny (model X.prog X.w) X.A (leaving X.env e) (λ_ s''=>DI X.prog X.w X.outer X.H₀ X.s₀ E e s'') (λe' s''=>DI X.prog X.w X.outer X.H₀ X.s₀ E e' s'') s':=by
 obtain⟨ea,C,d,B,H',rfl,os,gb,un,Ak,f2,nd,f3,hB,q⟩:=c;rw[hst]at f3;exact LC (by rw[I.ok.frames,hst]) hf f2 f3 λh' L k4=>MR I hst hf hex os gb un Ak f3.1 hB L k4 f2 nd (hE _ _ q)
end Xc
namespace Xc
open PySem PySem.Spec
section
variable{prog:Program}{w:World}{A:Around}{E:Value->Shared->Prop}{s:Shared}{K:PySem.W.Frag}{x C:Addr}{ox:Obj}{od:Option Obj}{name:Str}
structure GA(K:PySem.W.Frag)(C:Addr):Prop where
 ga:findIn K (.ref C) "__getattribute__"=some (some (.builtin "BaseException.__getattribute__"))
 gt:findIn K (.ref C) "__getattr__"=some none
 bs:mroIn K C (.type "BaseException")=some true
variable{expr:Bool}
theorem Ws{fill:Bool}{tk:Tok}{r:Builtin.ObjectAttr.Found}{Q:Value->Shared->Prop}(X:K.In s.heap)(I:InstAt s.heap x ox C od)(k:GA K C)(hf:PySem.W.findObj K C od name=some r)(hr:r≠.missing)
 (h:wpAny (model prog w) A.in1 (match r with
  |.value v=>ret v
  |.bind g a=>Builtin.ObjectAttr.bindTo g a (.ref x) (.ref C)
  |.missing=>throw .none) (λfin s'=>∃v,fin= .done (.ret v)/\handedIn v=true/\Q v s') (λ_ _=>False) s):
 wpAny (model prog w) A (getAttrBy (.ref x) (.str name tk) fill expr) Q E s:=by
 have F:=PySem.F.attrBase_ValueError;obtain⟨hp,g,dr,tk0,os⟩:=s;have i1:=I.type (M:=model prog w);have i2:=looks_findIn (M:=model prog w) X k.ga;have i3:=looks_findIn (M:=model prog w) X k.gt;have i4:=PySem.W.looks_find (M:=model prog w) X I hf;unfold getAttrBy;refine wpAny_holding (wpAny_bind (i1.at (wpAny_bind (i2.at ?_))));show wpAny _ _ (if _ then _ else _) _ _ _;rw[iN (λz=>absurd (Bool.and_eq_true_iff.mp z).2 (by decide))];unfold getAttrByItsOwn hookBefore;refine wpAny_bind (i3.at (wpAny_bind (wpAny_attempt (wpAny_holding ?_))));unfold callGetattribute;rw[iN (by cases expr<;>decide)];unfold boundAndCalled;rw[F.ga.bind];refine wpAny_bind (wP (wpAny_call (codeAny_call_builtin F.ga.plain PySem.F.entry_bexc_ga ?_)));have sub:Looks (model prog w) hp (isInstance (.ref x) (.type "BaseException")) true:=i1.andThen (looks_mroIn X k.bs);refine @check_slot (model prog w) _ _ _ "BaseException.__getattribute__" "BaseException" "__getattribute__" (.ref x) [.str name tk] [] _ (by decide +kernel) (by decide +kernel) sub (PySem.F.args_bexc_ga _ _) ?_;unfold Builtin.«object.__getattribute__»;show wpAny _ _ (slotArgs "__getattribute__" 1 ⟨[.ref x,.str name tk],[]⟩ >>= _) _ _ _;have hs:slotArgs "__getattribute__" 1 ⟨[.ref x,.str name tk],[]⟩=pure (.ref x,[.str name tk]):=rfl;rw[hs];refine wpAny_bind (wP ?_);show wpAny _ _ (Builtin.ObjectAttr.attrName (.str name tk) >>= _) _ _ _;have ha:Builtin.ObjectAttr.attrName (.str name tk)=pure name:=rfl;rw[ha];refine wpAny_bind (wP (wpAny_bind (i1.at (wpAny_bind (i4.at ?_)))));cases r with
 |missing=>exact absurd rfl hr
 |value v=>
   refine wpAny_mono h (λfin s' z=>?_) (λ_ _ z=>z.elim);obtain⟨v',rfl,hh,q⟩:=z;exact handed_on hh q
 |bind g a=>
   refine wpAny_mono h (λfin s' z=>?_) (λ_ _ z=>z.elim);obtain⟨v',rfl,hh,q⟩:=z;exact handed_on hh q
theorem Rh{d:Addr}{m:Str->Option Value}{v:Value}{Q:Value->Shared->Prop}(X:K.In s.heap)(hx:s.heap.get? x=some ox)(hc:ox.cls= .ref C)(hn:notCls ox=true)(hd:ox.dict=some d)(ns:s.heap.Ns1 d m)(k:GA K C)(hh:hasDictIn K C=true)
 (ha:findIn K (.ref C) name=some none)(hv:m name=some v)(hv':handedIn v=true)(h:Q v {s with toks:=s.toks+1}):
 wpAny (model prog w) A (getAttr (.ref x) name expr) Q E s:=by
 obtain⟨od,ho,hl⟩:=L2.HH ns;unfold getAttr;refine wpAny_bind (wpAny_mkText ?_);exact Ws (s:={s with toks:=s.toks+1}) X ⟨hx,hc,hn,by rw[hd];exact ho⟩ k (findObj_own hh ha rfl (by rw[hl,hv])) (by intro z;cases z) (wP ⟨v,rfl,hv',h⟩)
theorem UC{od:Obj}{bm:List Value}(hcl:∀h:Heap,K.In h->Df h C bm)(k:GA K C)(hh:hasDictIn K C=true)(ha:findIn K (.ref C) "__class__"=some (some (.builtin "object.__class__")))
 (hn:specialIn K (.builtin "object.__class__") "__get__"=some (some (.builtin "getset_descriptor.__get__")))(htk:takesIn K (.builtin "object.__class__")=some true)(hm:mroIn K C (.type "object")=some true):
 KitX K (.ref x) (.ref C) λh=>InstAt h x ox C (some od) where
 ty:=λM h X I=>I.type
 it:=λM h X I A' Q' E' s' kp q=>by
   obtain⟨nm,q1,N,bs,hdct,sn,sub,ab,col,dd,k0,k1,k2,k3,k5,hC⟩:=(hcl h X).at_;exact wpAny_bind (wpAny_loadPart (kp _ _ hC) (wP q))
 ne:=λh tp dd its n sl X q=>Bool.eq_false_iff.mpr λz=>by
   obtain⟨nm,q1,N,bs,hdct,sn,sub,ab,col,dd,k0,k1,k2,k3,k5,hC⟩:=(hcl h X).at_;cases Value.ref.inj (beq_iff_eq.mp z);rw[q]at hC;have:=congrArg Obj.data (Option.some.inj hC);cases this
 ca:=λ{prog w A E Q s} X I h=>by
   have hf:=PySem.W.findObj_data (od:=od) (by obtain⟨cd,hc,_⟩:=any_some hh;rw[hc];rfl) ha hn htk;unfold getAttr? getAttrBy?;refine wpAny_bind (wpAny_mkText (wpAny_bind (wpAny_attempt (Ws (s:={s with toks:=s.toks+1}) X I k hf (by intro z;cases z) ?_))));refine wpAny_bind (wpAny_holding (wpAny_call (PySem.W.class_get (s:={s with toks:=s.toks+1}) X I hm ?_)));exact wP ⟨_,rfl,rfl,wP h⟩
end
end Xc
namespace Xc
open PySem PySem.Spec L2 PyProof.Rows
section
variable{prog:Program}{w:World}{A:Around}{E:Value->Shared->Prop}{s:Shared}{C D e:Addr}{oe:Obj}{bm bd:List Value}
theorem O7{Q:Bool->Shared->Prop}(c:Df s.heap C bm)(cd:Df s.heap D bd)(hs:bm.contains (.ref D)=true)(he:s.heap.get? e=some oe)(ho:oe.cls= .ref C)(hq:Q true s):wpAny (model prog w) A (excMatches (.ref e) (.ref D)) Q E s:=by
 obtain⟨nm,q,N,bs,hdct,sn,sub,ab,col,dd,k0,k1,k2,k3,k5,hC⟩:=c.at_;obtain⟨nm',q',N',bs',hdct',sn',sub',ab',col',dd',j0,j1,j2,j3,j5,hD⟩:=cd.at_;have hb:(Value.ref D::bd).contains (.type "BaseException")=true:=by rw[contains_cons,cd.base,Bool.or_true]
 have hcD:(Value.ref C::bm).contains (.ref D)=true:=by rw[contains_cons,hs,Bool.or_true]
 have f:=tc_notTuple;obtain⟨oc,od,oa,os'⟩:=oe;cases (show oc=_ from ho);obtain⟨hp,g,dr,tk,os⟩:=s;unfold excMatches isInstance
 repeat (first
  |with_reducible refine wpAny_loadPart_at hD ?_
  |with_reducible refine wpAny_loadPart_at he ?_
  |(with_reducible refine wpAny_isSubtype_exc hD ?_;rw[hb])
  |(with_reducible refine wpAny_isSubtype_exc hC ?_;rw[hcD])
  |wp_step)
 exact hq
end
abbrev hX(X:Cx)(ea d:Addr)(oe od:Obj):Cx:={X with A:=X.A.mark (some (.ref ea)),calm:=false,pn:=(ea,oe)::(d,od)::X.pn,xe:=λ_ _=>False}
section
variable{X:Cx}{pins:List (Addr×Obj)}{σ:L2.St}{H H':Hp}{s s':Shared}{E:XK}{C D ea d:Addr}{oe od:Obj}{x en:Str}{p zp rp hp:Pos}{ie:Nat}
theorem YD(I:Inv X pins σ H s)(h:∀q∈[(ea,oe),(d,od)],s.heap.get? q.1=some q.2/\H q.1=none/\q.1≠X.env.locals/\q.1∉X.fs/\∀v,q.2.data≠.cell v):Inv (hX X ea d oe od) pins σ H s:=
 ⟨⟨I.ok.mod,I.ok.kind,I.ok.glob,I.ok.blt,I.ok.above,I.ok.inj,I.ok.has,I.ok.Zb,(λz=>by cases z),I.ok.frames,I.ok.bE,I.ok.dY,I.ok.bs,I.ok.RD,I.ok.O1,I.ok.Ov,I.ok.E6,I.ok.Uz⟩,I.os,I.bare,I.base,I.loc,I.cell,I.free,I.Cu,λq hq=>by
   rcases mK hq with z|hq
   .exact h q (z▸mS)
   .rcases mK hq with z|hq
    .exact h q (z▸mC mS)
    .exact I.pin q hq,I.Ak,I.len⟩
theorem QR(ok:X.Ok)(I:Inv (hX X ea d oe od) pins σ H s):Inv X pins σ H s:=
 ⟨ok,I.os,I.bare,I.base,I.loc,I.cell,I.free,I.Cu,λq hq=>I.pin q (mC (mC hq)),I.Ak,I.len⟩
theorem LU{h':Heap}{m:Str->Option Value}{u:Option Value}(I:Inv X pins σ H s)(hN:X.N.Nodup)(hi:X.N[ie]? =some en)(hn:s.heap.Ns X.env.locals m)(hl:∀(i:Nat) (x:Str) (v:V),X.N[i]? =some x->σ[i]? =some (some v)->aQ X.env.scope x->∃u,RelV v u/\Look X.env s.heap m x u)
 (hn':h'.Ns X.env.locals λx=>if x=en then u else m x)(hs:Heap.SameBut X.env.locals s.heap h'):Inv X pins (σ.set ie none) H {s with heap:=h'}:=by
 obtain⟨oL,_,_,hoL,_⟩:=id hn;refine⟨I.ok,I.os,I.bare,⟨λb o e n hb hx=>?_,λb o e n hb hx=>?_,I.base.free,λb o e hx=>?_,I.base.Fi,I.base.Dk,I.base.EI⟩,⟨_,hn',λj y v' e1 e2 e3=>?_⟩,λy c e=>?_,I.free,I.Cu,λp hp=>?_,λb ob e=>?_,by simpa using I.len⟩
 .exact(hs.2 b (Nat.ne_of_lt (Nat.lt_of_lt_of_le (Heap.lt_size e) I.ok.above))).trans (I.base.keep b o e n hb hx)
 .obtain⟨sl,e1⟩:=I.base.slot b o e n hb hx;exact⟨sl,(hs.2 b (Nat.ne_of_lt (Nat.lt_of_lt_of_le (Heap.lt_size e) I.ok.above))).trans e1⟩
 .obtain⟨o',e1⟩:=I.base.there b o e hx;exact⟨o',(hs.2 b (Nat.ne_of_lt (Nat.lt_of_lt_of_le (Heap.lt_size e) I.ok.above))).trans e1⟩
 .by_cases hj:j=ie
  .subst hj;rw[List.getElem?_set_self']at e2;cases q:σ[j]?<;>rw[q]at e2<;>cases e2
  .rw[List.getElem?_set_ne (Ne.symm hj)]at e2;obtain⟨u',r',q⟩:=hl j y v' e1 e2 e3;refine⟨u',r',?_⟩;rcases q with⟨k,e⟩|⟨k,c,e,z⟩
   .refine .inl ⟨k,?_⟩;have:y≠en:=λe=>hj (GB hN e1 (e▸hi))
    simp[this,e]
   .exact .inr ⟨k,c,e,z.sameBut hs (I.SE y c e)⟩
 .obtain⟨w',z⟩:=I.cell y c e;exact⟨w',z.sameBut hs (I.SE y c e)⟩
 .obtain⟨e,n,ne,nf,d⟩:=I.pin p hp;exact⟨(hs.2 p.1 ne).trans e,n,ne,nf,d⟩
 .refine(I.Ak b ob e).CJ (λc w' hc q=>(hs.2 c ?_).trans q) (λ_ q=>q) λ_ _ q=>q
  rintro rfl
  have hfree:=I.free;rcases hc with rfl|hc
  .rw[hfree]at e;cases e
  .rw[hfree]at hc;cases hc
theorem Yj{A:Around}{E:Value->Shared->Prop}{Q:Unit->Shared->Prop}(I:Inv X pins σ H s)(hN:X.N.Nodup)(hi:X.N[ie]? =some en)(hl:X.env.scope.names.lookup en=some .local)(k:∀s',Inv X pins (σ.set ie none) H s'->Q () s'):
 wpAny (model X.prog X.w) A (do bindName X.env en Value.none;unbindBehindTheSuite X.env en hp) Q E s:=by
 unfold bindName unbindBehindTheSuite;refine wpAny_bind (wpAny_bind (wpAny_holding (wpAny_point (wpAny_bind (Dp (v:=.Ai) I hN hi (.inl hl) rfl (λs1 I1=>wpAny_point ?_) (.inr hl))))));obtain⟨m,hn,hlk⟩:=id I1.loc;have hie:ie < σ.length:=by rw[I.len];exact(List.getElem?_eq_some_iff.mp hi).1
 obtain⟨u,r,q⟩:=hlk ie en .Ai hi (List.getElem?_set_self hie) (.inl hl)
 have hm:m en=some u:=by
  rcases q with⟨_,q⟩|⟨q,_⟩
  .exact q
  .rw[show X.env.kindOf en=_ from hl]at q;rcases q with q|q<;>cases q
 refine wpAny_onRaise (wpAny_unbindName_local hl hn hm (by rw[I.ok.kind];rfl) λh' u' hn' hs=>k _ ?_);have:=LU I1 hN hi hn hlk hn' hs;rwa[set_set]at this
end
section
variable{X:Cx}{pins:List (Addr×Obj)}{σ:L2.St}{H:Hp}{s s':Shared}{E:XK}{C D:Addr}{x en:Str}{p hp:Pos}{ie:Nat}{bm bd:List Value}
theorem land{R:Hp->Prop}{Q:Flow->Shared->Prop}{b0:Stmt}{body:List Stmt}(hc:∀h:Heap,X.K.In h->Df h C bm)(hcd:∀h:Heap,X.K.In h->Df h D bd)(hsub:bm.contains (.ref D)=true)
 (hg:Gl X x)(hm:X.mg x=some (.ref D))(hdb:(x == ("__debug__":Str))=false)(hN:X.N.Nodup)(hi:X.N[ie]? =some en)(hl:X.env.scope.names.lookup en=some .local)(I:Inv X pins σ H s)(hst:X.stack=X.env::X.outer)(hf:X.env.frame=some X.env.locals)
 (c:DI X.prog X.w X.stack H s E e s')(hE:∀cls H',E cls none H'->cls= .ref C/\R H')
 (k:∀ea d oe od H' s'',oe.cls= .ref C->oe.dict=some d->notCls oe=true->(∀h:Heap,h.get? d=some od->h.Ns1 d W7)->Inv (hX X ea d oe od) pins (σ.set ie (some (.ref ea))) H' s''->R H'->
   wpAny (model X.prog X.w) (X.A.mark (some (.ref ea))) (execs (b0::body) X.env) (λf s3=>f= .next/\∃σ3 H3,Inv (hX X ea d oe od) pins σ3 H3 s3/\∀s4,Inv X pins (σ3.set ie none) H3 s4->Q .next s4) (λ_ _=>False) s''):
 wpAny (model X.prog X.w) X.A (noteFrame e X.env) (λ_ s2=>wpAny (model X.prog X.w) X.A (setFlight e none) (λ_ s3=>wpAny (model X.prog X.w) X.A (handleBy e X.env [.ExceptHandler (some (.Name x p)) (some en) (b0::body) hp]) Q X.xe s3) X.xe s2) X.xe s':=by
 obtain⟨ea,C',d,B,H',rfl,os,gb,un,Ak,f2,⟨nd,hd⟩,f3,hB,q⟩:=c;obtain⟨ec,r⟩:=hE _ _ q;cases ec;have inv:∀h':Heap,B.StaysIn h'->s'.heap.UpToSlots h'->Inv X pins σ H' {s' with heap:=h'}:=λh' k1 k4=>I.WB (ch:=[]) os (Mn I un f3.1 hB k1 k4) (Kn I un Ak f3.1 hB k1) gb (λb z=>absurd z (by simp))
 have fr:X.A.frames=some (X.env::X.outer):=by rw[I.ok.frames,hst]
 rw[hst]at f3;refine K1 fr hf f2 f3 λh4 t4 u4=>G7 t4.1 t4.2.1 f2 t4.2.2 λh5 t5 u5=>?_
 refine wpAny_handleBy_cons (codeAny_handlers_test ?_) (by intro z;cases z);have I5:=inv h5 t5.1 (u4.trans u5);refine Calls.Name_function_global I5.ok.kind hg (Calls.loadGlobal_global (by rw[I5.ok.glob];exact I5.mod.glob.keeps I5.bk) hm ?_) hdb;obtain⟨oe5,_,_,_,_,he5,⟨hcl5,_⟩,_⟩:=id t5.2.2;refine O7 (s:={s' with heap:=h5}) (hc h5 I5.BX) (hcd h5 I5.BX) hsub he5 hcl5 ?_;show codeAny _ _ _ _ _;refine codeAny_handlers_suite_as (G7 (s:={s' with heap:=h5}) t5.1 t5.2.1 f2 t5.2.2 λh6 t6 u6=>?_);have I6:=inv h6 t6.1 ((u4.trans u5).trans u6);obtain⟨oe,vs,_,_,_,he,⟨hcl,hdc⟩,hdt,_⟩:=id t6.2.2;obtain⟨od,es,ep,hod,hodd,hk1,hk2,hk3⟩:=id nd
 have nfe:ea∉C6 (X.env::X.outer):=λz=>by
  obtain⟨_,o',q',hn⟩:=t6.2.1.mem z;rw[he]at q';cases q';exact hn _ hdt
 have nfd:d∉C6 (X.env::X.outer):=λz=>by
  rw[(t6.2.1.mem z).1]at hod;cases hod
 have sub:∀b,b∉C6 (X.env::X.outer)->b≠X.env.locals/\b∉X.fs:=λb hb=>by
  have h1:C6 (X.env::X.outer)=X.env.locals::C6 X.outer:=by unfold C6;rw[filterMap_cons,hf]
  rw[h1]at hb;exact⟨λz=>hb (by rw[z];exact mS),λz=>hb (mC z)⟩
 have hne:H' ea=none:=Classical.byContradiction λz=>by
  obtain⟨o,ho⟩:=hB ea (by rw[hst];exact nfe) (.inr z);rw[f2]at ho;cases ho
 have J:=YD (ea:=ea) (d:=d) (oe:=oe) (od:=od) I6 λq hq=>by
  rcases mK hq with z|z
  .cases z;exact⟨he,hne,(sub _ nfe).1,(sub _ nfe).2,λv z=>by rw[hdt]at z;cases z⟩
  .cases mE z;exact⟨t6.1 _ _ hod,hd,(sub _ nfd).1,(sub _ nfd).2,λv z=>by rw[hodd]at z;cases z⟩
 refine Dp (X:=hX X ea d oe od) (v:=.ref ea) J hN hi (.inl hl) rfl (λs7 I7=>?_) (.inr hl);refine wpAny_mono (k ea d oe od H' s7 hcl hdc (by unfold notCls;rw[hdt]) (λh q=>⟨od,es,ep,q,hodd,hk1,hk2,hk3⟩) I7 r) (λf s8 z=>?_) λ_ _ z=>z.elim
 obtain⟨rfl,σ3,H3,I8,k8⟩:=z;exact Yj (QR I.ok I8) hN hi hl k8
end
structure Hk(K:PySem.W.Frag)(C n1 n2 n3:Addr):Prop where
 ga:GA K C
 hd:hasDictIn K C=true
 pl:findIn K (.ref C) "place"=some none
 ca:findIn K (.ref C) "__class__"=some (some (.builtin "object.__class__"))
 cg:specialIn K (.builtin "object.__class__") "__get__"=some (some (.builtin "getset_descriptor.__get__"))
 ct:takesIn K (.builtin "object.__class__")=some true
 mo:mroIn K C (.type "object")=some true
 ve:kitOne K (.ref C) (.type "ValueError")=some true
 no:kitAny K (.ref C) [.ref n1,.ref n2,.ref n3]=some false
section
variable{X:Cx}{C n1 n2 n3 ea d:Addr}{oe od:Obj}{bm:List Value}{ie ig:Nat}{en g:Str}
theorem Ut{pins:List (Addr×Obj)}{σ:L2.St}{H:Hp}{s:Shared}(hcl:oe.cls= .ref C)(hdc:oe.dict=some d)(hnc:notCls oe=true)(I:Inv (hX X ea d oe od) pins σ H s):InstAt s.heap ea oe C (some od):=
 ⟨(I.pin (ea,oe) mS).1,hcl,hnc,by rw[hdc];exact(I.pin (d,od) (mC mS)).1⟩
theorem Ry(hc:∀h:Heap,X.K.In h->Df h C bm)(k:Hk X.K C n1 n2 n3)(hcl:oe.cls= .ref C)(hdc:oe.dict=some d)(hnc:notCls oe=true):
 Bk (hX X ea d oe od) (.builtin "isinstance") (λxs H Q=>(∃y c b,xs=[.ref ea,y]/\(∀u,RelV y u->u=c)/\kitOne X.K (.ref C) c=some b/\Q (.bl b) H)\/∃t,xs=[.ref ea,.ref t]/\H t=some (.tup [.ref n1,.ref n2,.ref n3])/\Q (.bl false) H):=by
 intro pins s σ H xs us Q I r h;have KX:KitX X.K (.ref ea) (.ref C) λh=>InstAt h ea oe C (some od):=UC hc k.ga k.hd k.ca k.cg k.ct k.mo
 have J:=Ut hcl hdc hnc I;rcases h with⟨y,c,b,rfl,hu,ek,q⟩|⟨t,rfl,ht,q⟩
 .obtain⟨u,w',rfl,ru,rw'⟩:=vals2 r;cases ru;cases hu _ rw';exact kia_one KX I.BX J ek (λz=>by cases z) λtk=>⟨.bl b,H,I.tok tk,rfl,q⟩
 .obtain⟨u,w',rfl,ru,rw'⟩:=vals2 r;cases ru;cases rw';obtain⟨_,its,hv,⟨⟨oc,odd,oa,osl⟩,h1,h2,n,h3⟩⟩:=(show Bc X.prog X.w H s.heap t (.tup [.ref n1,.ref n2,.ref n3])from I.Ak t _ ht);cases h2;cases h3;cases hv with|cons a1 hv=>cases hv with|cons a2 hv=>cases hv with|cons a3 hv=>
  cases hv;cases a1;cases a2;cases a3;exact PySem.W.kia_tup KX I.BX J h1 k.no (λz=>by cases z) λtk=>⟨.bl false,H,I.tok tk,rfl,q⟩
theorem Q5{q:Pos}(k:Hk X.K C n1 n2 n3)(hcl:oe.cls= .ref C)(hdc:oe.dict=some d)(hnc:notCls oe=true)(hns:∀h:Heap,h.get? d=some od->h.Ns1 d W7)(hi:X.N[ie]? =some en)(hl:X.env.scope.names.lookup en=some .local)(hdb:(en == ("__debug__":Str))=false)(hcd:(en == ("__classdict__":Str))=false):
 PE (hX X ea d oe od) (.Attribute (.Name en p) "place" q) (λσ H Q=>σ[ie]? =some (some (.ref ea))/\Q .Ai H):=by
 rintro pins s σ H Q I ⟨h1,h2⟩
 refine Nc rfl (AI ((Fn (X:=hX X ea d oe od) (pos:=p) hi (.inl hl) hdb hcd) pins s σ H (λv H1=>v= .ref ea/\H1=H) I ⟨_,h1,rfl,rfl⟩) λu s1 ⟨x,H1,I1,rx,e1,e2⟩=>?_);subst e1 e2;cases rx;exact Rh I1.BX (I1.pin (ea,oe) mS).1 hcl hnc hdc (hns _ (I1.pin (d,od) (mC mS)).1) k.ga k.hd k.pl rfl rfl ⟨.Ai,H1,I1.tok _,rfl,h2⟩
theorem Oq{nw:Str}{a1 b1 b3 c2 d1:Pos}{c3:Nat}{k4:_}(hc:∀h:Heap,X.K.In h->Df h C bm)(k:Hk X.K C n1 n2 n3)(hcl:oe.cls= .ref C)(hdc:oe.dict=some d)(hnc:notCls oe=true)(hns:∀h:Heap,h.get? d=some od->h.Ns1 d W7)
 (hN:X.N.Nodup)(hi:X.N[ie]? =some en)(hl:X.env.scope.names.lookup en=some .local)(hdb:(en == ("__debug__":Str))=false)(hcd:(en == ("__classdict__":Str))=false)
 (gi:X.N[ig]? =some g)(gl:X.env.scope.names.lookup g=some .local)(gdb:(g == ("__debug__":Str))=false)(gcd:(g == ("__classdict__":Str))=false)(hne:ig≠ie)
 (is1:Gl X "isinstance")(is2:X.mg "isinstance"=none)(ve1:Gl X "ValueError")(ve2:X.mg "ValueError"=none)
 (w1:Gl X nw)(w2:X.mg nw=some (.ref C))(w3:(nw == ("__debug__":Str))=false)(x1:Gl X m1)(x2:X.mg m1=some (.ref n1))(x3:(m1 == ("__debug__":Str))=false)
 (y1:Gl X m2)(y2:X.mg m2=some (.ref n2))(y3:(m2 == ("__debug__":Str))=false)(z1:Gl X m3)(z2:X.mg m3=some (.ref n3))(z3:(m3 == ("__debug__":Str))=false):
 Mf (hX X ea d oe od) [.Assign [.Name g q0] (.BoolOp .And [.Call (.Name "isinstance" a1) [.Name en a2,.Name nw a3] [] a4,.Call (.Name "isinstance" b1) [.Name en b2,.Name "ValueError" b3] [] b4,.Compare (.Attribute (.Name en c1) "place" c2) [.Is] [.Constant .none c3 c4] c5] q1) q2,
  .Assign [.Name g r0] (.BoolOp .And [.Name g r1,.UnaryOp .Not (.Call (.Name "isinstance" d1) [.Name en d2,.Tuple [.Name m1 e1,.Name m2 e2,.Name m3 e3] k4 e4] [] d3) d4] r2) r3]
  (λD σ H=>σ[ie]? =some (some (.ref ea))/\∀t,H t=none->D.nx (σ.set ig (some (.bl true))) (upd H t (.tup [.ref n1,.ref n2,.ref n3]))):=by
 have ve:∀{p:Pos},PE (hX X ea d oe od) (.Name en p) (Ej ie):=Fn hi (.inl hl) hdb hcd;have vg:∀{p:Pos},PE (hX X ea d oe od) (.Name g p) (Ej ig):=Fn gi (.inl gl) gdb gcd;have ci:=Ry (X:=X) (ea:=ea) (od:=od) hc k hcl hdc hnc;have i1:=Dr (p:=a1) (pos:=a4) ci is1 is2 rfl (AO (e:=.Name en a2) ve (AO (DP (X:=hX X ea d oe od) (v:=.ref C) (pos:=a3) w1 w2 rfl w3) Cf));have i2:=Dr (p:=b1) (pos:=b4) ci is1 is2 rfl (AO (e:=.Name en b2) ve (AO (MJ (X:=hX X ea d oe od) (x:="ValueError") (v:=.ty "ValueError") (u:=.type "ValueError") (pos:=b3) ve1 ve2 rfl rfl) Cf));have i3:=MI (pos:=c5) (XY (X:=hX X ea d oe od)) (Q5 (ea:=ea) (p:=c1) (q:=c2) k hcl hdc hnc hns hi hl hdb hcd) (Li (j:=c3) (pos:=c4)) (Y6 _);have i4:=Dr (p:=d1) (pos:=d3) ci is1 is2 rfl (AO (e:=.Name en d2) ve (AO (Q3 (x1:=k4) (pos:=e4) (AO (DP (X:=hX X ea d oe od) (v:=.ref n1) (pos:=e1) x1 x2 rfl x3) (AO (DP (v:=.ref n2) (pos:=e2) y1 y2 rfl y3) (AO (DP (v:=.ref n3) (pos:=e3) z1 z2 rfl z3) Cf)))) Cf));have s1:=En (X:=hX X ea d oe od) (pos':=q0) (pos:=q2) hN gi (.inl gl) (IP (pos:=q1) i1 (IP i2 (Lh i3))) rfl (.inr gl);have s2:=En (X:=hX X ea d oe od) (pos':=r0) (pos:=r3) hN gi (.inl gl) (IP (pos:=r2) (vg (p:=r1)) (Lh (Q6 (pos:=d4) i4))) rfl (.inr gl);intro pins s σ H D I ⟨h1,h2⟩;have hlen:ig < σ.length:=by rw[I.len];exact(List.getElem?_eq_some_iff.mp gi).1
 have h1':(σ.set ig (some (.bl true)))[ie]? =some (some (.ref ea)):=by rw[List.getElem?_set_ne hne];exact h1
 refine(Gs s1 (Gs s2 MD)) pins s σ H D I ?_;refine⟨_,h1,.inl ⟨_,_,true,rfl,λu z=>z,?_,true,rfl,?_⟩⟩
 .unfold kitOne;rw[iP (by simp)]
 refine⟨_,h1,.inl ⟨_,_,true,rfl,λu z=>z,k.ve,true,rfl,h1,rfl,?_⟩⟩;refine⟨_,List.getElem?_set_self hlen,true,rfl,_,h1',(show(3:Nat)<=sizeLine by decide),λt ht=>.inr ⟨t,rfl,Ac,false,rfl,?_⟩⟩;show D.nx ((σ.set ig (some (.bl true))).set ig (some (.bl true))) _;rw[set_set];exact h2 t ht
end
end Xc
namespace Iv
open PySem L2 PyProof.Rows
noncomputable def Ay(X:Cx)(W:Wd):XP:=λx _ σ H'=>
 (∀pins H s e s',Inv X pins σ H s->Xc.DI X.prog X.w X.stack H s (λcls _ H''=>cls= .ref (W.B7 x)/\H''=H') e s'->X.xe e s')/\
 ∀pins s1 s' e t d,Inv X pins σ H' s1->s'.os=s1.os->s'.gens=s1.gens->(∀b o,s1.heap.get? b=some o->s'.heap.get? b=some o)->s1.heap.get? e=none->s'.heap.get? e=some (Xc.Eu (W.B7 x) t (some d))->s'.heap.Ns1 d Xc.W7->s1.heap.get? d=none->d≠e->X.xe (.ref e) s'
variable{W:Wd}{α β:Type}{H:Hp}
theorem VP{EX:XP}{rep:L2.St->Hp->Env->α->β->List Addr->Prop}{F:Env->Res α}{σ:L2.St}{Q:β->Hp->Prop}(h:tG W NX rep F σ H Q):tG W EX rep F σ H Q:=by
 obtain⟨ρ,os,hR,hn,hA⟩:=h;refine⟨ρ,os,hR,hn,?_⟩;cases e:F ρ with
 |stuck=>rw[e]at hA;exact hA
 |ok a ρ'=>rw[e]at hA;exact hA
 |err x p ρ'=>rw[e]at hA;exact λH' os' r1 r2 r3=>(hA H' os' r1 r2 r3).elim
variable{X:Cx}{pins:List (Addr×Obj)}{s:Shared}
theorem Lk{σ:L2.St}{s':Shared}(I:Inv X pins σ H s)(h:Xc.DI X.prog X.w X.stack H s (EE W (Ay X W) σ) e s'):X.xe e s':=by
 obtain⟨ea,C,d,B,H',e1,e2,e3,e4,e5,e6,e7,e8,e9,x,p,e10,e11⟩:=h;exact e11.1 pins H s e s' I ⟨ea,C,d,B,H',e1,e2,e3,e4,e5,e6,e7,e8,e9,e10,rfl⟩
def AA:Expr->Bool
 |.Starred _ _=>false
 |.Set _ _ _=>false
 |.Slice _ _ _ _=>false
 |_=>true
theorem Aa(h:AA e=true)(es:List Expr)(env:PySem.Env):starEach (e::es) env=(false,eval e env)::starEach es env:=by
 cases e<;>first|rfl|cases h
theorem FA(h:AA e=true)(op:CmpOp):behindInMarks op e=false:=by
 cases e<;>first|rfl|cases h
theorem CI(h:B5 e=false)(tg:Option Expr)(l:Nat)(env:PySem.Env):swapsWith e tg l env=pure false:=by
 cases e<;>first|rfl|cases h
theorem Fu(h:AA e=true)(env:PySem.Env)(x:Value):foldedSetIterable e env x=pure x:=by
 cases e<;>first|rfl|cases h
variable{W:Wd}{EX:XP}{σ:L2.St}{H:Hp}
theorem LW{F:Env->Res C}{Q:VK}(h:tG W EX (E8 W) (λρ=>(F ρ).bind λc ρ=>.ok (.AD c) ρ) σ H Q):tG W EX (rV W) F σ H Q:=by
 obtain⟨ρ,os,hR,hn,hA⟩:=h;refine⟨ρ,os,hR,hn,?_⟩;dsimp only at hA;cases e:F ρ with
 |stuck=>rw[e]at hA;exact hA
 |err x p ρ'=>rw[e]at hA;exact hA
 |ok c ρ'=>rw[e]at hA;exact hA
theorem L5{F:Env->Res Hd}{Q:Bool->Hp->Prop}(h:tG W EX rB (λρ=>(F ρ).bind λh ρ=>Res.of ((h.cont ρ).bind Cw) ρ) σ H Q):tG W EX (E8 W) F σ H λx H1=>PF W x H1 Q:=by
 obtain⟨ρ,os,hR,hn,hA⟩:=h;dsimp only at hA;refine⟨ρ,os,hR,hn,?_⟩;unfold BQ;cases eF:F ρ with
 |stuck=>rw[eF]at hA;exact hA
 |err x p ρ'=>rw[eF]at hA;exact hA
 |ok a ρ1=>
   rw[eF,Res.A2]at hA;intro u H1 o1 os1 rA hR1 hn1 fr1;cases ec:a.cont ρ1 with
   |none=>rw[ec]at hA;exact False.elim hA
   |some c=>
     rw[ec]at hA;have hA:BQ W EX (rB σ) H os σ (Res.of (Cw c) ρ1) Q:=hA;cases eb:Cw c with
     |none=>rw[eb]at hA;exact False.elim hA
     |some b=>
       rw[eb]at hA;refine⟨c,b,F7 hR1 rA ec,eb,hA b H1 [] os1 ⟨rfl,rfl⟩ hR1 (nA hn1).2.1 (fr1.sub λa ha=>mR ha)⟩
variable{X:Cx}
theorem PM(hK:W.K=X.K){a:Expr}{ta:TE}(ha:PE X a ta)(he:∀whole,isTrue a X.env whole=(do let v <-whole;standAt a.pos;holding [v] (truthy v))):PT X a (λσ H Q=>ta σ H λx H1=>PF W x H1 Q):=by
 intro pins s σ H Q I h;exact isTrue_plain (AI (ha pins s σ H _ I h) λv s1 ⟨x,H1,I1,r1,q1⟩=>X2 hK pins s1 σ H1 x v Q I1 r1 q1) (he _)
structure Am(X:Cx)(W:Wd)(cf:CF)(mt:MT)(e:Expr)(t:T):Prop where
 v:PE X e (tG W (Ay X W) (rV W) (ev cf mt t))
 h:PE X e (tG W (Ay X W) (E8 W) (Bn t (ev cf mt t)))
 b:PT X e (tG W (Ay X W) rB (tv cf mt t))
 x:t.calm=true->PE X e (tX W t)
 st:AA e=true
 i:(AW t).1.ok=true->∀tg,PI X tg e (Ml W (Ay X W) (AW t).1 (A8 cf mt (AW t).2))
 a:∀(i:Nat) (y:Str) (py spos:Pos),X.N.Nodup->X.N[i]? =some y->Loc X.env.scope y->(X.fn y=true\/X.env.scope.names.lookup y=some .local)->PS X (.Assign [.Name y py] e spos) (P0 (tG W (Ay X W) (rV W) (ev cf mt t)) (Ed i))
 nc:B5 e=true->∃elt gs sc pos,e= .ListComp elt gs sc pos
 rv:∀u,t= .prim (.iter .rev) [u]->∃l p pos,e= .Call (.Name "reversed" p) [l] [] pos/\Gl X "reversed"/\X.mg "reversed"=none/\PE X l (tG W (Ay X W) (E8 W) (Bn u (ev cf mt u)))/\AA l=true
 zp:∀u w,t= .prim (.iter .zip) [u,w]->∃l m p pos,e= .Call (.Name "zip" p) [l,m] [] pos/\Gl X "zip"/\X.mg "zip"=none/\PA X [l,m] (tG W (Ay X W) (B2 W) (A8 cf mt [u,w]))/\AA l=true/\AA m=true
inductive Bm(X:Cx)(W:Wd)(cf:CF)(mt:MT):List Expr->List T->Prop where
 |nil:Bm X W cf mt [] []
 |cons {e:Expr} {t:T} {es:List Expr} {ts:List T} (h:Am X W cf mt e t) (r:Bm X W cf mt es ts):Bm X W cf mt (e::es) (t::ts)
section
variable{cf:CF}{mt:MT}
theorem Kv(t:T)(ρ:Env):A8 cf mt [t] ρ=(Bn t (ev cf mt t) ρ).bind λh ρ=>.ok [h] ρ:=by
 rw[BK];cases Bn t (ev cf mt t) ρ with
 |stuck=>rfl
 |err x p ρ'=>rfl
 |ok h ρ'=>cases h<;>(rw[Res.A2,Res.A2];dsimp only;rw[Cm];rfl)
theorem CQ(t:T):A8 cf mt [t]=λρ=>(Bn t (ev cf mt t) ρ).bind λh ρ=>.ok [h] ρ:=funext λρ=>Kv t ρ
theorem Am.of(hK:W.K=X.K)(hw:W.w=X.w){e:Expr}{t:T}(ht:∀v ρ,Bn t v ρ=(v ρ).bind λc ρ=>.ok (.AD c) ρ)(hb:∀ρ,tv cf mt t ρ=((ev cf mt t ρ).bind λc ρ=>.ok (Hd.AD c) ρ).bind λh ρ=>Res.of ((h.cont ρ).bind Cw) ρ)
 (hc:t.calm=false)(hi:AW t=(.op,[t]))(v:PE X e (tG W (Ay X W) (rV W) (ev cf mt t)))(he:∀whole,isTrue e X.env whole=(do let v <-whole;standAt e.pos;holding [v] (truthy v)))(st:AA e=true)(nc:B5 e=false:=by rfl):Am X W cf mt e t:=by
 have h:PE X e (tG W (Ay X W) (E8 W) (Bn t (ev cf mt t))):=Ab v λσ H Q z=>LW (by
  rw[show Bn t (ev cf mt t)=λρ=>(ev cf mt t ρ).bind λc ρ=>.ok (.AD c) ρ from funext λρ=>ht _ ρ]at z
  exact z)
 refine⟨v,h,Em (PM hK h he) λσ H Q z=>L5 ?_,λz=>(by rw[hc]at z;cases z),st,λ_ tg=>?_,λi y py spos hN hi' hx hf=>En hN hi' hx v (CI nc _ _ _) hf,λz=>(by rw[nc]at z;cases z),λu z=>?_,λu w z=>?_⟩
 .rw[show(λρ=>(Bn t (ev cf mt t) ρ).bind λh ρ=>Res.of ((h.cont ρ).bind Cw) ρ)=tv cf mt t from funext λρ=>by rw[hb,ht]];exact z
 .rw[hi];show PI X tg e (Ml W (Ay X W) .op (A8 cf mt [t]));rw[CQ];exact MG hK hw h
 .rw[z]at hi;cases hi
 .rw[z]at hi;cases hi
theorem Am.Y2(hK:W.K=X.K)(hw:W.w=X.w){t:T}(ht:∀v ρ,Bn t v ρ=(v ρ).bind λc ρ=>.ok (.AD c) ρ)
 (hc:t.calm=false)(hi:AW t=(.op,[t]))(v:PE X e (tG W (Ay X W) (rV W) (ev cf mt t)))(hb:PT X e (tG W (Ay X W) rB (tv cf mt t)))(st:AA e=true)(nc:B5 e=false:=by rfl):Am X W cf mt e t:=by
 have h:PE X e (tG W (Ay X W) (E8 W) (Bn t (ev cf mt t))):=Ab v λσ H Q z=>LW (by
  rw[show Bn t (ev cf mt t)=λρ=>(ev cf mt t ρ).bind λc ρ=>.ok (.AD c) ρ from funext λρ=>ht _ ρ]at z
  exact z)
 refine⟨v,h,hb,λz=>(by rw[hc]at z;cases z),st,λ_ tg=>?_,λi y py spos hN hi' hx hf=>En hN hi' hx v (CI nc _ _ _) hf,λz=>(by rw[nc]at z;cases z),λu z=>?_,λu w z=>?_⟩
 .rw[hi];show PI X tg e (Ml W (Ay X W) .op (A8 cf mt [t]));rw[CQ];exact MG hK hw h
 .rw[z]at hi;cases hi
 .rw[z]at hi;cases hi
variable{α:Type}{H:Hp}
theorem Ge{β:Type}{rep:L2.St->Hp->Env->α->β->List Addr->Prop}{F:Env->Res α}(hF:∀ρ,F ρ= .stuck){σ:L2.St}{Q:β->Hp->Prop}(h:tG W (Ay X W) rep F σ H Q):False:=by
 obtain⟨ρ,os,hR,hn,hA⟩:=h;rw[hF]at hA;exact hA
theorem Ce{rep:L2.St->Hp->Env->α->V->List Addr->Prop}{F:Env->Res α}(hF:∀ρ,F ρ= .stuck):PE X e (tG W (Ay X W) rep F):=λ_ _ _ _ _ _ h=>(Ge hF h).elim
theorem JV{rep:L2.St->Hp->Env->α->Bool->List Addr->Prop}{F:Env->Res α}(hF:∀ρ,F ρ= .stuck):PT X e (tG W (Ay X W) rep F):=λ_ _ _ _ _ _ h=>(Ge hF h).elim
theorem Am.not(hK:W.K=X.K)(hw:W.w=X.w){t:T}(ht:∀v ρ,Bn t v ρ=(v ρ).bind λc ρ=>.ok (.AD c) ρ)(hv:∀ρ,ev cf mt t ρ= .stuck)(hb:∀ρ,tv cf mt t ρ= .stuck)(hc:t.calm=false)(hi:AW t=(.op,[t]))(st:AA e=true)(nc:B5 e=false:=by rfl):Am X W cf mt e t:=
 Am.Y2 hK hw ht hc hi (Ce hv) (JV hb) st nc
def DH(t:TE):Prop:=∀σ H Q Q',t σ H Q->(∀v H',Q v H'->Q' v H')->t σ H Q'
theorem G3{EX:XP}{rep:L2.St->Hp->Env->Hd->V->List Addr->Prop}{F:Env->Res Hd}:DH (tG W EX rep F):=λ_ _ _ _ h k=>Dn h k
theorem G2 :DH (tX W t):=λ_ _ _ _ ⟨v,h1,h2⟩ k=>⟨v,h1,k _ _ h2⟩
noncomputable def gz(X:Cx):List Expr->List TE->Prop
 |[],[]=>True
 |e::es,t::ts=>PE X e t/\AA e=true/\gz X es ts/\DH t
 |_,_=>False
def chain:List TE->TA
 |[]=>E3
 |t::ts=>Bb t (chain ts)
theorem Gw:∀{es:List Expr} {ts:List TE},gz X es ts->PA X es (chain ts)
 |[],[],_=>Cf
 |e::es,t::ts,⟨h1,h2,h3,_⟩=>AO h1 (Gw h3) (Aa h2 es X.env)
 |[],_::_,h=>h.elim
 |_::_,[],h=>h.elim
theorem EA:∀{es:List Expr} {ts:List T},Bm X W cf mt es ts->ts.all T.calm=true->∃tes,gz X es tes/\SJ W ts=chain tes
 |_,_,.nil,_=>⟨[],True.intro,rfl⟩
 | _,_,.cons (t:=t) (ts:=ts) h r,hc=>by
   rw[all_cons,bA]at hc;obtain⟨tes,h1,h2⟩:=EA r hc.2;exact⟨tX W t::tes,⟨h.x hc.1,h.st,h1,G2⟩,by show Bb (tX W t) (SJ W ts)=Bb (tX W t) (chain tes);rw[h2]⟩
theorem CN:∀{es:List Expr} {ts:List T},Bm X W cf mt es ts->∃tes,gz X es tes/\FH W (Ay X W) cf mt ts=chain tes
 |_,_,.nil=>⟨[],True.intro,rfl⟩
 | _,_,.cons (t:=t) (ts:=ts) h r=>by
   by_cases hc:(t::ts).all T.calm=true
   .obtain⟨tes,h1,h2⟩:=EA (.cons h r) hc;refine⟨tes,h1,?_⟩;unfold FH;rw[iP hc];exact h2
   .obtain⟨tes,h1,h2⟩:=CN r;refine⟨_::tes,⟨h.h,h.st,h1,G3⟩,?_⟩;unfold FH;rw[iN hc,h2];rfl
variable{ts:List T}
theorem Qh{es:List Expr}(h:Bm X W cf mt es ts):PA X es (FH W (Ay X W) cf mt ts):=by
 obtain⟨tes,h1,h2⟩:=CN h;rw[h2];exact Gw h1
theorem Ds{es:List Expr}(h:Bm X W cf mt es ts):PA X es (tG W (Ay X W) (B2 W) (A8 cf mt ts)):=Ll (Qh h) λσ H Q z=>Ln z
theorem Bm.plain:∀{es:List Expr} {ts:List T},Bm X W cf mt es ts->∀e∈es,AA e=true
 |_,_,.nil,e,he=>by cases he
 | _,_,.cons h r,e,he=>by
   rcases mK he with z|z
   .rw[z];exact h.st
   .exact r.plain e z
theorem Gi:∀{es:List Expr},(∀e∈es,AA e=true)->∀env,starEach es env=es.map λe=>(false,eval e env)
 |[],_,env=>rfl
 |e::es,h,env=>by rw[Aa (h e mS),Gi (λe he=>h e (mC he)) env];rfl
theorem AS{o:O}(Ak:o.ok=true){σ:L2.St}{Q:VK}(h:tG W (Ay X W) (rV W) (ev cf mt (.prim o ts)) σ H Q):FH W (Ay X W) cf mt ts σ H λvs H1=>AZ W (As o) vs H1 Q:=by
 refine Ln (VZ ?_)
 rw[show ev cf mt (.prim o ts)=λρ=>(A8 cf mt ts ρ).bind λhs ρ=>Res.of ((A9 ρ hs).bind (As o)) ρ from funext λρ=>by
   show(den cf mt (.prim o ts)).v ρ=_
   conv=>lhs;unfold den
   show(if o.ok=true then _ else _)=_
   rw[iP Ak]]at h
 exact h
theorem Gu{o:O}(Ak:o.ok=false)(ρ:Env):ev cf mt (.prim o ts) ρ= .stuck:=by
 show(den cf mt (.prim o ts)).v ρ=_
 conv=>lhs;unfold den
 show(if o.ok=true then _ else _)=_;rw[Ak];rfl
theorem AR(ρ:Env):tv cf mt (.prim o ts) ρ=((ev cf mt (.prim o ts) ρ).bind λc ρ=>.ok (Hd.AD c) ρ).bind λh ρ=>Res.of ((h.cont ρ).bind Cw) ρ:=by
 show(den cf mt (.prim o ts)).b ρ=(((den cf mt (.prim o ts)).v ρ).bind _).bind _;unfold den;rfl
theorem Cd{g:List C->Option C}{g2:C->C->Option C}(hg:∀a b,g [a,b]=g2 a b){x y:V}{Q:VK}(h:AZ W g [x,y] H Q):BS W g2 x y H Q:=by
 obtain⟨cs,c,h1,h2,h3⟩:=h;have:=h1.length;obtain⟨a,b,rfl⟩:=O8 this.symm;obtain⟨r1,r2⟩:=IH h1;exact⟨a,b,c,r1,r2,by rw[<-hg];exact h2,h3⟩
theorem D5{g:List C->Option C}{g1:C->Option C}(hg:∀a,g [a]=g1 a){x:V}{Q:VK}(h:AZ W g [x] H Q):bY W g1 x H Q:=by
 obtain⟨cs,c,h1,h2,h3⟩:=h;have:=h1.length;obtain⟨a,rfl⟩:=QB this.symm;obtain⟨v,e,r1⟩:=Bz h1;cases e;exact⟨a,c,r1,by rw[<-hg];exact h2,h3⟩
theorem EH(h1:Am X W cf mt a x)(h2:Am X W cf mt b y):∃ta tb,PE X a ta/\PE X b tb/\FH W (Ay X W) cf mt [x,y]=Bb ta (Bb tb E3)/\DH ta/\DH tb:=by
 obtain⟨tes,h3,h4⟩:=CN (.cons h1 (.cons h2 .nil))
 match tes,h3 with
 |[ta,tb],⟨q1,_,⟨q2,_,_,m2⟩,m1⟩=>exact⟨ta,tb,q1,q2,h4,m1,m2⟩
theorem IT(h1:Am X W cf mt a x):∃ta,PE X a ta/\FH W (Ay X W) cf mt [x]=Bb ta E3/\DH ta:=by
 obtain⟨tes,h3,h4⟩:=CN (.cons h1 .nil)
 match tes,h3 with
 |[ta],⟨q1,_,_,m⟩=>exact⟨ta,q1,h4,m⟩
theorem Nq(h1:Am X W cf mt a x)(h2:Am X W cf mt b y)(h3:Am X W cf mt c z):∃ta tb tc,PE X a ta/\PE X b tb/\PE X c tc/\FH W (Ay X W) cf mt [x,y,z]=Bb ta (Bb tb (Bb tc E3))/\DH ta/\DH tb/\DH tc:=by
 obtain⟨tes,h3,h4⟩:=CN (.cons h1 (.cons h2 (.cons h3 .nil)))
 match tes,h3 with
 |[ta,tb,tc],⟨q1,_,⟨q2,_,⟨q3,_,_,m3⟩,m2⟩,m1⟩=>exact⟨ta,tb,tc,q1,q2,q3,h4,m1,m2,m3⟩
variable{r':R2}
theorem BP.imp{f:Value->Value->Sem Value}{r:R2}(h:BP X f r)(k:∀x y H Q,r' x y H Q->r x y H Q):BP X f r':=λpins s σ H x y v u Q I rx ry z=>h pins s σ H x y v u Q I rx ry (k _ _ _ _ z)
theorem WK.imp{f:Value->Sem Value}{r r':V->Hp->VK->Prop}(h:WK X f r)(k:∀x H Q,r' x H Q->r x H Q):WK X f r':=λpins s σ H x v Q I rx z=>h pins s σ H x v Q I rx (k _ _ _ z)
theorem Bk.imp{r r':List V->Hp->VK->Prop}(h:Bk X f r)(k:∀x H Q,r' x H Q->r x H Q):Bk X f r':=λpins s σ H xs us Q I r z=>h pins s σ H xs us Q I r (k _ _ _ z)
theorem VJ.imp{r:R2}(h:VJ X r)(k:∀x y H Q,r' x y H Q->r x y H Q):VJ X r':=λvalue slice pins s σ H x y v u Q I rx ry z hs=>h value slice pins s σ H x y v u Q I rx ry (k _ _ _ _ z) hs
theorem Ax(v:Env->Res C)(ρ:Env):Bn (.prim o ts) v ρ=(v ρ).bind λc ρ=>.ok (.AD c) ρ:=rfl
variable{pos:Pos}
theorem DL(hK:W.K=X.K)(hw:W.w=X.w){op:Operator}{o:O}(Ak:o.ok=true){g:C->C->Option C}(ho:BP X (binaryOp op) (BS W g))(hg:∀a b,As o [a,b]=g a b){a b:Expr}{x y:T}(hi:AW (.prim o [x,y])=(.op,[.prim o [x,y]]))
 (h1:Am X W cf mt a x)(h2:Am X W cf mt b y):Am X W cf mt (.BinOp a op b pos) (.prim o [x,y]):=by
 obtain⟨ta,tb,q1,q2,q3,_,_⟩:=EH h1 h2;refine Am.of hK hw Ax AR rfl hi (Ab (cE (BP.imp ho λx y H Q z=>Cd hg z) q1 q2) λσ H Q z=>?_) (λ_=>rfl) rfl;have z:=AS Ak z;rw[q3]at z;exact z
theorem SR(hK:W.K=X.K)(hw:W.w=X.w)(h1:Am X W cf mt a x):Am X W cf mt (.UnaryOp .USub a pos) (.prim .neg [x]):=by
 obtain⟨ta,q1,q3,_⟩:=IT h1;refine Am.of hK hw Ax AR rfl rfl (Ab (cC (WK.imp aX λx H Q z=>D5 (W:=W) (g:=As .neg) (g1:=Jg Yb) (λ_=>rfl) z) q1) λσ H Q z=>?_) (λ_=>rfl) rfl;have z:=AS (o:=.neg) rfl z;rw[q3]at z;exact z
theorem HC{o:O}(Ak:o.ok=true)(hbl:∀cs c,As o cs=some c->∃b,c= .p (.bl b)){σ:L2.St}{Q:Bool->Hp->Prop}(h:tG W (Ay X W) rB (tv cf mt (.prim o ts)) σ H Q):
 FH W (Ay X W) cf mt ts σ H λvs H1=>AZ W (As o) vs H1 λx H2=>∃k,x= .bl k/\Q k H2:=by
 refine AS Ak ?_;obtain⟨ρ,os,hR,hn,hA⟩:=h;refine⟨ρ,os,hR,hn,?_⟩;rw[AR]at hA
 have hv :∀c ρ',ev cf mt (.prim o ts) ρ= .ok c ρ'->∃b,c= .p (.bl b):=by
  intro c ρ' e;have e:(den cf mt (.prim o ts)).v ρ= .ok c ρ':=e;unfold den at e;have e:(if o.ok=true then(A8 cf mt ts ρ).bind λhs ρ=>Res.of ((A9 ρ hs).bind (As o)) ρ else .stuck)= .ok c ρ':=e;rw[iP Ak]at e;cases e1:A8 cf mt ts ρ with
  |stuck=>rw[e1]at e;cases e
  |err x p ρ2=>rw[e1]at e;cases e
  |ok hs ρ2=>
    rw[e1,Res.A2]at e;cases e2:A9 ρ2 hs with
    |none=>rw[e2]at e;cases e
    |some cs=>
      rw[e2]at e;have e:Res.of (As o cs) ρ2= .ok c ρ':=e;cases e3:As o cs with
      |none=>rw[e3]at e;cases e
      |some d=>
        rw[e3]at e;cases e;exact hbl cs _ e3
 show BQ W (Ay X W) (rV W σ) H os σ (ev cf mt (.prim o ts) ρ) _;cases e:ev cf mt (.prim o ts) ρ with
 |stuck=>rw[e]at hA;exact hA
 |err x p ρ'=>rw[e]at hA;exact hA
 |ok c ρ'=>
   rw[e]at hA;obtain⟨b,rfl⟩:=hv c ρ' e;intro v H' o1 os' r1 r2 r3 r4;have r1:AQ W H' (.p (.bl b)) v o1:=r1;obtain⟨r5,rfl⟩:=r1;refine⟨b,Bh.mp r5,?_⟩;exact hA b H' [] os' ⟨rfl,rfl⟩ r2 r3 r4
theorem T1(hK:W.K=X.K)(hw:W.w=X.w){op:CmpOp}{o:O}(Ak:o.ok=true)(ho:BP X (compareOp op) (BS W (Cp o)))(hg:∀a b,As o [a,b]=Cp o a b)(hbl:∀cs c,As o cs=some c->∃b,c= .p (.bl b)){a b:Expr}{x y:T}
 (hi:AW (.prim o [x,y])=(.op,[.prim o [x,y]]))(h1:Am X W cf mt a x)(h2:Am X W cf mt b y):Am X W cf mt (.Compare a [op] [b] pos) (.prim o [x,y]):=by
 obtain⟨ta,tb,q1,q2,q3,_,_⟩:=EH h1 h2;have ho':=BP.imp ho λx y H Q z=>Cd hg z
 refine Am.Y2 hK hw Ax rfl hi (Ab (MI ho' q1 q2 (FA h2.st op)) λσ H Q z=>?_) (Em (Tq ho' q1 q2 (FA h2.st op)) λσ H Q z=>?_) rfl
 .have z:=AS Ak z;rw[q3]at z;exact z
 .have z:=HC Ak hbl z;rw[q3]at z;exact z
end
variable{α β γ δ:Type}
theorem B4{rep:L2.St->Hp->Env->α->β->List Addr->Prop}{rep':L2.St->Hp->Env->γ->δ->List Addr->Prop}{F:Env->Res α}{G:α->Env->Res γ}{Q:δ->Hp->Prop}{K:β->Hp->Prop}
 (h:tG W EX rep' (λρ=>(F ρ).bind G) σ H Q)(k:∀a ρ1 b H1 o1 os1,rep σ H1 ρ1 a b o1->A4 W H1 ρ1 σ os1->(o1++os1).Nodup->BQ W EX (rep' σ) H1 (o1++os1) σ (G a ρ1) Q->AE H H1->(∃ρ0,F ρ0= .ok a ρ1)->K b H1):tG W EX rep F σ H K:=by
 obtain⟨ρ,os,hR,hn,hA⟩:=h;dsimp only at hA;refine⟨ρ,os,hR,hn,?_⟩;unfold BQ;cases eF:F ρ with
 |stuck=>rw[eF]at hA;exact hA
 |err x p ρ'=>rw[eF]at hA;exact hA
 |ok a ρ1=>
   rw[eF,Res.A2]at hA;exact λb H1 o1 os1 h1 h2 h3 h4=>k a ρ1 b H1 o1 os1 h1 h2 h3 (BQ.shift hA h4) (h4.but.keep hR.own) ⟨ρ,eF⟩
theorem CC.same{H':Hp}(s:Bp H H')(h:CC W H c v):CC W H' c v:=by
 have k:=AE.of s;cases c with
 |obj c fs=>obtain⟨a,dx,vs,e,h1⟩:=h;exact⟨a,dx,vs,e,s _ _ h1⟩
 |b x=>
   cases x with
   |p x=>exact Aw.mono k h
   |ro ps=>obtain⟨a,vs,e,h1,h2⟩:=h;exact⟨a,vs,e,h1.mono k,h2.mono k⟩
   |lst ps=>obtain⟨a,vs,e,h1,h2⟩:=h;exact⟨a,vs,e,s _ _ h1,h2.mono k⟩
   |D2 kvs=>
     obtain⟨a,e,h1⟩:=h;obtain⟨es,h2,_⟩:=h1.ex;exact⟨a,e,h1.mono k (by rw[h2];exact s _ _ h2)⟩
section
variable{cf:CF}{mt:MT}
theorem Oz(hp:Fd p=true)(h1:Am X W cf mt a x)(h2:Am X W cf mt b y):∃ta tb,PE X a ta/\PE X b tb/\FH W (Ay X W) cf mt [x,y,.cst p]=Bb ta (Bb tb (Bb (tX W (.cst p)) E3))/\DH ta/\DH tb:=by
 have hq:(T.cst p).calm=true:=hp
 have e1:FH W (Ay X W) cf mt [.cst p]=Bb (tX W (.cst p)) E3:=by
  unfold FH;rw[iP (by simp[hq])];rfl
 by_cases c2:y.calm=true
 .have e2:FH W (Ay X W) cf mt [y,.cst p]=Bb (tX W y) (Bb (tX W (.cst p)) E3):=by
   unfold FH;rw[iP (by simp[hq,c2])];rfl
  by_cases c1:x.calm=true
  .refine⟨tX W x,tX W y,h1.x c1,h2.x c2,?_,G2,G2⟩;unfold FH;rw[iP (by simp[hq,c2,c1])];rfl
  .refine⟨_,tX W y,h1.h,h2.x c2,?_,G3,G2⟩;unfold FH;rw[iN (by simp[c1]),e2]
 .have e2:FH W (Ay X W) cf mt [y,.cst p]=Bb (tG W (Ay X W) (E8 W) (Bn y (ev cf mt y))) (Bb (tX W (.cst p)) E3):=by
   conv=>lhs;unfold FH
   rw[iN (by simp[c2]),e1]
  refine⟨_,_,h1.h,h2.h,?_,G3,G3⟩
  conv=>lhs;unfold FH
  rw[iN (by simp[c2]),e2]
variable{H:Hp}
theorem Kz{σ:L2.St}{x y:V}{Q:VK}(h:tX W (.cst p) σ H λw H3=>AZ W (As (.chain o1 o2)) [x,y,w] H3 Q):
 BS W (Cp o1) x y H λz H3=>∃k,z= .bl k/\(if k=true then tX W (.cst p) σ H3 λw H4=>BS W (Cp o2) y w H4 Q else Q (.bl false) H3):=by
 obtain⟨w,hw,cs,c,r1,r2,q⟩:=h;obtain⟨a,b,d,rfl⟩:=Uh r1.length.symm;obtain⟨ra,rb,rd⟩:=Fm r1;have r2:Dd o1 o2 a b d=some c:=r2;unfold Dd at r2;obtain⟨k,e1,e2⟩:=oB r2;refine⟨a,b,.p (.bl k),ra,rb,by unfold Cp;rw[e1];rfl,λv H' o s r ho hf=>⟨k,?_,?_⟩⟩
 .exact Bh.mp r.1
 .cases k with
  |true=>
    rw[iP rfl]at e2 ⊢;refine⟨w,⟨hw.1,Aw.mono (AE.of s) hw.2⟩,b,d,c,rb.same s,rd.same s,by unfold Cp;exact e2,λv' H2 o' s' r' ho' hf'=>?_⟩;exact q v' H2 o' (s.trans s') r' ho' (λa ha=>Bp.free s (hf' a ha))
  |false=>
    rw[iN Bool.false_ne_true]at e2 ⊢;cases e2;exact q (.bl false) H' [] s ⟨Bh.mpr rfl,rfl⟩ .nil (λa ha=>by cases ha)
theorem MS{b:Expr}(h:AA c=true)(o1 o2:CmpOp):lastMarks [o1,o2] [b,c]=false:=FA h o2
variable{pos:Pos}
theorem Nz(hK:W.K=X.K)(hw:W.w=X.w){op1 op2:CmpOp}(Ak:(O.chain o1 o2).ok=true)(r1:BP X (compareOp op1) (BS W (Cp o1)))(r2:BP X (compareOp op2) (BS W (Cp o2)))(hp:Fd p=true)
 (h1:Am X W cf mt a x)(h2:Am X W cf mt b y)(h3:Am X W cf mt c (.cst p)):Am X W cf mt (.Compare a [op1,op2] [b,c] pos) (.prim (.chain o1 o2) [x,y,.cst p]):=by
 obtain⟨ta,tb,q1,q2,q3,m1,m2⟩:=Oz hp h1 h2
 have hbl:∀cs c,As (.chain o1 o2) cs=some c->∃b,c= .p (.bl b):=by
  intro cs c e
  obtain⟨a,b,d,e⟩:∃a b d,Dd o1 o2 a b d=some c:=by
   rcases cs with _|⟨a,_|⟨b,_|⟨d,_|⟨f,r⟩⟩⟩⟩
   .exact absurd (show(none:Option C)=some c from e) nofun
   .exact absurd (show(none:Option C)=some c from e) nofun
   .exact absurd (show(none:Option C)=some c from e) nofun
   .exact⟨a,b,d,e⟩
   .exact absurd (show(none:Option C)=some c from e) nofun
  unfold Dd at e;obtain⟨k,e1,e2⟩:=oB e;cases k with
  |true=>
    rw[iP rfl]at e2;obtain⟨k2,_,e3⟩:=oM e2;exact⟨k2,e3.symm⟩
  |false=>
    rw[iN Bool.false_ne_true]at e2;cases e2;exact⟨false,rfl⟩
 have h3x:=h3.x hp;refine Am.Y2 hK hw Ax rfl rfl (Ab (Qd r1 r2 q1 q2 h3x (MS h3.st op1 op2)) λσ H Q z=>?_) (Em (PN r1 r2 q1 q2 h3x (MS h3.st op1 op2)) λσ H Q z=>?_) rfl
 .have z:=AS Ak z;rw[q3]at z;exact m1 _ _ _ _ z λu H1 z=>m2 _ _ _ _ z λw H2 z=>Kz z
 .have z:=HC Ak hbl z;rw[q3]at z;exact m1 _ _ _ _ z λu H1 z=>m2 _ _ _ _ z λw H2 z=>Kz z
theorem SV(hK:W.K=X.K)(hw:W.w=X.w)(hu:X.A.units + 200 < cLine)(hs:Jz b)(h1:Am X W cf mt a x)(h2:Am X W cf mt b y):Am X W cf mt (.Subscript a b pos) (.prim .idx [x,y]):=by
 obtain⟨ta,tb,q1,q2,q3,_,_⟩:=EH h1 h2;refine Am.of hK hw Ax AR rfl rfl (Ab (cF (VJ.imp (dB hK (g:=Dj)) λx y H Q z=>Cd (W:=W) (g:=As .idx) (g2:=Dj) (λ_ _=>rfl) z) q1 q2 hs) λσ H Q z=>?_) (λ_=>rfl) rfl;have z:=AS (o:=.idx) rfl z;rw[q3]at z;exact z
abbrev TV:=L2.St->Hp->(Option V->Hp->Prop)->Prop
def jU:Option V->Value->Prop
 |none,u=>u= .none
 |some v,u=>RelV v u
def ix:Option V->Option Int->Prop
 |none,none=>True
 |some v,some i=>v= .int i
 |_,_=>False
def PV(X:Cx)(e:Option Expr)(t:TV):Prop:=∀(pins:List (Addr×Obj)) (s:Shared) (σ:L2.St) (H:Hp) (Q:Option V->Hp->Prop),Inv X pins σ H s->t σ H Q->
    wpAny (model X.prog X.w) X.A (evalPart e X.env) (λu s'=>∃o H',Inv X pins σ H' s'/\jU o u/\Q o H') X.xe s
def WV:TV:=λ_ H Q=>Q none H
def WU(t:TE):TV:=λσ H Q=>t σ H λv H1=>Q (some v) H1
theorem FZ:PV X none WV:=by
 intro pins s σ H Q I h;rw[evalPart_none];exact wP ⟨none,H,I,rfl,h⟩
variable{te:TE}
theorem FY(h:PE X e te):PV X (some e) (WU te):=by
 intro pins s σ H Q I hw;rw[evalPart_some];exact AI (h pins s σ H _ I hw) λu s1 ⟨x,H1,I1,r1,q1⟩=>⟨some x,H1,I1,r1,q1⟩
theorem W6{o:Option V}{i:Option Int}(h:ix o i)(r:jU o u):IsPart u i:=by
 cases o with
 |none=>
   cases i with
   |none=>rw[show u= .none from r];exact .none
   |some i=>exact h.elim
 |some v=>
   cases i with
   |none=>exact h.elim
   |some i=>
     have h:v= .int i:=h;subst h;obtain⟨t,rfl⟩:=r;exact .int i t
theorem IM{r:V->Option Int->Option Int->Hp->VK->Prop}{lo hi:Option Expr}{tl th:TV}(hr:aR X r)(he:PE X e te)(hl:PV X lo tl)(hu:PV X hi th):
 PE X (.Subscript e (.Slice lo hi none p2) pos) (λσ H Q=>te σ H λx H1=>tl σ H1 λl H2=>th σ H2 λu H3=>∃i j,ix l i/\ix u j/\r x i j H3 Q):=by
 intro pins s σ H Q I h;refine Subscript_ (AI (he pins s σ H _ I h) λv s1 ⟨x,H1,I1,r1,q1⟩=>?_);refine wpAny_Slice (AI (hl pins s1 σ H1 _ I1 q1) λvl s2 ⟨l,H2,I2,pl,q2⟩=>AI (hu pins s2 σ H2 _ I2 q2) λvu s3 ⟨u,H3,I3,pu,i,j,g1,g2,q3⟩=>?_);rw[evalPart_none];refine wP ?_;have I4:Inv X pins σ H3 {s3 with heap:=s3.heap.push {cls:=.type "slice",data:=.fields #[vl,vu,.none]}}:=I3.kept (t':=s3.toks) λb ob q=>gP q
 obtain⟨T,id,hT,ht,hg⟩:=hr pins {s3 with heap:=s3.heap.push {cls:=.type "slice",data:=.fields #[vl,vu,.none]}} σ H3 x v vl vu i j s3.heap.objs.size Q I4 r1 (Heap.IsSliceOf.new ..) (W6 g1 pl) (W6 g2 pu) q3;show wpAny (model X.prog X.w) X.A (subscriptTail e (.Slice lo hi none p2) v (.ref s3.heap.objs.size)) (EP X pins σ Q) X.xe {s3 with heap:=s3.heap.push {cls:=.type "slice",data:=.fields #[vl,vu,.none]}};exact tail_any (ops:=[.ref s3.heap.objs.size,v]) ht hT hg (by with_unfolding_all rfl)
theorem G1{i:Int}(h:Eb d=some i)(r:CC W H d u):u= .int i:=by
 unfold Eb at h;split at h
 .cases h;exact Ao r
 .cases h
theorem Pj(hK:W.K=X.K)(hw:W.w=X.w)(h1:Am X W cf mt a x):Am X W cf mt (.Subscript a (.Slice none none none p2) pos) (.prim (.Cy false false) [x]):=by
 obtain⟨ta,q1,q3,m1⟩:=IT h1;refine Am.of hK hw Ax AR rfl rfl (Ab (IM (Mt hK) q1 FZ FZ) λσ H Q z=>?_) (λ_=>rfl) rfl;have z:=AS (o:=.Cy false false) rfl z;rw[q3]at z;refine m1 _ _ _ _ z λu H1 z=>?_
 obtain⟨a,c,g1,g2,g3⟩:=D5 (g:=As (.Cy false false)) (g1:=λa=>D3 a none none) (λ_=>rfl) z;exact⟨none,none,True.intro,True.intro,a,c,g1,g2,g3⟩
theorem Ph(hK:W.K=X.K)(hw:W.w=X.w)(h1:Am X W cf mt a x)(h2:Am X W cf mt b y):Am X W cf mt (.Subscript a (.Slice (some b) none none p2) pos) (.prim (.Cy true false) [x,y]):=by
 obtain⟨ta,tb,q1,q2,q3,m1,m2⟩:=EH h1 h2;refine Am.of hK hw Ax AR rfl rfl (Ab (IM (Mt hK) q1 (FY q2) FZ) λσ H Q z=>?_) (λ_=>rfl) rfl;have z:=AS (o:=.Cy true false) rfl z;rw[q3]at z;refine m1 _ _ _ _ z λu H1 z=>m2 _ _ _ _ z λw H2 z=>?_
 obtain⟨a,b,c,g1,g2,g3,g4⟩:=Cd (g:=As (.Cy true false)) (g2:=λa i=>(Eb i).bind λi=>D3 a (some i) none) (λ_ _=>rfl) z;obtain⟨i,e1,e2⟩:=oB g3;exact⟨some i,none,G1 e1 g2,True.intro,a,c,g1,e2,g4⟩
theorem Pf(hK:W.K=X.K)(hw:W.w=X.w)(h1:Am X W cf mt a x)(h2:Am X W cf mt b y):Am X W cf mt (.Subscript a (.Slice none (some b) none p2) pos) (.prim (.Cy false true) [x,y]):=by
 obtain⟨ta,tb,q1,q2,q3,m1,m2⟩:=EH h1 h2;refine Am.of hK hw Ax AR rfl rfl (Ab (IM (Mt hK) q1 FZ (FY q2)) λσ H Q z=>?_) (λ_=>rfl) rfl;have z:=AS (o:=.Cy false true) rfl z;rw[q3]at z;refine m1 _ _ _ _ z λu H1 z=>m2 _ _ _ _ z λw H2 z=>?_
 obtain⟨a,b,c,g1,g2,g3,g4⟩:=Cd (g:=As (.Cy false true)) (g2:=λa i=>(Eb i).bind λi=>D3 a none (some i)) (λ_ _=>rfl) z;obtain⟨i,e1,e2⟩:=oB g3;exact⟨none,some i,True.intro,G1 e1 g2,a,c,g1,e2,g4⟩
theorem Pe(hK:W.K=X.K)(hw:W.w=X.w)(h1:Am X W cf mt a x)(h2:Am X W cf mt b y)(h3:Am X W cf mt d z):Am X W cf mt (.Subscript a (.Slice (some b) (some d) none p2) pos) (.prim (.Cy true true) [x,y,z]):=by
 obtain⟨ta,tb,tc,q1,q2,q3,q4,m1,m2,m3⟩:=Nq h1 h2 h3;refine Am.of hK hw Ax AR rfl rfl (Ab (IM (Mt hK) q1 (FY q2) (FY q3)) λσ H Q z=>?_) (λ_=>rfl) rfl;have z:=AS (o:=.Cy true true) rfl z;rw[q4]at z;refine m1 _ _ _ _ z λu H1 z=>m2 _ _ _ _ z λw H2 z=>m3 _ _ _ _ z λt H3 z=>?_
 obtain⟨cs,c,g1,g2,g4⟩:=z;obtain⟨a,b,d,rfl⟩:=Uh g1.length.symm;obtain⟨ra,rb,rd⟩:=Fm g1;have g2:((Eb b).bind λi=>(Eb d).bind λj=>D3 a (some i) (some j))=some c:=g2;obtain⟨i,e1,e2⟩:=oB g2;obtain⟨j,e3,e4⟩:=oB e2;exact⟨some i,some j,G1 e1 rb,G1 e3 rd,a,c,ra,e4,g4⟩
end
section
variable{cf:CF}{mt:MT}
noncomputable def Jx(c:C)(r:Env->Res C)(ρ:Env):Res C:=match c with
    |.p (.bl true)=>r ρ
    |.p (.bl false)=>.ok (.p (.bl false)) ρ
    |_=>.stuck
noncomputable def cI(c:C)(r:Env->Res C)(ρ:Env):Res C:=match c with
    |.p (.bl true)=>.ok (.p (.bl true)) ρ
    |.p (.bl false)=>r ρ
    |_=>.stuck
theorem YX(a b:T):ev cf mt (.and a b)=λρ=>(ev cf mt a ρ).bind λc ρ=>Jx c (ev cf mt b) ρ:=funext λρ=>by
 show(den cf mt (.and a b)).v ρ=_
 conv=>lhs;unfold den
 all_goals rfl
theorem WT(a b:T):tv cf mt (.and a b)=λρ=>(tv cf mt a ρ).bind λc ρ=>if c then tv cf mt b ρ else .ok false ρ:=funext λρ=>by
 show(den cf mt (.and a b)).b ρ=_
 conv=>lhs;unfold den
theorem dZ(a b:T):ev cf mt (.or a b)=λρ=>(ev cf mt a ρ).bind λc ρ=>cI c (ev cf mt b) ρ:=funext λρ=>by
 show(den cf mt (.or a b)).v ρ=_
 conv=>lhs;unfold den
 all_goals rfl
theorem aZ(a b:T):tv cf mt (.or a b)=λρ=>(tv cf mt a ρ).bind λc ρ=>if c then .ok true ρ else tv cf mt b ρ:=funext λρ=>by
 show(den cf mt (.or a b)).b ρ=_
 conv=>lhs;unfold den
variable{H:Hp}
theorem aP{c:C}{b:Bool}(r:AQ W H (.p (.bl b)) v o):v= .bl b/\o=[]:=⟨Bh.mp r.1,r.2⟩
theorem Mc{os:List Addr}{σ:L2.St}{b:Bool}{Q:VK}(hR:A4 W H ρ σ os)(hn:os.Nodup)(h:BQ W (Ay X W) (rV W σ) H os σ (.ok (.p (.bl b)) ρ) Q):Q (.bl b) H:=
 h (.bl b) H [] os ⟨Bh.mpr rfl,rfl⟩ hR hn (AG.refl _ _)
theorem ft{σ:L2.St}{Q:VK}(h:tG W (Ay X W) (rV W) (ev cf mt (.and a b)) σ H Q):VS (tG W (Ay X W) (rV W) (ev cf mt a)) (tG W (Ay X W) (rV W) (ev cf mt b)) σ H Q:=by
 rw[YX]at h;refine B4 h λc ρ1 v H1 o1 os1 r1 r2 r3 r4 kp ef=>?_
 unfold Jx at r4;split at r4
 .obtain⟨rfl,rfl⟩:=aP (c:=.p (.bl true)) r1;exact⟨true,rfl,Uq ⟨ρ1,os1,r2,r3,r4⟩⟩
 .obtain⟨rfl,rfl⟩:=aP (c:=.p (.bl false)) r1;exact⟨false,rfl,Ur (Mc r2 r3 r4)⟩
 .exact False.elim r4
theorem iz{σ:L2.St}{Q:VK}(h:tG W (Ay X W) (rV W) (ev cf mt (.or a b)) σ H Q):bo (tG W (Ay X W) (rV W) (ev cf mt a)) (tG W (Ay X W) (rV W) (ev cf mt b)) σ H Q:=by
 rw[dZ]at h;refine B4 h λc ρ1 v H1 o1 os1 r1 r2 r3 r4 kp ef=>?_
 unfold cI at r4;split at r4
 .obtain⟨rfl,rfl⟩:=aP (c:=.p (.bl true)) r1;exact⟨true,rfl,Uq (Mc r2 r3 r4)⟩
 .obtain⟨rfl,rfl⟩:=aP (c:=.p (.bl false)) r1;exact⟨false,rfl,Ur ⟨ρ1,os1,r2,r3,r4⟩⟩
 .exact False.elim r4
theorem fw{σ:L2.St}{Q:Bool->Hp->Prop}(h:tG W (Ay X W) rB (tv cf mt (.and a b)) σ H Q):bB (tG W (Ay X W) rB (tv cf mt a)) (tG W (Ay X W) rB (tv cf mt b)) σ H Q:=by
 rw[WT]at h;refine B4 h λc ρ1 v H1 o1 os1 r1 r2 r3 r4 kp ef=>?_
 obtain⟨rfl,rfl⟩:=r1;cases c with
 |true=>exact Uq ⟨ρ1,os1,r2,r3,r4⟩
 |false=>exact Ur (r4 false H1 [] os1 ⟨rfl,rfl⟩ r2 r3 (AG.refl _ _))
theorem iA{σ:L2.St}{Q:Bool->Hp->Prop}(h:tG W (Ay X W) rB (tv cf mt (.or a b)) σ H Q):jQ (tG W (Ay X W) rB (tv cf mt a)) (tG W (Ay X W) rB (tv cf mt b)) σ H Q:=by
 rw[aZ]at h;refine B4 h λc ρ1 v H1 o1 os1 r1 r2 r3 r4 kp ef=>?_
 obtain⟨rfl,rfl⟩:=r1;cases c with
 |true=>exact Uq (r4 true H1 [] os1 ⟨rfl,rfl⟩ r2 r3 (AG.refl _ _))
 |false=>exact Ur ⟨ρ1,os1,r2,r3,r4⟩
structure Jy(X:Cx)(W:Wd)(cf:CF)(mt:MT)(op:PySem.BoolOp)(es:List Expr)(t:T):Prop where
 v:∀pos,PE X (.BoolOp op es pos) (tG W (Ay X W) (rV W) (ev cf mt t))
 w:∀pos,PW X (.BoolOp op es pos) (tG W (Ay X W) rB (tv cf mt t))
theorem Jy.one{op:PySem.BoolOp}(h:Am X W cf mt e t):Jy X W cf mt op [e] t:=
 ⟨λpos=>Lh h.v,λpos=>by cases op with|And=>exact To h.b|Or=>exact XD h.b⟩
variable{e':Expr}
theorem Jy.and{es:List Expr}(h:Am X W cf mt e t)(r:Jy X W cf mt .And (e'::es) u):Jy X W cf mt .And (e::e'::es) (.and t u):=
 ⟨λpos=>Ab (IP h.v (r.v pos)) λ_ _ _ z=>ft z,λpos whole pins s σ H Q I z=>XE h.b (r.w pos) whole pins s σ H Q I (fw z)⟩
theorem Jy.or{es:List Expr}(h:Am X W cf mt e t)(r:Jy X W cf mt .Or (e'::es) u):Jy X W cf mt .Or (e::e'::es) (.or t u):=
 ⟨λpos=>Ab (cD h.v (r.v pos)) λ_ _ _ z=>iz z,λpos whole pins s σ H Q I z=>cy h.b (r.w pos) whole pins s σ H Q I (iA z)⟩
def O0(c:C)(ρ:Env):Res C:=match c with
    |.p (.bl b)=>.ok (.p (.bl (!b))) ρ
    |_=>.stuck
theorem YT(a:T):ev cf mt (.not a)=λρ=>(ev cf mt a ρ).bind λc ρ=>O0 c ρ:=funext λρ=>by
 show(den cf mt (.not a)).v ρ=_
 conv=>lhs;unfold den
 all_goals rfl
theorem WS(a:T):tv cf mt (.not a)=λρ=>(tv cf mt a ρ).bind λb ρ=>.ok (!b) ρ:=funext λρ=>by
 show(den cf mt (.not a)).b ρ=_
 conv=>lhs;unfold den
variable{pos:Pos}
theorem SQ(hK:W.K=X.K)(hw:W.w=X.w)(h1:Am X W cf mt a x):Am X W cf mt (.UnaryOp .Not a pos) (.not x):=by
 refine Am.Y2 hK hw (λ_ _=>rfl) rfl rfl (Ab (Q6 h1.v) λσ H Q z=>?_) (Em (XF h1.b) λσ H Q z=>?_) rfl
 .rw[YT]at z;refine B4 z λc ρ1 v H1 o1 os1 r1 r2 r3 r4 kp ef=>?_
  unfold O0 at r4;split at r4
  .rename_i b;obtain⟨rfl,rfl⟩:=aP (c:=.p (.bl b)) r1;exact⟨b,rfl,Mc r2 r3 r4⟩
  .exact False.elim r4
 .rw[WS]at z;refine B4 z λc ρ1 v H1 o1 os1 r1 r2 r3 r4 kp ef=>?_
  obtain⟨rfl,rfl⟩:=r1;exact r4 (!c) H1 [] os1 ⟨rfl,rfl⟩ r2 r3 (AG.refl _ _)
noncomputable def Ky(c:C)(r:Env->Res (List P))(ρ:Env):Res (List P):=match c with
    |.p x=>(r ρ).bind λxs ρ=>.ok (x::xs) ρ
    |_=>.stuck
theorem Fy(t:T)(ts:List T):Bd cf mt (t::ts)=λρ=>(ev cf mt t ρ).bind λc ρ=>Ky c (Bd cf mt ts) ρ:=funext λρ=>by
 conv=>lhs;unfold Bd
 all_goals rfl
theorem DC(ρ:Env):Bd cf mt [] ρ= .ok [] ρ:=by unfold Bd;rfl
theorem IQ:∀{es:List Expr} {ts:List T},Bm X W cf mt es ts->PA X es (tG W (Ay X W) (aA W) (Bd cf mt ts))
 | _,_,.nil=>Ll Cf λσ H Q h=>by
   obtain⟨ρ,os,hR,hn,hA⟩:=h;rw[DC]at hA;exact hA [] H [] os ⟨A3.nil,rfl⟩ hR hn (AG.refl _ _)
 | _,_,.cons (t:=t) (ts:=ts) h r=>Ll (AO h.v (IQ r) (Aa h.st _ _)) λσ H Q z=>by
   rw[Fy]at z;refine B4 z λc ρ1 v H1 o1 os1 r1 r2 r3 r4 kp ef=>?_
   unfold Ky at r4;split at r4
   .rename_i x;have r1:AQ W H1 (.p x) v o1:=r1;obtain⟨r5,rfl⟩:=r1;refine B4 (rep':=aA W) (G:=λxs ρ=>.ok (x::xs) ρ) (Q:=Q) ⟨ρ1,os1,r2,r3,r4⟩ λxs ρ2 vs H2 o2 os2 s1 s2 s3 s4 kp2 _=>?_
    obtain⟨s5,rfl⟩:=s1;exact s4 (v::vs) H2 [] os2 ⟨A3.cons (r5.mono kp2) s5,rfl⟩ s2 s3 (AG.refl _ _)
   .exact False.elim r4
theorem F6:∀{ts:List T} {ρ ρ':Env} {ps:List P},Bd cf mt ts ρ= .ok ps ρ'->ps.length=ts.length
 |[],ρ,ρ',ps,e=>by rw[DC]at e;cases e;rfl
 | t ::ts,ρ,ρ',ps,e=>by
   rw[Fy]at e;dsimp only at e;cases e1:ev cf mt t ρ with
   |stuck=>rw[e1]at e;cases e
   |err x p ρ2=>rw[e1]at e;cases e
   |ok c ρ2=>
     rw[e1,Res.A2]at e;unfold Ky at e;split at e
     .cases e2:Bd cf mt ts ρ2 with
      |stuck=>rw[e2]at e;cases e
      |err x p ρ3=>rw[e2]at e;cases e
      |ok qs ρ3=>
        rw[e2]at e;cases e;rw[lC,lC,F6 e2]
     .cases e
theorem Rj(ts:List T):ev cf mt (.tup ts)=λρ=>if ts.length<=1000 then(Bd cf mt ts ρ).bind λps ρ=>.ok (.p (.tup ps)) ρ else .stuck:=funext λρ=>by
 show(den cf mt (.tup ts)).v ρ=_
 conv=>lhs;unfold den
 all_goals rfl
theorem GS(ts:List T):ev cf mt (.lst ts)=λρ=>if ts.length<=1000 then(Bd cf mt ts ρ).bind λps ρ=>.ok (.lst ps) ρ else .stuck:=funext λρ=>by
 show(den cf mt (.lst ts)).v ρ=_
 conv=>lhs;unfold den
 all_goals rfl
theorem Qp{os:List Addr}{σ:L2.St}{Q:VK}(hR:A4 W H ρ σ os)(hn:os.Nodup)(h:BQ W (Ay X W) (rV W σ) H os σ (.ok c ρ) Q):E7 W H c Q:=λv H' o s r ho hf=>h.made hR hn s r ho hf
theorem Gj{n:Nat}(h:n<=1000):n<=sizeLine:=Nat.le_trans h (by decide)
variable{ts:List T}
theorem SO(hK:W.K=X.K)(hw:W.w=X.w){es:List Expr}{k:Nat}(h:Bm X W cf mt es ts):Am X W cf mt (.Tuple es k pos) (.tup ts):=by
 refine Am.of hK hw (λ_ _=>rfl) (λρ=>by show(den cf mt (.tup ts)).b ρ=(((den cf mt (.tup ts)).v ρ).bind _).bind _;unfold den;rfl) rfl rfl ?_ (λ_=>rfl) rfl;rw[Rj]
 by_cases hl:ts.length<=1000
 .refine Ab (Q3 (IQ h)) λσ H Q z=>?_
  simp only[iP hl]at z;refine B4 z λps ρ1 vs H1 o1 os1 r1 r2 r3 r4 kp ef=>?_
  obtain⟨r5,rfl⟩:=r1;obtain⟨ρ0,ef⟩:=ef;exact⟨Gj (by rw[r5.length,F6 ef];exact hl),(Qp r2 r3 r4).tup r5⟩
 .exact Ce λρ=>iN hl
theorem SS(hK:W.K=X.K)(hw:W.w=X.w){es:List Expr}(h:Bm X W cf mt es ts):Am X W cf mt (.List es pos) (.lst ts):=by
 refine Am.of hK hw (λ_ _=>rfl) (λρ=>by show(den cf mt (.lst ts)).b ρ=(((den cf mt (.lst ts)).v ρ).bind _).bind _;unfold den;rfl) rfl rfl ?_ (λ_=>rfl) rfl;rw[GS]
 by_cases hl:ts.length<=1000
 .refine Ab (XQ (IQ h)) λσ H Q z=>?_
  simp only[iP hl]at z;refine B4 z λps ρ1 vs H1 o1 os1 r1 r2 r3 r4 kp ef=>?_
  obtain⟨r5,rfl⟩:=r1;obtain⟨ρ0,ef⟩:=ef;exact⟨Gj (by rw[r5.length,F6 ef];exact hl),(Qp r2 r3 r4).list r5⟩
 .exact Ce λρ=>iN hl
end
def OY(X:Cx)(W:Wd)(sp:Sp)(t:TA):TE:=λσ H Q=>t σ H λvs H1=>sp vs H1 Q (EE W (Ay X W) σ)
noncomputable def OW(X:Cx)(W:Wd)(C:Addr)(m:Str)(sp:Sp)(ta:TE)(t:TA):TE:=λσ H Q=>ta σ H λx H1=>∃a dx fs,x= .ref a/\H1 a=some (.ins C dx fs)/\fs.lookup m=none/\t σ H1 λvs H2=>sp (x::vs) H2 Q (EE W (Ay X W) σ)
section
variable{k:Nat}{f C:Addr}{fd:FuncData}{ps:List Str}{sp:Sp}{x m:Str}{p pos apos:Pos}{e o:Expr}{es:List Expr}{ta:TE}{t:TA}
variable{pins:List (Addr×Obj)}{H:Hp}{s:Shared}{us:List Value}{vs:List V}
theorem Mw{σ:L2.St}{Q:VK}{E:XK}(F:CD X.prog X.w X.K X.mg X.base (Xc.DI X.prog X.w) k f fd ps sp)(hr:B3 k X.A)(hb:Binds X.K fd ps [])
 (I:Inv X pins σ H s)(r:Vals vs us)(h:sp vs H Q E)(hx:∀e s',Xc.DI X.prog X.w X.stack H s E e s'->X.xe e s'):wpAny (model X.prog X.w) X.A (call (.ref f) us) (EP X pins σ Q) X.xe s:=by
 have hl:us.length=ps.length:=by rw[<-r.length];exact F.len _ _ _ _ h
 refine wpAny_call (codeAny_mono (F.run X.A X.stack s H ⟨us,[]⟩ us vs Q E hr I.YY (by simpa using hb s us I.BX (by simpa using hl)) r h) λr s' hq=>?_);cases r with
 |error e=>exact hx e s' hq
 |ok fl=>
   cases fl with
   |ret u=>exact I.after hq
   |next=>exact False.elim hq
   |brk=>exact False.elim hq
   |cont=>exact False.elim hq
theorem ES{σ:L2.St}{Q:VK}(F:CD X.prog X.w X.K X.mg X.base (Xc.DI X.prog X.w) k f fd ps sp)(hr:B3 k X.A)(hb:Binds X.K fd ps [])
 (I:Inv X pins σ H s)(r:Vals vs us)(h:sp vs H Q (EE W (Ay X W) σ)):wpAny (model X.prog X.w) X.A (call (.ref f) us) (EP X pins σ Q) X.xe s:=Mw F hr hb I r h λe s' c=>Lk I c
theorem Qe(F:CD X.prog X.w X.K X.mg X.base (Xc.DI X.prog X.w) k f fd ps sp)(hr:B3 k X.A)(hg:Gl X x)(hm:X.mg x=some (.ref f))(hk:keepIn X.K (.ref f)=true)(hb:Binds X.K fd ps [])(ha:PA X (e::es) t)(hdb:(x == ("__debug__":Str))=false)
 (he:starEach (e::es) X.env=(false,eval e X.env)::starEach es X.env)(hpl:(backTo pos (starEach es X.env)).any (·.1)=false):PE X (.Call (.Name x p) (e::es) [] pos) (OY X W sp t):=by
 intro pins s σ H Q I h;refine wpAny_Call_Name_kw (D8 I hg hm ?_ hdb);refine callWith_K (h₀:=X.base) I.ok.mod.Of hk (AI (ha pos pins s σ H _ I h) λus s1 ⟨vs,H1,I1,r,q⟩=>⟨I1.BX,?_⟩) he hpl;exact ES F hr hb I1 r q
theorem NU(F:CD X.prog X.w X.K X.mg X.base (Xc.DI X.prog X.w) k f fd ps sp)(hr:B3 k X.A)(hg:Gl X x)(hm:X.mg x=some (.ref f))(hk:keepIn X.K (.ref f)=true)(hb:Binds X.K fd ps [])(hdb:(x == ("__debug__":Str))=false):PE X (.Call (.Name x p) [] [] pos) (OY X W sp E3):=by
 intro pins s σ H Q I h;refine wpAny_Call_Name_kw (D8 I hg hm ?_ hdb);exact callWith_K0 I.BX hk (ES (us:=[]) F hr hb I .nil h)
theorem Q7{pl:Sem Bool}(he:PE X o ta)(c:Df X.K C)(hm:Meth X.K C m f)(F:CD X.prog X.w X.K X.mg X.base (Xc.DI X.prog X.w) k f fd ps sp)(hr:B3 k X.A)(hb:Binds X.K fd ps [])(ha:PA X (e::es) t)
 (hst:starEach (e::es) X.env=(false,eval e X.env)::starEach es X.env)(hpl:(backTo pos (starEach es X.env)).any (·.1)=false)
 (ht:eval (.Call (.Attribute o m apos) (e::es) [] pos) X.env=(do
  let ov <-eval o X.env
  standAt apos.atName
  let(f,first) <-holding [ov] (getMethod ov m pl)
  callWith pos f first (backTo pos (starEach (e::es) X.env)) (backToKw pos (keywordEach [] X.env)))):
 PE X (.Call (.Attribute o m apos) (e::es) [] pos) (OW X W C m sp ta t):=by
 intro pins s σ H Q I h;refine methodCall_KW (pl:=pl) (AI (he pins s σ H _ I h) λu s1 ⟨x,H1,I1,rx,a,dx,fs,ex,ea,l,q⟩=>?_) ht;subst ex;obtain rfl:u=Value.ref a:=rx;refine Et I1 ea c hm l ?_;refine callWith_K (first:=[.ref a]) (h₀:=X.base) I.ok.mod.Of hm.kp (AI (ha pos pins s1 σ H1 _ I1 q) λus s2 ⟨vs,H2,I2,r,q2⟩=>⟨I2.BX,?_⟩) hst hpl;exact ES (us:=.ref a::us) (vs:=.ref a::vs) F hr hb I2 (.cons rfl r) q2
theorem NS{pl:Sem Bool}(he:PE X o ta)(c:Df X.K C)(hm:Meth X.K C m f)(F:CD X.prog X.w X.K X.mg X.base (Xc.DI X.prog X.w) k f fd ps sp)(hr:B3 k X.A)(hb:Binds X.K fd ps [])
 (ht:eval (.Call (.Attribute o m apos) [] [] pos) X.env=(do
  let ov <-eval o X.env
  standAt apos.atName
  let(f,first) <-holding [ov] (getMethod ov m pl)
  callWith pos f first (backTo pos (starEach [] X.env)) (backToKw pos (keywordEach [] X.env)))):
 PE X (.Call (.Attribute o m apos) [] [] pos) (OW X W C m sp ta E3):=by
 intro pins s σ H Q I h;refine methodCall_KW (pl:=pl) (AI (he pins s σ H _ I h) λu s1 ⟨x,H1,I1,rx,a,dx,fs,ex,ea,l,q⟩=>?_) ht;subst ex;obtain rfl:u=Value.ref a:=rx;refine Et I1 ea c hm l ?_;exact callWith_K0 (first:=[.ref a]) I1.BX hm.kp (ES (us:=[.ref a]) (vs:=[.ref a]) F hr hb I1 (.cons rfl .nil) q)
end
section
variable{cf:CF}{mt:MT}
theorem Am.at(hK:W.K=X.K)(hw:W.w=X.w){e:Expr}{t:T}(hb:∀ρ,tv cf mt t ρ=(Bn t (ev cf mt t) ρ).bind λh ρ=>Res.of ((h.cont ρ).bind Cw) ρ)(hi:AW t=(.op,[t]))(v:PE X e (tG W (Ay X W) (rV W) (ev cf mt t)))(h:PE X e (tG W (Ay X W) (E8 W) (Bn t (ev cf mt t))))
 (x:t.calm=true->PE X e (tX W t))(he:∀whole,isTrue e X.env whole=(do let v <-whole;standAt e.pos;holding [v] (truthy v)))(st:AA e=true)(nc:B5 e=false:=by rfl):Am X W cf mt e t:=by
 refine⟨v,h,Em (PM hK h he) λσ H Q z=>L5 ?_,x,st,λ_ tg=>?_,λi y py spos hN hi' hx hf=>En hN hi' hx v (CI nc _ _ _) hf,λz=>(by rw[nc]at z;cases z),λu z=>?_,λu w z=>?_⟩
 .rw[show(λρ=>(Bn t (ev cf mt t) ρ).bind λh ρ=>Res.of ((h.cont ρ).bind Cw) ρ)=tv cf mt t from funext λρ=>(hb ρ).symm];exact z
 .rw[hi];show PI X tg e (Ml W (Ay X W) .op (A8 cf mt [t]));rw[CQ];exact MG hK hw h
 .rw[z]at hi;cases hi
 .rw[z]at hi;cases hi
theorem YS(i:Nat)(ρ:Env):ev cf mt (.var i) ρ=match A6 ρ i with
 |some c=>if c.cp then .ok c ρ else .ok c (ρ.set i none)
 |none=>.stuck:=by
 show(den cf mt (.var i)).v ρ=_;unfold den;rfl
variable{pos:Pos}
theorem SN(hK:W.K=X.K)(hw:W.w=X.w){i:Nat}{x:Str}(hN:X.N[i]? =some x)(hv:aQ X.env.scope x)(hd:(x == ("__debug__":Str))=false)(hcd:(x == ("__classdict__":Str))=false):Am X W cf mt (.Name x pos) (.var i):=by
 have pe:=Fn (pos:=pos) hN hv hd hcd;refine Am.at hK hw (λρ=>?_) rfl (Ab pe λσ H Q z=>?_) (Ab pe λσ H Q z=>?_) (λ_=>Ab pe λσ H Q z=>z) (λ_=>rfl) rfl
 .show(den cf mt (.var i)).b ρ=_;unfold den;rfl
 .obtain⟨ρ,os,hR,hn,hA⟩:=z;rw[YS]at hA;cases hg:A6 ρ i with
  |none=>rw[hg]at hA;exact False.elim hA
  |some c=>
    rw[hg]at hA;dsimp only at hA;split at hA
    .rename_i hc;obtain⟨v,o,q1,q2,_⟩:=hR.get hg;have:=q2.cp hc;subst this;exact⟨v,q1,hA v H [] os q2 hR hn (AG.refl _ _)⟩
    .obtain⟨v,o,os',q1,q2,q3,q4⟩:=hR.take hg;exact⟨v,q1,hA v H o os' q2 q3 (q4.nodup_iff.mpr hn) ((AG.refl _ _).sub λa ha=>q4.subset ha)⟩
 .obtain⟨ρ,os,hR,hn,hA⟩:=z;have hA:BQ W (Ay X W) (E8 W σ) H os σ (if(A6 ρ i).isSome then .ok (.slot i) ρ else .stuck) Q:=hA;cases hg:A6 ρ i with
  |none=>rw[hg]at hA;exact False.elim hA
  |some c=>
    rw[hg]at hA;obtain⟨v,o,q1,q2,_⟩:=hR.get hg;exact⟨v,q1,hA v H [] os ⟨q1,rfl⟩ hR hn (AG.refl _ _)⟩
theorem RJ{H H':Hp}(h:Fd p=true)(h1:Aw W H p v)(h2:Aw W H' p w):v=w:=by
 cases p with
 |Ai=>rw[By.mp h1,By.mp h2]
 |bl b=>rw[Bh.mp h1,Bh.mp h2]
 |int b=>rw[Ae.mp h1,Ae.mp h2]
 |str b=>rw[AL.mp h1,AL.mp h2]
 |tup _=>cases h
 |fn _=>cases h
 |box _ _=>cases h
theorem DK(hK:W.K=X.K)(hw:W.w=X.w){e:Expr}(pe:PE X e (tC v))(hp:∀H,Aw W H p v)(he:∀whole,isTrue e X.env whole=(do let v <-whole;standAt e.pos;holding [v] (truthy v)))(st:AA e=true)(nc:B5 e=false:=by rfl):Am X W cf mt e (.cst p):=by
 refine Am.at hK hw (λρ=>?_) rfl (Ab pe λσ H Q z=>?_) (Ab pe λσ H Q z=>?_) (λhc=>Ab pe λσ H Q z=>?_) he st nc
 .show(den cf mt (.cst p)).b ρ=_;unfold den;rfl
 .obtain⟨ρ,os,hR,hn,hA⟩:=z
  have hA:BQ W (Ay X W) (rV W σ) H os σ (.ok (.p p) ρ) Q:=by
   rw[show ev cf mt (.cst p) ρ= .ok (.p p) ρ from by show(den cf mt (.cst p)).v ρ=_;unfold den;rfl]at hA;exact hA
  exact hA v H [] os ⟨hp H,rfl⟩ hR hn (AG.refl _ _)
 .obtain⟨ρ,os,hR,hn,hA⟩:=z
  have hA:BQ W (Ay X W) (E8 W σ) H os σ (.ok (.AD (.p p)) ρ) Q:=by
   rw[show Bn (.cst p) (ev cf mt (.cst p)) ρ= .ok (.AD (.p p)) ρ from by unfold Bn ev den;rfl]at hA;exact hA
  exact hA v H [] os ⟨hp H,rfl⟩ hR hn (AG.refl _ _)
 .obtain⟨w,⟨h1,h2⟩,q⟩:=z;have:=RJ hc (hp H) h2;subst this;exact q
theorem SX(hK:W.K=X.K)(hw:W.w=X.w){i:Nat}{x:Str}(hN:X.N[i]? =some x)(hv:aQ X.env.scope x)(hd:(x == ("__debug__":Str))=false)(hcd:(x == ("__classdict__":Str))=false):Am X W cf mt (.Attribute (.Name x p) f pos) (.fld i f):=by
 have pe:=Qa (f:=f) (pos:=pos) (Fn (pos:=p) hN hv hd hcd) rfl;refine Am.at hK hw (λρ=>?_) rfl (Ab pe λσ H Q z=>?_) (Ab pe λσ H Q z=>?_) (λhc=>Ab pe λσ H Q z=>?_) (λ_=>rfl) rfl
 .show(den cf mt (.fld i f)).b ρ=_;unfold den;rfl
 .obtain⟨ρ,os,hR,hn,hA⟩:=z;rw[show ev cf mt (.fld i f) ρ=(match Bi ρ i f with|some c=>if c.cp then .ok c ρ else .stuck|none=>.stuck)from by show(den cf mt (.fld i f)).v ρ=_;unfold den;rfl]at hA;cases hg:Bi ρ i f with
  |none=>rw[hg]at hA;exact False.elim hA
  |some c=>
    rw[hg]at hA;dsimp only at hA;split at hA
    .rename_i hc;obtain⟨a,C,dx,fs,v,b,o',q1,q2,q3,q4,q5,rfl,q6⟩:=GQ hR hg;have:o'=[]:=AQ.cp (c:=.b b) q6 hc;subst this;exact⟨.ref a,q1,a,C,dx,fs,v,rfl,q2,hK▸q3,hK▸q4,q5,hA v H [] os q6 hR hn (AG.refl _ _)⟩
    .exact False.elim hA
 .obtain⟨ρ,os,hR,hn,hA⟩:=z;have hA:BQ W (Ay X W) (E8 W σ) H os σ (if(Bi ρ i f).isSome then .ok (.fld i f) ρ else .stuck) Q:=hA;cases hg:Bi ρ i f with
  |none=>rw[hg]at hA;exact False.elim hA
  |some c=>
    rw[hg]at hA;obtain⟨a,C,dx,fs,v,b,o',q1,q2,q3,q4,q5,_,q6⟩:=GQ hR hg;exact⟨.ref a,q1,a,C,dx,fs,v,rfl,q2,hK▸q3,hK▸q4,q5,hA v H [] os ⟨rfl,a,C,dx,fs,q1,q2,q5⟩ hR hn (AG.refl _ _)⟩
 .obtain⟨v,⟨a,C,dx,fs,q1,q2,q3,q4,q5⟩,q⟩:=z;exact⟨.ref a,q1,a,C,dx,fs,v,rfl,q2,hK▸q3,hK▸q4,q5,q⟩
structure ar(X:Cx)(W:Wd)(cf:CF)(k f:Nat):Prop where
 ex:∃fd ps,CD X.prog X.w X.K X.mg X.base (Xc.DI X.prog X.w) k (W.C2 f) fd ps (IC W (cf f))/\Binds X.K fd ps []
theorem Bv{es:List Expr}(h:∀e∈es,AA e=true)(pos:Pos)(env:PySem.Env):(backTo pos (starEach es env)).any (·.1)=false:=by
 rw[Gi h];unfold backTo;rw[map_map,List.any_map];rw[List.any_eq_false];intro e _;simp
theorem UK(f:Nat)(ts:List T):ev cf mt (.call f ts)=λρ=>(A8 cf mt ts ρ).bind λhs ρ=>Aq cf f hs ρ:=funext λρ=>by
 show(den cf mt (.call f ts)).v ρ=_
 conv=>lhs;unfold den
 all_goals rfl
theorem Pn(hK:W.K=X.K)(hw:W.w=X.w){k f:Nat}{es:List Expr}{ts:List T}(F:ar X W cf k f)(hr:B3 k X.A)(hg:Gl X x)(hm:X.mg x=some (.ref (W.C2 f)))(hk:keepIn X.K (.ref (W.C2 f))=true)(hdb:(x == ("__debug__":Str))=false)
 (h:Bm X W cf mt es ts):Am X W cf mt (.Call (.Name x p) es [] pos) (.call f ts):=by
 obtain⟨fd,ps,F1,F2⟩:=F.ex;refine Am.of hK hw (λ_ _=>rfl) (λρ=>by show(den cf mt (.call f ts)).b ρ=(((den cf mt (.call f ts)).v ρ).bind _).bind _;unfold den;rfl) rfl rfl ?_ (λ_=>rfl) rfl;rw[UK];have pl:=h.plain;have pd:=Ds h;cases es with
 |nil=>
   cases h;refine Ab (NU (W:=W) F1 hr hg hm hk F2 hdb) λσ H Q z=>?_
   obtain⟨ρ,os,hR,hn,hA⟩:=F9 z;rw[Cm]at hA;exact hA [] H [] os ⟨rfl,rfl⟩ hR hn (AG.refl _ _)
 |cons e es=>
   exact Ab (Qe F1 hr hg hm hk F2 pd hdb (Aa (pl e mS) es _) (Bv (λe he=>pl e (mC he)) pos _)) λσ H Q z=>F9 z
end
section
variable{cf:CF}{mt:MT}
variable{H:Hp}
theorem DT:∀{fs:List (Str×B)} {vs:List (Str×V)} {o:List Addr},B1 W H fs vs o->fs.lookup m=none->vs.lookup m=none
 |[],_,_,h,_=>by rw[h.1];rfl
 | (g,b)::fs,_,_,⟨v,r,o1,o2,e1,h1,h2,e⟩,el=>by
   subst e1;rw[lookup_cons]at el ⊢;cases hg:m == g with
   |true=>rw[hg]at el;cases el
   |false=>rw[hg]at el;exact DT h2 el
variable{F:Env->Res (List Hd)}
theorem QX{σ:L2.St}{i:Nat}{K:List V->Hp->Prop}(hs:σ[i]? =some (some v))(h:tG W (Ay X W) (B2 W) (λρ=>(F ρ).bind λhs ρ=>.ok (.slot i::hs) ρ) σ H K):tG W (Ay X W) (B2 W) F σ H λvs H1=>K (v::vs) H1:=
 B4 h λa ρ1 vs H1 o1 os1 r1 r2 r3 r4 kp ef=>r4 (v::vs) H1 o1 os1 ⟨v,vs,[],o1,rfl,⟨hs,rfl⟩,r1,rfl⟩ r2 r3 (AG.refl _ _)
variable{apos pos:Pos}
theorem IY{es:List Expr}{env:PySem.Env}(pl:∀e∈es,AA e=true)(hl:es.length < 29)(hline:(apos.endLine == pos.line)=true):eval (.Call (.Attribute (.Name x p) m apos) es [] pos) env=(do
 let ov <-eval (.Name x p) env
 standAt apos.atName
 let(f,first) <-holding [ov] (getMethod ov m (do return (<-importBound (.Name x p) env).getD true))
 callWith pos f first (backTo pos (starEach es env)) (backToKw pos (keywordEach [] env))):=by
 have aF:methodCallForm (es.length + ([]:List Keyword).length) (backTo pos (starEach es env)) (backToKw pos (keywordEach [] env))=true:=by
  unfold methodCallForm
  have h1:(backTo pos (starEach es env)).all (!·.1)=true:=by
   rw[Gi pl];unfold backTo;rw[map_map,List.all_map,all_eq_true];intro e _;simp
  have h2:(backToKw pos (keywordEach [] env))=[]:=rfl;rw[h1,h2];simp
  lia
 show(do
  let ov <-attributeBase (.Name x p) m env (eval (.Name x p) env)
  standAt apos.atName
  methodCall (.Name x p) m apos pos env ov (es.length+([]:List Keyword).length) (backTo pos (starEach es env)) (backToKw pos (keywordEach [] env)))=_
 have hb:attributeBase (.Name x p) m env (eval (.Name x p) env)=eval (.Name x p) env:=rfl;rw[hb];unfold methodCall calleeOf methodCallPos;rw[aF,hline];simp only[Bool.not_true,Bool.false_or,if_true,pure_bind]
theorem BM(m:Str)(i:Nat)(ts:List T)(ρ:Env):ev cf mt (.Au m (.var i) ts) ρ=match A6 ρ i with
 | some (.obj c fs)=>match fs.lookup m,mt.m c m with
   |none,some f=>(A8 cf mt ts ρ).bind λhs ρ=>Aq cf f (.slot i::hs) ρ
   |_,_=>.stuck
 |_=>.stuck:=by
 show(den cf mt (.Au m (.var i) ts)).v ρ=_
 conv=>lhs;unfold den
 all_goals rfl
structure gA(X:Cx)(W:Wd)(cf:CF)(mt:MT)(k:Nat):Prop where
 Lu:∀c m f,mt.m c m=some f->Df X.K (W.B7 c)/\(m≠Str.ofString "__init__"->Meth X.K (W.B7 c) m (W.C2 f))/\ar X W cf k f
variable{ts:List T}
theorem P9(hK:W.K=X.K)(hw:W.w=X.w){k:Nat}(M:gA X W cf mt k)(hr:B3 k X.A){i:Nat}{m:Str}{es:List Expr}(hx:PE X (.Name x p) (Ej i))(hni:m≠Str.ofString "__init__")(hl:es.length < 29)(hline:(apos.endLine == pos.line)=true)
 (h:Bm X W cf mt es ts):Am X W cf mt (.Call (.Attribute (.Name x p) m apos) es [] pos) (.Au m (.var i) ts):=by
 refine Am.of hK hw (λ_ _=>rfl) (λρ=>by show(den cf mt (.Au m (.var i) ts)).b ρ=(((den cf mt (.Au m (.var i) ts)).v ρ).bind _).bind _;unfold den;rfl) rfl rfl ?_ (λ_=>rfl) rfl;have pl:=h.plain;have pd:=Ds h;intro pins s σ H Q I z;obtain⟨ρ,os,hR,hn,hA⟩:=z;rw[BM]at hA;cases hg:A6 ρ i with
 |none=>rw[hg]at hA;exact False.elim hA
 |some d=>
   rw[hg]at hA;cases d with
   |b x=>exact False.elim hA
   |obj c fs=>
     dsimp only at hA;cases hl1:fs.lookup m with
     |some y=>rw[hl1]at hA;exact False.elim hA
     |none=>
       cases hl2:mt.m c m with
       |none=>rw[hl1,hl2]at hA;exact False.elim hA
       |some f=>
         rw[hl1,hl2]at hA;dsimp only at hA;obtain⟨v,o,q1,q2,_⟩:=hR.get hg;obtain⟨a,dx,vs,osf,rfl,q3,q4,_,q5⟩:=q2;obtain⟨M1,M2,F⟩:=M.Lu c m f hl2;obtain⟨fd,ps,F1,F2⟩:=F.ex
         have key:tG W (Ay X W) (B2 W) (A8 cf mt ts) σ H λvs H2=>IC W (cf f) (.ref a::vs) H2 Q (EE W (Ay X W) σ):=by
          refine QX (i:=i) q1 (F9 ⟨ρ,os,hR,hn,?_⟩);show BQ W (Ay X W) (rV W σ) H os σ (((A8 cf mt ts ρ).bind λhs ρ=>.ok (.slot i::hs) ρ).bind λhs ρ=>Aq cf f hs ρ) Q;cases e1:A8 cf mt ts ρ with
          |stuck=>rw[e1]at hA;exact hA
          |err x p ρ'=>rw[e1]at hA;exact hA
          |ok hs ρ'=>rw[e1]at hA;exact hA
         cases es with
         |nil=>
           cases h;refine NS (W:=W) hx M1 (M2 hni) F1 hr F2 (IY pl hl hline) pins s σ H Q I ⟨.ref a,q1,a,dx,vs,rfl,q3,DT q4 hl1,?_⟩;obtain⟨ρ',os',hR',hn',hA'⟩:=key;rw[Cm]at hA';exact hA' [] H [] os' ⟨rfl,rfl⟩ hR' hn' (AG.refl _ _)
         |cons e es=>
           refine Q7 (W:=W) hx M1 (M2 hni) F1 hr F2 pd (Aa (pl e mS) es _) (Bv (λe he=>pl e (mC he)) pos _) (IY pl hl hline) pins s σ H Q I ⟨.ref a,q1,a,dx,vs,rfl,q3,DT q4 hl1,key⟩
theorem Ua{f c:Nat}{σ:L2.St}{Q:VK}{E:XK}(hC:Df W.K (W.B7 c))(h:tG W (Ay X W) (rV W) (λρ=>(F ρ).bind λhs ρ=>FJ cf f c hs ρ) σ H Q):
 tG W (Ay X W) (B2 W) F σ H λvs H1=>∀x dx,H1 x=none->H1 dx=none->dx≠x->IC W (cf f) (.ref x::vs) (upd (upd H1 dx (.own x)) x (.ins (W.B7 c) dx [])) (λv H2=>v= .Ai/\Q (.ref x) H2) E:=by
 refine B4 h λhs ρ1 vs H1 o1 os1 h1 h2 h3 hA _ _=>?_
 intro x dx hx hdx hne;unfold FJ at hA;cases ec:A9 ρ1 hs with
 |none=>rw[ec]at hA;exact False.elim hA
 |some cs =>
   rw[ec]at hA;dsimp only at hA;split at hA
   case isFalse=>exact False.elim hA
   rename_i hgc;obtain⟨hg,hc1⟩:=hgc;cases ecf:cf f (.obj c []::cs)with
   |stuck=>rw[ecf]at hA;exact False.elim hA
   |err x p=>rw[ecf]at hA;exact False.elim hA
   |ok rc outs0=>
     rw[ecf]at hA
     obtain ⟨s,outs,rfl,rfl,hB⟩:∃s outs,rc= .p .Ai/\outs0=some s::outs/\BQ W (Ay X W) (rV W σ) H1 (o1++os1) σ ((Res.of (back (lend ρ1 hs cs) hs cs outs) ρ1).bind λρ' _=>.ok s ρ') Q:=by
      cases rc with
      |obj _ _=>exact False.elim hA
      |b y =>
        cases y with
        |p y =>
          cases y with
          |Ai=>
            cases outs0 with
            |nil=>exact False.elim hA
            |cons a outs=>
              cases a with
              |none=>exact False.elim hA
              |some s=>exact⟨s,outs,rfl,rfl,hA⟩
          |_=>exact False.elim hA
        |_=>exact False.elim hA
     cases eb:back (lend ρ1 hs cs) hs cs outs with
     |none=>rw[eb]at hB;exact False.elim hB
     |some ρ2=>
       rw[eb]at hB;have hA:∀v H' o os',AQ W H' s v o->A4 W H' ρ2 σ os'->(o++os').Nodup->AG H1 H' (o1++os1) (o++os')->Q v H':=hB;obtain⟨oa,or_,q1,q2,q3⟩:=DV h2 h1 ec hg.2 hg.1 (λ_ _=>rfl) h2;have q2:A4 W H1 (lend ρ1 hs cs) σ or_:=q2;have na:=q3.nodup_iff.mpr h3;have na':=nA na;generalize hH2:upd (upd H1 dx (.own x)) x (.ins (W.B7 c) dx [])=H2
       have sm:Bp H1 H2:=λb o e=>by
        rw[<-hH2,A5 (Av e hx),A5 (Av e hdx)];exact e
       have hx2:H2 x=some (.ins (W.B7 c) dx []):=by rw[<-hH2];exact Ac
       have xa:x∉oa:=λz=>by
        obtain⟨y,e,_⟩:=q1.own x z;rw[hx]at e;cases e
       have xr:x∉or_:=λz=>by
        obtain⟨y,e,_⟩:=q2.own x z;rw[hx]at e;cases e
       refine⟨.obj c []::cs,x::oa,⟨.ref x,vs.map some,[x],oa,rfl,⟨x,dx,[],[],rfl,hx2,⟨rfl,rfl⟩,rfl,hC,(λq hq=>by cases hq),λz=>absurd hc1 (Nat.not_lt.mpr z)⟩,q1.same sm,rfl⟩,nodup_cons.mpr ⟨xa,na'.1⟩,?_⟩;rw[ecf];intro v H' o oos r1 r2 r3 r4;have r1:AQ W H' (.p .Ai) v o:=r1;obtain⟨r5,rfl⟩:=r1;refine⟨By.mp r5,?_⟩;obtain⟨v',r',os_,oos2,e1,s1,s2,rfl⟩:=r2;cases e1
       have own2:∀a∈x::oa,∃y,H2 a=some y/\Mu y:=λa ha=>by
        rcases mK ha with z|z
        .rw[z];exact⟨_,hx2,λ_ z=>HO.noConfusion z,λ_ _ z=>HO.noConfusion z⟩
        .obtain⟨y,e,m⟩:=q1.own a z;exact⟨y,sm _ _ e,m⟩
       have k1:AE H2 H':=r4.but.keep own2
       have dis:∀a∈or_,a∉x::oa:=λa ha z=>by
        rcases mK z with y|y
        .exact xr (y▸ha)
        .exact na'.2.2 a y a ha rfl
       have q2':A4 W H' (lend ρ1 hs cs) σ or_:=(q2.same sm).frame s2.tb k1 r4.but dis;have r3:(os_++oos2).Nodup:=r3;have r3':=nA r3;have r4:AG H2 H' (x::oa) (os_++oos2):=r4
       have ndo:∀a∈os_++oos2,a∉or_:=λa ha z=>by
        rcases r4.src a ha with y|y
        .exact dis a z y
        .obtain⟨b,eb,_⟩:=q2.own a z;rw[sm _ _ eb]at y;cases y
       obtain⟨os',t1,t2,t3⟩:=Fc (ρ0:=ρ1) h1 eb s2 q2' (by
        rw[nodup_append]
        exact⟨r3'.2.1,na'.2.1,λa ha b hb z=>ndo a (mR ha) (z▸hb)⟩) hg.1 λj hj=>⟨Cj hj,by
         show j < ((Bw hs cs).foldl _ ρ1).length;rw[CB]
         exact J2 ec hg.2 j hj⟩
       refine hA (.ref x) H' os_ os' s1 t1 ?_ ?_
       .rw[nodup_append];refine⟨r3'.1,t2,λa ha b hb z=>?_⟩;subst z;rcases mem_append.mp (t3 a hb)with y|y
        .exact r3'.2.2 a ha a y rfl
        .exact ndo a (mL ha) y
       .have f0:AG H1 H2 (o1++os1) (or_++(x::oa)):=AG.of sm λa ha=>by
         rcases mem_append.mp ha with z|z
         .exact .inl (q3.subset (mR z))
         .rcases mK z with y|y
          .rw[y];exact .inr hx
          .exact .inl (q3.subset (mL y))
        refine(f0.trans (r4.more or_)).sub λa ha=>?_
        rcases mem_append.mp ha with z|z
        .exact mR (mL z)
        .rcases mem_append.mp (t3 a z)with y|y
         .exact mR (mR y)
         .exact mL y
theorem UJ(c:Nat)(ts:List T)(ρ:Env):ev cf mt (.make c ts) ρ=match mt.m c (Str.ofString "__init__")with
 |some f=>(A8 cf mt ts ρ).bind λhs ρ=>FJ cf f c hs ρ
 |none=>.stuck:=by
 show(den cf mt (.make c ts)).v ρ=_
 conv=>lhs;unfold den
 all_goals rfl
theorem Pa(hK:W.K=X.K)(hw:W.w=X.w){k c:Nat}(M:gA X W cf mt k)(hr:B3 (k + 1) X.A){es:List Expr}(hg:Gl X x)(hm:X.mg x=some (.ref (W.B7 c)))(hmk:∀f,mt.m c (Str.ofString "__init__")=some f->Mk X.K (W.B7 c) (W.C2 f))(hdb:(x == ("__debug__":Str))=false)
 (h:Bm X W cf mt es ts):Am X W cf mt (.Call (.Name x p) es [] pos) (.make c ts):=by
 refine Am.of hK hw (λ_ _=>rfl) (λρ=>by show(den cf mt (.make c ts)).b ρ=(((den cf mt (.make c ts)).v ρ).bind _).bind _;unfold den;rfl) rfl rfl ?_ (λ_=>rfl) rfl;have pl:=h.plain;have pd:=Ds h;rw[show ev cf mt (.make c ts)=_ from funext λρ=>UJ c ts ρ];cases hf:mt.m c (Str.ofString "__init__")with
 |none=>exact Ce λρ=>rfl
 |some f=>
   obtain⟨M1,_,F⟩:=M.Lu c _ f hf;obtain⟨fd,ps,F1,F2⟩:=F.ex
   have conv1:∀σ H Q,tG W (Ay X W) (rV W) (λρ=>(A8 cf mt ts ρ).bind λhs ρ=>FJ cf f c hs ρ) σ H Q->JL (W.B7 c) (IC W (cf f)) [] E0 (tG W (Ay X W) (B2 W) (A8 cf mt ts)) σ H Q:=λσ H Q z=>by
    have:=Ua (E:=E0) (hK▸M1) z;unfold JL;simp only[append_nil];exact this
   cases es with
   |nil=>
     cases h;refine Ab (Q8 (hmk f hf) F1 hr hg hm F2 .nil Xc.W8 hdb) λσ H Q z=>?_
     have z:=conv1 σ H Q z;unfold JL at z ⊢;obtain⟨ρ,os,hR,hn,hA⟩:=z;rw[Cm]at hA;exact hA [] H [] os ⟨rfl,rfl⟩ hR hn (AG.refl _ _)
   |cons e es=>
     exact Ab (TJ (hmk f hf) F1 hr hg hm F2 .nil Xc.W8 pd hdb (Aa (pl e mS) es _) (Bv (λe he=>pl e (mC he)) pos _)) conv1
end
section
variable{cf:CF}{mt:MT}
variable{H:Hp}
theorem MM{m:MO}{r:V->List V->Hp->VK->Prop}(hM:KR W m r){σ:L2.St}{os o1:List Addr}{hs:List Hd}{vs:List V}{Q:VK}(hR:A4 W H ρ σ os)(hn:(o1++os).Nodup)(hh:E8 W σ H ρ h (.ref a) [])(h1:B2 W σ H ρ hs vs o1)
 (hp:∀c,h≠.AD c)(hA:BQ W (Ay X W) (rV W σ) H (o1++os) σ (IX m h hs ρ) Q):r (.ref a) vs H Q:=by
 unfold IX at hA;cases ec:h.cont ρ with
 |none=>rw[ec]at hA;exact False.elim hA
 |some d=>
   cases ed:A9 ρ hs with
   |none=>rw[ec,ed]at hA;cases d<;>exact False.elim hA
   |some cs =>
     rw[ec,ed]at hA;cases d with
     |obj _ _=>exact False.elim hA
     |b b =>
       dsimp only at hA;split at hA
       case isFalse=>exact False.elim hA
       cases es:E4 m b cs with
       |none=>rw[es]at hA;exact False.elim hA
       |some q=>
         obtain⟨c,b'⟩:=q;rw[es]at hA;dsimp only at hA;cases e2:setB ρ h b' with
         |none=>rw[e2]at hA;exact False.elim hA
         |some ρ'=>
           rw[e2]at hA;have hA:∀v H' o os',AQ W H' c v o->A4 W H' ρ' σ os'->(o++os').Nodup->AG H (H') (o1++os) (o++os')->Q v H':=hA
           have nb:C.cp (.b b)=false:=by
            cases b with
            |lst _=>rfl
            |D2 _=>rfl
            |p _=>exact absurd es (by unfold E4;exact nofun)
            |ro _=>exact absurd es (by unfold E4;exact nofun)
           have hb:Bq W H b (.ref a) [a]:=by
            cases h with
            |AD c=>exact absurd rfl (hp c)
            |slot i=>
              obtain⟨v,o,q1,q2,_⟩:=hR.get (show A6 ρ i=some (.b b)from ec);rw[hh.1]at q1;cases q1;have:=Bq.addr q2 nb;subst this;exact q2
            |fld i f=>
              obtain⟨a0,C,dx,fs,v,b0,o',q1,q2,_,_,q5,eb,q6⟩:=GQ hR (show Bi ρ i f=some (.b b)from ec);cases eb;obtain⟨_,a1,C1,dx1,fs1,g1,g2,g3⟩:=hh;rw[g1]at q1;cases q1;rw[g2]at q2;cases q2;rw[g3]at q5;cases q5;have:=Bq.addr q6 nb;subst this;exact q6
           refine hM H a b b' cs c vs Q hb nb (DD hR h1 ed) es λv x' hb' k rc=>?_
           obtain⟨os',t1,t2,t3⟩:=Nk hR (nA hn).2.1 ec hh nb hb' k e2;exact hA v _ [] os' rc t1 (t2.nodup_iff.mpr (nA hn).2.1) (t3.weak λa ha=>mR ha)
theorem YU(m:MO)(o:T)(ts:List T)(ρ:Env):ev cf mt (.CY m o ts) ρ=match placeOf o with
 |some h=>if m.ok && Wn (h.cont ρ) && (!h.F0 || ts.all T.calm)then(A8 cf mt ts ρ).bind λhs ρ=>IX m h hs ρ else .stuck
 |none=>.stuck:=by
 show(den cf mt (.CY m o ts)).v ρ=_
 conv=>lhs;unfold den
 all_goals rfl
inductive OK(X:Cx)(W:Wd):Expr->T->TE->Prop where
 |nm {x:Str} {p:Pos} {i:Nat} (h:PE X (.Name x p) (Ej i)):OK X W (.Name x p) (.var i) (Ej i)
 |fl {x f:Str} {p q:Pos} {i:Nat} (h:PE X (.Attribute (.Name x p) f q) (X5 X.K (Ej i) f)):OK X W (.Attribute (.Name x p) f q) (.fld i f) (X5 X.K (Ej i) f)
theorem OK.pe{to:TE}(h:OK X W e o to):PE X e to:=by cases h<;>assumption
theorem OK.base{to:TE}(h:OK X W e o to)(m:Str)(env:PySem.Env):attributeBase e m env (eval e env)=eval e env:=by cases h<;>rfl
theorem ML(hK:W.K=X.K){m:MO}{r:V->List V->Hp->VK->Prop}(hM:KR W m r){to:TE}(hr:OK X W e o to){es:List Expr}{ts:List T}(h:Bm X W cf mt es ts){σ:L2.St}{Q:VK}(z:tG W (Ay X W) (rV W) (ev cf mt (.CY m o ts)) σ H Q):
 to σ H λx H1=>fP X.K "list" x H1/\(if ts.all T.calm=true then SJ W ts else tG W (Ay X W) (B2 W) (A8 cf mt ts)) σ H1 λxs H2=>r x xs H2 Q:=by
 obtain⟨ρ,os,hR,hn,hA⟩:=z;rw[YU]at hA
 have fin:∀(h:Hd) (a:Addr),(∀c,h≠.AD c)->E8 W σ H ρ h (.ref a) []->(h.F0=true->ts.all T.calm=true)->(∀H1 ρ1,h.F0=false->E8 W σ H1 ρ1 h (.ref a) [])->BQ W (Ay X W) (rV W σ) H os σ ((A8 cf mt ts ρ).bind λhs ρ=>IX m h hs ρ) Q->
  (if ts.all T.calm=true then SJ W ts else tG W (Ay X W) (B2 W) (A8 cf mt ts)) σ H λxs H2=>r (.ref a) xs H2 Q:=by
  intro h a hp hh hc hst hA;split
  .rename_i hcalm;rcases DZ (cf:=cf) (mt:=mt) hcalm hR with⟨hs,e1,q⟩|e1
   .rw[e1,Res.A2]at hA;exact q _ λvs hv=>MM (o1:=[]) hM hR hn hh hv hp hA
   .rw[e1]at hA;exact False.elim hA
  .rename_i hcalm
   have hnf:h.F0=false:=by
    cases e:h.F0 with
    |false=>rfl
    |true=>exact absurd (hc e) hcalm
   exact B4 (rep':=rV W) (G:=λhs ρ=>IX m h hs ρ) (Q:=Q) ⟨ρ,os,hR,hn,hA⟩ λhs ρ1 vs H1 o1 os1 r1 r2 r3 r4 _ _=>MM hM r2 r3 (hst H1 ρ1 hnf) r1 hp r4
 cases hr with
 |@nm x p i hx=>
   have hA:BQ W (Ay X W) (rV W σ) H os σ (if(m.ok && Wn (A6 ρ i) && (!false || ts.all T.calm))=true then(A8 cf mt ts ρ).bind λhs ρ=>IX m (.slot i) hs ρ else .stuck) Q:=hA;split at hA
   case isFalse=>exact False.elim hA
   rename_i hc;rw[bA,bA]at hc;cases hg:A6 ρ i with
   |none=>rw[hg]at hc;exact absurd hc.1.2 (by decide)
   |some d=>
     rw[hg]at hc;unfold Wn at hc;split at hc
     .rename_i ps hd;cases hd;obtain⟨v,o,q1,q2,_⟩:=hR.get hg;obtain⟨a,vs,rfl,q3,q4,rfl⟩:=q2;exact⟨.ref a,q1,.inl ⟨rfl,vs,Eg.of q3⟩,fin (.slot i) a (λc z=>by cases z) ⟨q1,rfl⟩ (λz=>by cases z) (λ_ _ _=>⟨q1,rfl⟩) hA⟩
     .exact absurd hc.1.2 (by decide)
 |@fl x f p q i hx=>
   have hA:BQ W (Ay X W) (rV W σ) H os σ (if(m.ok && Wn (Bi ρ i f) && (!true || ts.all T.calm))=true then(A8 cf mt ts ρ).bind λhs ρ=>IX m (.fld i f) hs ρ else .stuck) Q:=hA;split at hA
   case isFalse=>exact False.elim hA
   rename_i hc;rw[bA,bA]at hc;cases hg:Bi ρ i f with
   |none=>rw[hg]at hc;exact absurd hc.1.2 (by decide)
   |some d=>
     rw[hg]at hc;unfold Wn at hc;split at hc
     .rename_i ps hd;cases hd;obtain⟨a0,C,dx,fs,v,b0,o',q1,q2,c1,c2,q5,eb,q6⟩:=GQ hR hg;cases eb;obtain⟨a,vs,rfl,q3,q4,rfl⟩:=q6;exact⟨.ref a0,q1,a0,C,dx,fs,.ref a,rfl,q2,hK▸c1,hK▸c2,q5,.inl ⟨rfl,vs,Eg.of q3⟩,fin (.fld i f) a (λc z=>by cases z) ⟨rfl,a0,C,dx,fs,q1,q2,q5⟩ (λ_=>by simpa using hc.2) (λ_ _ z=>by cases z) hA⟩
     .exact absurd hc.1.2 (by decide)
theorem Qq(m:MO)(o:T)(ts:List T)(ρ:Env):tv cf mt (.CY m o ts) ρ=((ev cf mt (.CY m o ts) ρ).bind λc ρ=>.ok (Hd.AD c) ρ).bind λh ρ=>Res.of ((h.cont ρ).bind Cw) ρ:=by
 show(den cf mt (.CY m o ts)).b ρ=(((den cf mt (.CY m o ts)).v ρ).bind _).bind _;unfold den;rfl
variable{id:String}{apos cpos:Pos}
theorem P8(hK:W.K=X.K)(hw:W.w=X.w){m:MO}{name:Str}{r:V->List V->Hp->VK->Prop}(hM:KR W m r)(slot:Slot "list" name id)(hty:typeOf (.builtin id)=pure (.type "method_descriptor"))(hm:ZL X id r){to:TE}(hr:OK X W e o to)(hline:(apos.endLine == cpos.line)=true):
 Am X W cf mt (.Call (.Attribute e name apos) [] [] cpos) (.CY m o []):=by
 refine Am.of hK hw (λ_ _=>rfl) (Qq m o []) rfl rfl (Ab (XS PySem.F.plainAttrs_list slot hty hm hr.pe (hr.base name _) hline) λσ H Q z=>?_) (λ_=>rfl) rfl;exact ML hK hM hr .nil z
theorem JN(hK:W.K=X.K)(hw:W.w=X.w){m:MO}{name:Str}{r:V->List V->Hp->VK->Prop}(hM:KR W m r)(slot:Slot "list" name id)(hty:typeOf (.builtin id)=pure (.type "method_descriptor"))(hm:ZL X id r){to:TE}(hr:OK X W e o to)(hline:(apos.endLine == cpos.line)=true)
 (h:Am X W cf mt a x):Am X W cf mt (.Call (.Attribute e name apos) [a] [] cpos) (.CY m o [x]):=by
 have hs:Bm X W cf mt [a] [x]:=.cons h .nil;have st:starEach [a] X.env=[(false,eval a X.env)]:=Aa h.st [] X.env
 have aF:((backTo cpos (starEach [a] X.env)).all (λx=>!x.1) && (backToKw cpos (keywordEach [] X.env)).all (λx=>x.1.isSome)
  && decide (([a]:List Expr).length+([]:List Keyword).length+(if([]:List Keyword).isEmpty then 0 else 1) < 30))=true:=by rw[st];rfl
 have pa:PA X [a] (if[x].all T.calm=true then SJ W [x]else tG W (Ay X W) (B2 W) (A8 cf mt [x])):=by
  split
  .rename_i hc;obtain⟨tes,h1,h2⟩:=EA hs hc;rw[h2];exact Gw h1
  .exact Ds hs
 exact Am.of hK hw (λ_ _=>rfl) (Qq m o [x]) rfl rfl (Ab (Qf PySem.F.plainAttrs_list slot hty hm hr.pe pa (hr.base name _) aF hline st rfl) λσ H Q z=>ML hK hM hr hs z) (λ_=>rfl) rfl
def W5(K:PySem.W.Frag):V->List V->Hp->VK->Prop:=λx vs H Q=>∃l b xs zs,x= .ref l/\vs=[.ref b]/\H l=some (.lst xs)/\ED K H b zs/\xs.length+zs.length<=sizeLine/\Q .Ai (upd H l (.lst (xs++zs)))
theorem U8:ZL X "list.extend" (W5 X.K):=by
 intro pins s σ H x vs v us Q I rx rv h;obtain⟨l,b,xs,zs,rfl,rfl,hH,hB,hz,q⟩:=h;cases rx;obtain⟨u,rfl,ru⟩:=rv.one;cases ru;obtain⟨z,its,n,r,hl,e⟩:=I.Ly hH;obtain⟨its2,r2,ht,hz2⟩:=I.tuple hB;have hl2:=r2.length;obtain⟨⟨cl,D2,dat,sl⟩,e2,c2,n2,d2⟩:=ht;have c2:cl= .type "tuple":=c2;have d2:dat= .seq its2.toArray n2:=d2;subst c2 d2;have hsz:its.toArray.size+its2.toArray.size<=sizeLine:=by rw[size_toArray,size_toArray];lia
 have hlong:¬(!its.toArray.isEmpty && Builtin.List.listTooLong (its.toArray.size + its2.toArray.size))=true:=by
  rw[K2 hsz,Bool.and_false];exact Bool.false_ne_true
 refine call_meets F.slot_list_extend ⟨_,e,rfl⟩ F.entry_list_extend (F.args_list_extend_2 _ _)
  (UA l its.toArray n b its2.toArray n2 D2 sl hlong (by rw[size_toArray];lia) (by lia)) ⟨e,e2,?_⟩
 refine⟨.Ai,_,I.Ue (its':=its++its2) hH e (by simp) (r.append r2) ?_,rfl,q⟩;rw[lA]
 lia
theorem Lq(hK:W.K=X.K):KR W .extend (W5 X.K):=IW λH a ps xs b' cs c vs Q h1 h2 hv e q=>by
 have e:EW ps cs=some (c,b'):=e;unfold EW at e;split at e
 .rename_i zs;split at e
  .rename_i hl;cases e;obtain⟨v,rfl,r0⟩:=Bz hv;obtain⟨b,ws,rfl,s1,r1⟩:=BI r0;have k:=GJ (x':=.lst (xs++ws)) h1;refine⟨a,b,xs,ws,rfl,rfl,h1,hK▸s1,by rw[h2.length,r1.length];exact Nat.le_trans hl C3,?_⟩;exact q .Ai (.lst (xs++ws)) ⟨a,xs++ws,rfl,Ac,A3.append (r1.mono k) (h2.mono k),rfl⟩ k ⟨By.mpr rfl,rfl⟩
  .cases e
 .cases e
end
theorem Zm:bootBuiltins "len"=some (.builtin "len"):=by decide +kernel
theorem Zn:bootBuiltins "isinstance"=some (.builtin "isinstance"):=by decide +kernel
theorem Zl:bootBuiltins "min"=some (.builtin "min"):=by decide +kernel
theorem Zo:bootBuiltins "all"=some (.builtin "all"):=by decide +kernel
theorem KH:bootBuiltins "tuple"=some (.type "tuple"):=by decide +kernel
theorem RC:bootBuiltins "int"=some (.type "int"):=by decide +kernel
theorem V5:bootBuiltins "bool"=some (.type "bool"):=by decide +kernel
theorem RB:bootBuiltins "str"=some (.type "str"):=by decide +kernel
section
variable{cf:CF}{mt:MT}
theorem GX:∀{ts:List T} {ρ ρ':Env} {hs:List Hd},A8 cf mt ts ρ= .ok hs ρ'->hs.length=ts.length
 |[],ρ,ρ',hs,e=>by rw[Cm]at e;cases e;rfl
 | t ::ts,ρ,ρ',hs,e=>by
   rw[BK]at e;cases e1:Bn t (ev cf mt t) ρ with
   |stuck=>rw[e1]at e;cases e
   |err x p ρ2=>rw[e1]at e;cases e
   |ok h ρ2=>
     rw[e1,Res.A2]at e
     have fin:∀(h:Hd),((A8 cf mt ts ρ2).bind λhs ρ=>.ok (h::hs) ρ)= .ok hs ρ'->hs.length=(t::ts).length:=λh e=>by
      cases e2:A8 cf mt ts ρ2 with
      |stuck=>rw[e2]at e;cases e
      |err x p ρ3=>rw[e2]at e;cases e
      |ok gs ρ3=>
        rw[e2]at e;cases e;rw[lC,lC,GX e2]
     cases h with
     |AD c=>exact fin _ e
     |slot i=>exact fin _ e
     |fld i f=>
       dsimp only at e;split at e
       .exact fin _ e
       .cases e
variable{ts:List T}{H:Hp}
theorem JX{o:O}(Ak:o.ok=true){σ:L2.St}{Q:VK}(h:tG W (Ay X W) (rV W) (ev cf mt (.prim o ts)) σ H Q):tG W (Ay X W) (B2 W) (A8 cf mt ts) σ H λvs H1=>vs.length=ts.length/\AZ W (As o) vs H1 Q:=by
 refine G6 (λρ hs ρ' e=>GX e) (VZ ?_)
 rw[show ev cf mt (.prim o ts)=λρ=>(A8 cf mt ts ρ).bind λhs ρ=>Res.of ((A9 ρ hs).bind (As o)) ρ from funext λρ=>by
   show(den cf mt (.prim o ts)).v ρ=_
   conv=>lhs;unfold den
   show(if o.ok=true then _ else _)=_
   rw[iP Ak]]at h
 exact h
theorem Mx{g g':List C->Option C}{n:Nat}(hg:∀cs,cs.length=n->g cs=g' cs){vs:List V}{Q:VK}(h:vs.length=n/\AZ W g vs H Q):AZ W g' vs H Q:=by
 obtain⟨hl,cs,c,h1,h2,h3⟩:=h;exact⟨cs,c,h1,by rw[<-hg cs (by rw[<-h1.length];exact hl)];exact h2,h3⟩
variable{id:String}{pos:Pos}
theorem Po(hK:W.K=X.K)(hw:W.w=X.w){o:O}(Ak:o.ok=true){g:List C->Option C}(hc:Bk X (.builtin id) (AZ W g)){e:Expr}{es:List Expr}(hg':∀cs,cs.length=ts.length->As o cs=g cs)(hv:bootBuiltins x=some (.builtin id))
 (hg:Gl X x)(hm:X.mg x=none)(hn:x≠"__name__")(hdb:(x == ("__debug__":Str))=false)(hi:AW (.prim o ts)=(.op,[.prim o ts]))(h:Bm X W cf mt (e::es) ts):Am X W cf mt (.Call (.Name x p) (e::es) [] pos) (.prim o ts):=by
 have pl:=h.plain;exact Am.of hK hw Ax AR rfl hi (Ab (Dr (Bk.imp hc λxs H Q z=>Mx hg' z) hg hm hv (Ds h) hn hdb (Aa (pl e mS) es _) (Bv (λe he=>pl e (mC he)) pos _)) λσ H Q z=>JX Ak z) (λ_=>rfl) rfl
theorem P7(hK:W.K=X.K)(hw:W.w=X.w){o:O}(Ak:o.ok=true){g:List C->Option C}(hc:Bk X (.type id) (AZ W g)){e:Expr}{es:List Expr}(hg':∀cs,cs.length=ts.length->As o cs=g cs)(hv:bootBuiltins x=some (.type id))
 (hg:Gl X x)(hm:X.mg x=none)(hn:x≠"__name__")(hdb:(x == ("__debug__":Str))=false)(hi:AW (.prim o ts)=(.op,[.prim o ts]))(h:Bm X W cf mt (e::es) ts):Am X W cf mt (.Call (.Name x p) (e::es) [] pos) (.prim o ts):=by
 have pl:=h.plain;exact Am.of hK hw Ax AR rfl hi (Ab (NT (Bk.imp hc λxs H Q z=>Mx hg' z) hg hm hv (Ds h) hn hdb (Aa (pl e mS) es _) (Bv (λe he=>pl e (mC he)) pos _)) λσ H Q z=>JX Ak z) (λ_=>rfl) rfl
theorem Gx{f:List C->Option C}{g:C->Option C}(h:∀c,f [c]=g c):∀cs:List C,cs.length=1->f cs=TX g cs:=λcs hl=>by
 obtain⟨c,rfl⟩:=QB hl;exact h c
theorem Y1{f:List C->Option C}{g:C->C->Option C}(h:∀c d,f [c,d]=g c d):∀cs:List C,cs.length=2->f cs=fV g cs:=λcs hl=>by
 obtain⟨c,d,rfl⟩:=O8 hl;exact h c d
theorem SU(hK:W.K=X.K)(hw:W.w=X.w){t:Ty}(ht:∀cs,t≠.cls cs)(hy:bootBuiltins y=some (.type (Mo t)))(hgy:Gl X y)(hmy:X.mg y=none)(hny:y≠"__name__")(hdy:(y == ("__debug__":Str))=false)
 (hg:Gl X "isinstance")(hm:X.mg "isinstance"=none){p:Pos}(h:Am X W cf mt a x):Am X W cf mt (.Call (.Name "isinstance" p) [a,.Name y q] [] pos) (.prim (.Ft t) [x]):=by
 obtain⟨ta,q1,q2,m1⟩:=IT h;have Ak:(O.Ft t).ok=true:=by cases t<;>first|rfl|exact absurd rfl (ht _)
 have pa:PA X [a,.Name y q] (Bb ta (Bb (tC (.ty (Mo t))) E3)):=AO q1 (AO (MJ hgy hmy hy rfl hny hdy) Cf (Aa rfl [] _)) (Aa h.st _ _);refine Am.of hK hw Ax AR rfl rfl (Ab (Dr (eU hK hw t ht) hg hm Zn pa (by decide) (by decide) (Aa h.st _ _) (Bv (λe he=>by rw[mE he];rfl) pos _)) λσ H Q z=>?_) (λ_=>rfl) rfl;have z:=AS Ak z;rw[q2]at z;refine m1 _ _ _ _ z λu H1 z=>?_
 obtain⟨c,r,g1,g2,g3⟩:=D5 (g:=As (.Ft t)) (g1:=λc=>(Dx t c).map λb=>.p (.bl b)) (λ_=>rfl) z;obtain⟨b,e1,rfl⟩:=oM g2;exact⟨u,c,b,rfl,g1,e1,g3.bl⟩
theorem HM:∀(ns:List Int),A3 W H (ns.map P.int) (ns.map V.int)
 |[]=>.nil
 |n::ns=>.cons (Ae.mpr rfl) (HM ns)
end
section
variable{cf:CF}{mt:MT}
variable{ts:List T}
theorem Am.iter{k:IK}(st:AA e=true)(nc:B5 e=false)(i:k.ok=true->∀tg,PI X tg e (Ml W (Ay X W) k (A8 cf mt ts)))
 (rv:∀u,T.prim (.iter k) ts= .prim (.iter .rev) [u]->∃l p pos,e= .Call (.Name "reversed" p) [l] [] pos/\Gl X "reversed"/\X.mg "reversed"=none/\PE X l (tG W (Ay X W) (E8 W) (Bn u (ev cf mt u)))/\AA l=true)
 (zp:∀u w,T.prim (.iter k) ts= .prim (.iter .zip) [u,w]->∃l m p pos,e= .Call (.Name "zip" p) [l,m] [] pos/\Gl X "zip"/\X.mg "zip"=none/\PA X [l,m] (tG W (Ay X W) (B2 W) (A8 cf mt [u,w]))/\AA l=true/\AA m=true):Am X W cf mt e (.prim (.iter k) ts):=by
 have hv:∀ρ,ev cf mt (.prim (.iter k) ts) ρ= .stuck:=λρ=>Gu rfl ρ
 have v:PE X e (tG W (Ay X W) (rV W) (ev cf mt (.prim (.iter k) ts))):=Ce hv;refine⟨v,Ce λρ=>(by rw[Ax,hv];rfl),JV λρ=>(by rw[AR,hv];rfl),λz=>(by cases z),st,i,λi y py spos hN hi' hx hf=>En hN hi' hx v (CI nc _ _ _) hf,λz=>(by rw[nc]at z;cases z),rv,zp⟩
variable{pos:Pos}
theorem Hu{es:List Expr}{p:Pos}(hg:Gl X "range")(hm:X.mg "range"=none)(h:Bm X W cf mt es ts)(hl:ts.length=1\/ts.length=2\/ts.length=3):Am X W cf mt (.Call (.Name "range" p) es [] pos) (.prim (.iter .BZ) ts):=by
 refine Am.iter rfl rfl (λ_ tg=>?_) (λu z=>by cases z) (λu w z=>by cases z);have pd:=Ds h;have hF:∀ρ hs ρ',A8 cf mt ts ρ= .ok hs ρ'->hs.length=ts.length:=λρ hs ρ' e=>GX e
 cases h with
 |nil=>rcases hl with z|z|z<;>cases z
 |cons h1 r1=>
   cases r1 with
   |nil=>exact TC hg hm hF pd (Aa h1.st _ _)
   |cons h2 r2=>
     have s2:=Aa h2.st;cases r2 with
     |nil=>exact TB hg hm hF pd (by rw[Aa h1.st,s2];rfl) (s2 _ _)
     |cons h3 r3=>
       have s3:=Aa h3.st;cases r3 with
       |nil=>exact Tz hg hm hF pd (by rw[Aa h1.st,s2,s3];rfl) (by rw[s2,s3];rfl)
       |cons _ _=>rcases hl with z|z|z<;>simp at z
theorem ID(hK:W.K=X.K){p:Pos}(hg:Gl X "reversed")(hm:X.mg "reversed"=none)(h:Am X W cf mt a u):Am X W cf mt (.Call (.Name "reversed" p) [a] [] pos) (.prim (.iter .rev) [u]):=by
 refine Am.iter rfl rfl (λ_ tg=>?_) (λv z=>?_) (λu w z=>by cases z)
 .rw[CQ];exact TF hK hg hm h.h (Aa h.st _ _)
 .cases z;exact⟨a,p,pos,rfl,hg,hm,h.h,h.st⟩
theorem EK(hK:W.K=X.K)(hw:W.w=X.w){o:O}(Ak:o.ok=false)(hi:AW (.prim o ts)=(.op,[.prim o ts]))(st:AA e=true)(nc:B5 e=false):Am X W cf mt e (.prim o ts):=
 Am.not hK hw Ax (λρ=>Gu Ak ρ) (λρ=>by rw[AR,Gu Ak];rfl) rfl hi st nc
theorem GW(ρ:Env):Ew cf mt [] ρ= .ok true ρ:=by unfold Ew;rfl
theorem Ro(t:T)(ts:List T):Ew cf mt (t::ts)=tv cf mt t:=funext λρ=>by conv=>lhs;unfold Ew
theorem Jl(g:Tg)(k:IK)(its cond:List T)(elt:T)(fr:List (Option Nat)):ev cf mt (.comp g k its cond elt fr)=λρ=>if k.ok then(A8 cf mt its ρ).bind (Ib k g fr (Ew cf mt cond) (ev cf mt elt))else .stuck:=funext λρ=>by
 show(den cf mt (.comp g k its cond elt fr)).v ρ=_
 conv=>lhs;unfold den
 all_goals rfl
variable{ifs:List Expr}
theorem MF{t t':TT}(h:Vf X ifs t)(k:∀σ H Q,t' σ H Q->t σ H Q):Vf X ifs t':=λpins s σ H Q I z=>h pins s σ H Q I (k σ H Q z)
variable{cs:List T}
theorem XN(h:Bm X W cf mt ifs cs)(hl:cs.length<=1):Vf X ifs (tG W (Ay X W) rB (Ew cf mt cs)):=by
 cases h with
 |nil=>
   refine MF Tx λσ H Q z=>?_
   obtain⟨ρ,os,hR,hn,hA⟩:=z;rw[GW]at hA;exact hA true H [] os ⟨rfl,rfl⟩ hR hn (AG.refl _ _)
 |cons h r=>
   cases r with
   |nil=>rw[Ro];exact Tw h.b
   |cons _ _=>simp at hl
theorem Pm(hK:W.K=X.K)(hw:W.w=X.w)(hc:X.calm=true){elt it tg:Expr}{sc:Scope}{N:List Str}{fr:List (Option Nat)}(ok:De X.N X.env.scope N sc fr)(h1:Am X W cf mt it x)(hl:cs.length<=1)
 (hb:∀C s H fp,PG (AM X N sc C s H fp) tg (gT W g)/\Am (AM X N sc C s H fp) W cf mt elt e/\Bm (AM X N sc C s H fp) W cf mt ifs cs):
 Am X W cf mt (.ListComp elt [⟨tg,it,ifs,0⟩] sc pos) (.comp g (AW x).1 (AW x).2 cs e fr):=by
 have hv:∀σ H Q,tG W (Ay X W) (rV W) (ev cf mt (.comp g (AW x).1 (AW x).2 cs e fr)) σ H Q->(AW x).1.ok=true/\IB (Ml W (Ay X W) (AW x).1 (A8 cf mt (AW x).2)) (gT W g) (tG W NX rB (Ew cf mt cs)) (tG W NX (rV W) (ev cf mt e)) fr σ H Q:=λσ H Q z=>by
  rw[Jl]at z;cases hk:(AW x).1.ok with
  |false=>rw[hk]at z;exact(Ge (λρ=>rfl) z).elim
  |true=>rw[hk]at z;exact⟨rfl,UT z⟩
 have hb':∀C s H fp,PG (AM X N sc C s H fp) tg (gT W g)/\PE (AM X N sc C s H fp) elt (tG W NX (rV W) (ev cf mt e))/\Vf (AM X N sc C s H fp) ifs (tG W NX rB (Ew cf mt cs)):=λC s H fp=>⟨(hb C s H fp).1,Ab (hb C s H fp).2.1.v λ_ _ _ z=>VP z,MF (XN (hb C s H fp).2.2 hl) λ_ _ _ z=>VP z⟩
 have v:PE X (.ListComp elt [⟨tg,it,ifs,0⟩] sc pos) (tG W (Ay X W) (rV W) (ev cf mt (.comp g (AW x).1 (AW x).2 cs e fr))):=λpins s σ H Q I z=>by
  obtain⟨hk,z⟩:=hv σ H Q z;exact Qc N fr hc ok (h1.i hk tg) hb' (Fu h1.st _) pins s σ H Q I z
 have h:PE X (.ListComp elt [⟨tg,it,ifs,0⟩] sc pos) (tG W (Ay X W) (E8 W) (Bn (.comp g (AW x).1 (AW x).2 cs e fr) (ev cf mt (.comp g (AW x).1 (AW x).2 cs e fr)))):=Ab v λσ H Q z=>LW z
 refine⟨v,h,Em (PM hK h λ_=>rfl) λσ H Q z=>L5 ?_,λz=>(by cases z),rfl,λ_ tg'=>?_,λi y py spos hN hy hx hf=>?_,λ_=>⟨_,_,_,_,rfl⟩,λu z=>(by cases z),λu w z=>(by cases z)⟩
 .rw[show(λρ=>(Bn (.comp g (AW x).1 (AW x).2 cs e fr) (ev cf mt (.comp g (AW x).1 (AW x).2 cs e fr)) ρ).bind λh ρ=>Res.of ((h.cont ρ).bind Cw) ρ)=tv cf mt (.comp g (AW x).1 (AW x).2 cs e fr)from funext λρ=>by
    show(((den cf mt (.comp g (AW x).1 (AW x).2 cs e fr)).v ρ).bind _).bind _=(den cf mt (.comp g (AW x).1 (AW x).2 cs e fr)).b ρ;unfold den
    rfl]
  exact z
 .show PI X tg' _ (Ml W (Ay X W) .op (A8 cf mt [.comp g (AW x).1 (AW x).2 cs e fr]));rw[CQ];exact MG hK hw h
 .have hs:swapsWith (.ListComp elt [⟨tg,it,ifs,0⟩] sc pos) (some (.Name y py)) spos.line X.env=pure (X.env.blockKind == .function && X.env.kindOf y == some .local && py.line == pos.line && !(sc.names.any λ(n,k)=>n == y && (k == .local || k == .cell))):=rfl;cases hbo:(X.env.blockKind == .function && X.env.kindOf y == some .local && py.line == pos.line && !(sc.names.any λ(n,k)=>n == y && (k == .local || k == .cell)))with
  |false=>
    rw[hbo]at hs;exact En hN hy hx v hs hf
  |true=>
    rw[hbo]at hs
    have hl':X.env.scope.names.lookup y=some .local:=by
     simp only[bA]at hbo;exact beq_iff_eq.mp hbo.1.1.2
    intro pins s σ H D I z;obtain⟨hk,z⟩:=hv σ H _ z;exact PR N fr hN hy hl' hc ok (h1.i hk tg) hb' hs (Fu h1.st _) pins s σ H D I z
end
section
variable{cf:CF}{mt:MT}
theorem PQ{st:Stmt}{as:List Nat}{F:Env->Res Fl}(hF:∀ρ,F ρ= .stuck):PS X st (tS W (Ay X W) as F):=λ_ _ _ _ _ _ h=>by
 obtain⟨ρ,os,hR,hn,hA⟩:=h;rw[hF]at hA;exact False.elim hA
end
section
variable{cf:CF}{mt:MT}
variable{H:Hp}
theorem B1.put{ob:List Addr}(hb:Bq W H b y ob):∀{fs:List (Str×B)} {vs:List (Str×V)} {o:List Addr},B1 W H fs vs o->(o++ob).Nodup->∃o',B1 W H (Iv.B6 f b fs) (L2.B6 f y vs) o'/\o'.Nodup/\∀a∈o',a∈o++ob
 | [],_,_,⟨e1,e2⟩,hn=>by
   subst e1 e2;exact⟨ob++[],⟨y,[],ob,[],rfl,hb,⟨rfl,rfl⟩,rfl⟩,by simpa using hn,λa ha=>by simpa using ha⟩
 | (g, c)::fs,_,_,⟨v,r,o1,o2,e1,h1,h2,e2⟩,hn=>by
   subst e1 e2;have hn':(o1++(o2++ob)).Nodup:=by rw[<-append_assoc];exact hn
   have n1:=nA hn';unfold Iv.B6 L2.B6
   by_cases hg:g=f
   .rw[iP hg,iP hg];refine⟨ob++o2,⟨y,r,ob,o2,rfl,hb,h2,rfl⟩,(perm_append_comm.nodup_iff).mp n1.2.1,λa ha=>?_⟩;rcases mem_append.mp ha with z|z
    .exact mR z
    .exact mL (mR z)
   .rw [iN hg,iN hg];obtain⟨o',q1,q2,q3⟩:=B1.put hb h2 n1.2.1;refine⟨o1++o',⟨v,_,o1,o',rfl,h1,q1,rfl⟩,?_,λa ha=>?_⟩
    .rw[nodup_append];exact⟨n1.1,q2,λa ha b hb z=>n1.2.2 a ha b (q3 b hb) z⟩
    .rcases mem_append.mp ha with z|z
     .exact mL (mL z)
     .rcases mem_append.mp (q3 a z)with y|y
      .exact mL (mR y)
      .exact mR y
theorem B1.len:∀{fs:List (Str×B)} {vs:List (Str×V)} {o:List Addr},B1 W H fs vs o->vs.length=fs.length
 |[],_,_,h=>by rw[h.1];rfl
 |(g,c)::fs,_,_,⟨v,r,o1,o2,e1,h1,h2,e2⟩=>by rw[e1,lC,lC,B1.len h2]
theorem QJ{a C dx:Addr}{fs:List (Str×V)}{x':HO}(h:H a=some (.ins C dx fs)):AE H (upd H a x'):=λb=>by
 by_cases hb:b=a
 .subst hb;refine⟨λxs z=>?_,λo u z=>?_⟩
  .rw[h]at z;cases z
  .rw[h]at z;cases z
 .rw[A5 hb];exact⟨λ_ z=>z,λ_ _ z=>z⟩
theorem UD(i:Nat)(f:Str)(v:T)(ρ:Env):exec cf mt A1 (.Gn i f v) ρ=(ev cf mt v ρ).bind λv ρ=>Hx mt i f v ρ:=by
 conv=>lhs;unfold exec
variable{spos:Pos}
theorem Tr(hK:W.K=X.K)(hF:∀c f,mt.f c f=true->Bu X.K (W.B7 c) f){f:Str}{apos:Pos}{val:Expr}{i:Nat}(hx:PE X (.Name x p) (Ej i))(hv:Am X W cf mt val v):
 PS X (.Assign [.Attribute (.Name x p) f apos] val spos) (tS W (Ay X W) [] (exec cf mt A1 (.Gn i f v))):=by
 refine Cz (XI hx hv.v (by cases val<;>rfl)) λD σ H z=>?_
 obtain⟨ρ,os,hR,hn,hA⟩:=z;rw[UD]at hA;refine⟨ρ,os,hR,hn,after hR hA λc ρ1 y H1 o1 os1 r1 r2 r3 r4 r5=>?_⟩;unfold Hx at r5;cases hg:A6 ρ1 i with
 |none=>rw[hg]at r5;exact False.elim r5
 |some d=>
   rw[hg]at r5;cases d with
   |b _=>exact False.elim r5
   |obj kk fs=>
     cases c with
     |obj _ _=>exact False.elim r5
     |b b =>
       dsimp only at r5;split at r5
       case isFalse=>exact False.elim r5
       rename_i hc;rw[bA]at hc;have r5:∀σ' H' os',A4 W H' (ρ1.set i (some (.obj kk (Iv.B6 f b fs)))) σ' os'->os'.Nodup->AG H1 H' (o1++os1) os'->AF [] σ σ'->D.nx σ' H':=r5;obtain⟨vv,oi,osr,t1,t2,t3,t4⟩:=r2.take hg;obtain⟨a,dx,vs,osf,rfl,q1,q2,rfl,q4⟩:=t2;have n3:=nA r3;have nd:=nA (t4.nodup_iff.mpr n3.2.1);have nf:=nodup_cons.mp nd.1;have ha1:a∈os1:=t4.subset (mL mS);have no:Bu X.K (W.B7 kk) f:=hF kk f hc.1;refine⟨.ref a,t1,a,W.B7 kk,dx,vs,rfl,q1,hK▸q4.1,no,by rw[q2.len];have:=of_decide_eq_true hc.2;lia,?_⟩;have kp:AE H1 (upd H1 a (.ins (W.B7 kk) dx (L2.B6 f y vs))):=QJ q1;have bt:Hr [a] H1 (upd H1 a (.ins (W.B7 kk) dx (L2.B6 f y vs))):=Cb mS;have fr1:=q2.frame kp bt (λb hb z=>nf.1 (by rw[<-mE z];exact hb));have fb:Bq W (upd H1 a (.ins (W.B7 kk) dx (L2.B6 f y vs))) b y o1:=Bq.frame r1 kp bt λb hb z=>n3.2.2 b hb a ha1 (mE z)
       have fr3:=t3.frame (t3.tb.upd kp q1 rfl) kp bt λb hb z=>nd.2.2 a mS b hb (mE z).symm
       have dis:∀b∈osf,b∈os1:=λb hb=>t4.subset (mL (mC hb))
       obtain⟨o',g1,g2,g3⟩:=B1.put (f:=f) fb fr1 (by
        rw[nodup_append]
        exact⟨nf.2,n3.1,λb hb d hd z=>n3.2.2 d hd b (dis b hb) z.symm⟩)
       have ha':a∉o':=λz=>by
        rcases mem_append.mp (g3 a z)with y|y
        .exact nf.1 y
        .exact n3.2.2 a y a ha1 rfl
       obtain⟨os2,u1,u2⟩:=A4.fill (c:=.obj kk (Iv.B6 f b fs)) (v:=.ref a) (o:=a::o') ⟨a,dx,_,o',rfl,Ac,g1,rfl,q4.put (hK▸no)⟩ fr3 (Ba (BL hg)) (by rw[length_set];exact BL hg);rw[set_set,set_same t1]at u1
       have nd2:((a::o')++osr).Nodup:=by
        rw[nodup_append];refine⟨nodup_cons.mpr ⟨ha',g2⟩,nd.2.1,λb hb d hd z=>?_⟩;subst z;rcases mK hb with y|y
        .exact nd.2.2 a mS b hd y.symm
        .rcases mem_append.mp (g3 b y)with w|w
         .exact nd.2.2 b (mC w) b hd rfl
         .exact n3.2.2 b w b (t4.subset (mR hd)) rfl
       refine r5 σ _ os2 u1 (u2.nodup_iff.mpr nd2) ⟨Cb (mR ha1),λb hb=>.inl ?_,λb x e=>?_⟩ (AF.refl _ _)
       .rcases mem_append.mp (u2.subset hb)with y|y
        .rcases mK y with w|w
         .rw[w];exact mR ha1
         .rcases mem_append.mp (g3 b w)with u|u
          .exact mR (dis b u)
          .exact mL u
        .exact mR (t4.subset (mR y))
       .by_cases hba:b=a
        .subst hba;exact⟨_,Ac⟩
        .exact⟨x,by rw[A5 hba];exact e⟩
theorem UH(is:List Nat)(t:T)(ρ:Env):exec cf mt A1 (.asg (.tup is) t) ρ=(Bn t (ev cf mt t) ρ).bind λh ρ=>Res.of ((h.cont ρ).bind λc=>Hw (.tup is) c ρ) ρ |>.bind λρ' _=>.ok .nx ρ':=by
 conv=>lhs;unfold exec
theorem UI(i:Nat)(t:T)(ρ:Env):exec cf mt A1 (.asg (.nm i) t) ρ=(ev cf mt t ρ).bind λc ρ=>.ok .nx (ρ.set i (some c)):=by
 conv=>lhs;unfold exec
theorem P6{es:List Expr}{k:Nat}(h:LR e=false)(env:PySem.Env):swappedStores [.Tuple es k p] e env=pure none:=by
 cases e<;>first|rfl|cases h
theorem SM{es:List Expr}{k:Nat}{l:Nat}(env:PySem.Env):swapsWithSole [.Tuple es k p] e l env=pure false:=by
 show swapsWith e (some (.Tuple es k p)) l env=pure false;cases e<;>rfl
theorem NM{es:List Expr}{k:Nat}{val:Expr}{is:List Nat}(hg:PG X (.Tuple es k p) (gT W (.tup is)))(hi:∀i∈is,i < X.N.length)(hv:Am X W cf mt val v)(hnt:LR val=false):
 PS X (.Assign [.Tuple es k p] val spos) (tS W (Ay X W) is (exec cf mt A1 (.asg (.tup is) v))):=by
 intro pins s σ H D I z;refine XM hv.h hg (SM _) (P6 hnt _) rfl pins s σ H D I ?_;obtain⟨ρ,os,hR,hn,hA⟩:=z;rw[UH]at hA;refine⟨ρ,os,hR,hn,after hR hA λh ρ1 y H1 o1 os1 r1 r2 r3 r4 r5=>?_⟩;cases ec:h.cont ρ1 with
 |none=>rw[ec]at r5;exact False.elim r5
 |some c=>
   rw[ec]at r5;have r6:CG W (Ay X W) is D σ H1 (o1++os1) ((Res.of (Hw (.tup is) c ρ1) ρ1).bind λρ' _=>.ok .nx ρ'):=r5;cases e2:Hw (.tup is) c ρ1 with
   |none=>rw[e2]at r6;exact False.elim r6
   |some ρ'=>
     rw[e2]at r6;have r7:∀σ' H' os',A4 W H' ρ' σ' os'->os'.Nodup->AG H1 H' (o1++os1) os'->AF is σ σ'->D.nx σ' H':=r6;unfold Hw at e2;split at e2
     .rename_i e0;cases e0
     .rename_i is' vs e0;cases e0;have rp:Aw W H1 (.tup vs) y:=F7 r2 r1 ec;exact R8 (g:=.tup is) e2 rp r2 (nA r3).2.1 (λi hi'=>by rw[I.len];exact hi i hi') λσ' os' g1 g2 g3 g4=>r7 σ' H1 os' g1 g2 ((AG.refl _ _).sub λa ha=>mR (g3 a ha)) g4
     .cases e2
end
variable{pins:List (Addr×Obj)}{s:Shared}
def Wx:HO:=.ext λ_=>True
def grown(H:Hp)(P c:Addr)(oc:Obj)(ps:Array Value):Hp:=upd (upd H c (.Dl oc Wx)) P (.Iy ps)
theorem R5{P c:Addr}{oc:Obj}{ps more:Array Value}{h':Heap}{tk:Nat}(I:Inv X pins σ H s)(hP:H P=some (.Iy ps))(hc:s.heap.objs.size<=c)
 (hx:∀b o,b≠P->s.heap.get? b=some o->h'.get? b=some o)(hoc:h'.get? c=some oc)(hPn:h'.get? P=some {cls:=.none,data:=.fields (ps++more)}):
 Inv X pins σ (grown H P c oc (ps++more)) {s with heap:=h',toks:=tk}/\AE H (grown H P c oc (ps++more))/\∀os,AG H (grown H P c oc (ps++more)) os os:=by
 have hcn:H c=none:=I.Ak.fresh hc;have neP:∀b x,H b=some x->HL x=false->b≠P:=λb x e n z=>by rw[z,hP]at e;cases e;cases n
 have nec:∀b x,H b=some x->b≠c:=λb x e z=>by rw[z,hcn]at e;cases e
 have hPc:P≠c:=nec P _ hP
 have same:∀b x,H b=some x->HL x=false->grown H P c oc (ps++more) b=some x:=λb x e n=>by
  unfold grown;rw[A5 (neP b x e n),A5 (nec b x e)];exact e
 have lt:∀b o,s.heap.get? b=some o->b≠c:=λb o e z=>absurd (Nat.lt_of_lt_of_le (Heap.lt_size e) (z▸hc)) (Nat.lt_irrefl _)
 have neU:∀b,H b=none->b≠P:=λb n z=>by rw[z,hP]at n;cases n
 have there:∀b x,H b=some x->∃x',grown H P c oc (ps++more) b=some x':=λb x e=>by
  by_cases hb:b=P
  .exact⟨_,by rw[hb];exact Ac⟩
  .exact⟨x,by unfold grown;rw[A5 hb,A5 (nec b x e)];exact e⟩
 have kp:AE H (grown H P c oc (ps++more)):=λa=>⟨λxs e=>same a _ e rfl,λo u e=>same a _ e rfl⟩
 refine⟨I.un ⟨λb o e n hb _=>hx b o (neU b n) e,λb o e n hb _=>⟨o.slots,hx b o (neU b n) e⟩,λb o e n _=>?_,λb o e _=>?_,λb xs e=>same b _ e rfl,λb o u e=>same b _ e rfl,λb qs e=>?_⟩ (λa o e=>?_),kp,λos=>⟨λb x e _ n=>same b x e n,λa ha=>.inl ha,there⟩⟩
 .unfold grown;rw[A5 (neU b n),A5 (lt b o e)];exact n
 .by_cases hb:b=P
  .exact⟨_,by rw[hb];exact hPn⟩
  .exact⟨o,hx b o hb e⟩
 .by_cases hb:b=P
  .rw[hb,hP]at e;cases e;exact⟨more,by rw[hb];exact Ac⟩
  .exact⟨#[],by unfold grown;rw[A5 hb,A5 (nec b _ e),e];simp⟩
 .by_cases ha:a=P
  .subst ha;have e:grown H a c oc (ps++more) a=some o:=e;unfold grown at e;rw[Ac]at e;cases e;exact hPn
  .by_cases ha2:a=c
   .subst ha2;unfold grown at e;rw[A5 ha,Ac]at e;cases e;exact⟨hoc,trivial,⟨_,hoc⟩,λ_ _ _ _=>trivial⟩
   .have e0:H a=some o:=by
     unfold grown at e;rw[A5 ha,A5 ha2]at e;exact e
    refine(I.Ak a o e0).CJ (λb u hb q=>hx b u ?_ q) (λb q=>same b _ q rfl) λb xs q=>same b _ q rfl
    rcases hb with rfl|hb
    .exact ha
    .exact neP b _ hb rfl
theorem HE:∀{l:List (α×β)} {p q:α×β},(l.map (·.1)).Nodup->p∈l->q∈l->p.1=q.1->p=q
 |[],_,_,_,h,_,_=>by cases h
 | x ::l,p,q,hn,hp,hq,e=>by
   rw[map_cons,nodup_cons]at hn;rcases mK hp with hp1|hp1
   .rcases mK hq with hq1|hq1
    .rw[hp1,hq1]
    .exact absurd (by rw[<-hp1,e];exact mem_map_of_mem hq1) hn.1
   .rcases mK hq with hq1|hq1
    .exact absurd (by rw[<-hq1,<-e];exact mem_map_of_mem hp1) hn.1
    .exact HE hn.2 hp1 hq1 e
variable{sc:Scope}
theorem QE{as:Arguments}{lp:Pos}{P:Addr}{clos:List (Str×Addr)}{Q:Value->Shared->Prop}(I:Inv X pins σ H s)(tb:CV W H)(hnd:(W.tabs.map (·.1)).Nodup)(hq:(P,lp,X.env.qual++"<lambda>")∈W.tabs)
 (hdef:defaultsOf as X.env=([],[]))(hcl:closureFor sc X.env=pure clos)(hcode:X.env.code= .ref c)(C:CodeHd X.base c P)(hB:X.base.BuiltinsAt X.mg P)(hgP:mainGlobals≠P)
 (h:∀(c0 cc:Addr) (ctv:Value) (s':Shared) (H':Hp),Inv X pins σ H' s'->AE H H'->(∀os,AG H H' os os)->CV W H'->KW H' (cc,X.env.qual++"<lambda>")->
   s'.heap.get? c0=some {cls:=.type "function",data:=.func (kla_fn "<lambda>" (X.env.qual++"<lambda>") as b sc clos ((X.mg "__name__").getD .none) (.ref cc) ctv)}->s.heap.objs.size<=c0->H' c0=none->
   (∀a o,s.heap.get? a=some o->H a=none->s'.heap.get? a=some o)->Q (.ref c0) s'):wpAny (model X.prog X.w) X.A (eval (.Lambda as b sc lp) X.env) Q X.xe s:=by
 obtain⟨ps,hP,ht,hcodes⟩:=tb.1 _ hq;have hPs:s.heap.get? P=some (tabObj ps):=I.Ak P _ hP;have hg:s.heap.Ns mainGlobals X.mg:=I.mod.glob.keeps I.bk;have hb:s.heap.BuiltinsAt X.mg P:=let⟨bm,o,q1,q2,q3,q4,q5,q6⟩:=hB;⟨bm,o,q1,q2,q3,q4,I.bk _ _ q5,q6⟩;refine PySem.W.kla_eval hdef ?_;cases hf:codeAmong lp ps.toList with
 |some cv=>
   obtain⟨cc,rfl,hcc⟩:=hcodes cv hf;refine PySem.W.kla_makeFunctionHit hcl I.ok.glob hg hcode (C.keeps I.bk) hPs ht hf hb λctv h' tk hk hsz=>?_
   have hk2:∀a o,s.heap.get? a=some o->(h'.push {cls:=.type "function",data:=.func (kla_fn "<lambda>" (X.env.qual++"<lambda>") as b sc clos ((X.mg "__name__").getD .none) (.ref cc) ctv)}).get? a=some o:=λa o e=>gP (hk a o e)
   exact h _ cc ctv _ H (I.kept hk2) (λa=>⟨λ_ e=>e,λ_ _ e=>e⟩) (λos=>AG.refl H os) tb hcc (Heap.get?_push_size _ rfl) hsz (I.Ak.fresh hsz) λa o e _=>hk2 a o e
 |none=>
   refine PySem.W.kla_makeFunction hcl I.ok.glob hg hcode (C.keeps I.bk) hPs ht hf hgP hb λc' ctv h' tk hx hge hlt hrec htb=>?_
   obtain⟨c2,oc,vs,t,e2,hoc,hd,hv⟩:=hrec;cases e2;have hk2:∀a o,a≠P->s.heap.get? a=some o->(h'.push (PySem.W.kla_obj "<lambda>" (X.env.qual++"<lambda>") as b sc clos ((X.mg "__name__").getD .none) c' ctv)).get? a=some o:=λa o n e=>gP (hx a o n e)
   obtain⟨g1,g2,g3⟩:=R5 (c:=c') (oc:=oc) (tk:=tk) I hP hge hk2 (gP hoc) (gP htb);have hPc:P≠c':=λz=>by rw[z,I.Ak.fresh hge]at hP;cases hP
   have hszc:s.heap.objs.size<=h'.objs.size:=Nat.le_trans hge (Nat.le_of_lt hlt);have hcdn:KW (grown H P c' oc (ps++ #[rawInt lp.line,rawInt lp.col,Value.ref c'])) (c',X.env.qual++"<lambda>"):=⟨oc,Wx,vs,t,by unfold grown;rw[A5 hPc.symm];exact Ac,hd,hv⟩;refine h _ c' ctv _ _ g1 g2 g3 ⟨λq hq2=>?_,λq hq2=>(tb.2 q hq2).keep g2⟩ hcdn (Heap.get?_push_size _ rfl) hszc ?_ λa o e n=>hk2 a o (λz=>by rw[z,hP]at n;cases n) e
   .by_cases hqP:q.1=P
    .have eq:q=(P,lp,X.env.qual++"<lambda>"):=HE hnd hq2 hq hqP;subst eq;have el:(ps++ #[rawInt lp.line,rawInt lp.col,Value.ref c']).toList=ps.toList++[rawInt lp.line,rawInt lp.col,Value.ref c']:=by simp
     refine⟨_,Ac,by rw[el];exact TriplesOk_snoc _ _ _ _ ht,λcv e=>?_⟩;rw[el]at e;have e:codeAmong lp (ps.toList++[rawInt lp.line,rawInt lp.col,Value.ref c'])=some cv:=e;rw[codeAmong_snoc _ ht hf]at e;cases e;exact⟨c',rfl,hcdn⟩
    .obtain⟨qs,k1,k2,k3⟩:=tb.1 q hq2;refine⟨qs,?_,k2,λcv e=>?_⟩
     .unfold grown;rw[A5 hqP,A5 λz=>by rw[z,I.Ak.fresh hge]at k1;cases k1];exact k1
     .obtain⟨d,j1,j2⟩:=k3 cv e;exact⟨d,j1,j2.keep g2⟩
   .unfold grown;rw[A5 λz=>?_,A5 (Nat.ne_of_gt hlt)]
    .exact I.Ak.fresh hszc
    .have:=I.Ak.lt hP;rw[<-z]at this;exact absurd (Nat.lt_of_lt_of_le this hszc) (Nat.lt_irrefl _)
noncomputable def baseOf(B h:Heap)(L:List Addr):Heap:=hideAll h ((List.range h.objs.size).filter λb=>(B.get? b).isNone && !L.contains b)
variable{h:Heap}
theorem H8{B:Heap}(k:∀b o,B.get? b=some o->h.get? b=some o){b:Addr}{o:Obj}(e:B.get? b=some o):(baseOf B h L).get? b=some o:=
 hideAll_get _ (k b o e) λhm=>by
  have:=(mem_filter.mp hm).2;rw[e]at this;simp at this
theorem Io{B:Heap}{L:List Addr}{b:Addr}{o:Obj}(hb:b∈L)(e:h.get? b=some o):(baseOf B h L).get? b=some o:=
 hideAll_get _ e λhm=>by
  have:=(mem_filter.mp hm).2;simp[hb]at this
theorem Im{B:Heap}{o:Obj}(e:(baseOf B h L).get? b=some o):h.get? b=some o/\((∃o',B.get? b=some o')\/b∈L):=by
 have e':h.get? b=some o:=of_hideAll _ e;refine⟨e',?_⟩
 by_cases hb:b∈L
 .exact .inr hb
 .cases q:B.get? b with
  |some o'=>exact .inl ⟨o',rfl⟩
  |none=>
    have hm:b∈(List.range h.objs.size).filter λb=>(B.get? b).isNone && !L.contains b:=mem_filter.mpr ⟨mem_range.mpr (Heap.lt_size e'),by simp[q,hb]⟩
    have z:(baseOf B h L).get? b=none:=hideAll_none _ hm;rw[z]at e;cases e
theorem FP{B B':Heap}:∀{l:List PySem.Env},h.FunFrames B l->(∀b∈C6 l,B.get? b=none->B'.get? b=none)->h.FunFrames B' l
 |[],_,_=>trivial
 |env::l,⟨hk,⟨L,o,hf,hn,ho,hd⟩,hr⟩,k=>⟨hk,⟨L,o,hf,k L (by unfold C6;rw[filterMap_cons,hf];exact mS) hn,ho,hd⟩,FP hr λb hb=>k b (by
     unfold C6 at hb ⊢;rw[filterMap_cons,hf]
     exact mC hb)⟩
theorem Ow{L:List Addr}(I:Inv X pins σ H s)(hL:∀b∈L,∃o,s.heap.get? b=some o/\H b=none)(hF:∀b∈L,b∉C6 X.stack):FG X.prog X.w X.K X.mg (baseOf X.base s.heap L) X.A X.stack s H:=by
 have k:∀b o,X.base.get? b=some o->(baseOf X.base s.heap L).get? b=some o:=λb o e=>H8 I.bk e
 have m:=I.mod;refine⟨I.ok.frames,⟨m.Of.keeps k,m.glob.keeps k,let⟨mb,h1,h2⟩:=m.blt;⟨mb,h1.keeps k,h2⟩,m.nolimit.keeps k⟩,λb o e=>?_,Nat.le_of_eq (hideAll_size _ _),FP I.stack λb hb n=>?_,I.DJ,I.Ak,I.bare⟩
 .obtain⟨e1,e2⟩:=Im e;rcases e2 with⟨o',e2⟩|e2
  .exact⟨e1,(I.bs b o' e2).2⟩
  .obtain⟨o',q1,q2⟩:=hL b e2;exact⟨e1,q2⟩
 .cases q:(baseOf X.base s.heap L).get? b with
  |none=>rfl
  |some o=>
    rcases(Im q).2 with⟨o',e2⟩|e2
    .rw[n]at e2;cases e2
    .exact absurd hb (hF b e2)
structure RO(W W':Wd):Prop where
 K:W.K=W'.K
 w:W.w=W'.w
 B7:W.B7=W'.B7
 tabs:W.tabs=W'.tabs
variable{W':Wd}
theorem RO.symm(h:RO W W'):RO W' W:=⟨h.K.symm,h.w.symm,h.B7.symm,h.tabs.symm⟩
variable{W':Wd}
mutual
theorem DM (q:RO W W'):∀{p:P} {v:V},noFn p=true->Aw W H p v->Aw W' H p v
 |.Ai,_,_,h=>h
 |.bl _,_,_,h=>h
 |.int _,_,_,h=>h
 |.str _,_,_,h=>h
 |.fn _,_,n,_=>by cases (n:false=true)
 |.box _ _,_,n,_=>by cases (n:false=true)
 | .tup ps,v,n,h=>by
   obtain⟨a,vs,e,h1,h2⟩:=CM.mp h;exact CM.mpr ⟨a,vs,e,q.K▸h1,Gp q n h2⟩
theorem Gp (q:RO W W'):∀{ps:List P} {vs:List V},Dg ps=true->A3 W H ps vs->A3 W' H ps vs
 |[],_,_,h=>h
 | p::ps,vs,n,h=>by
   have n:(noFn p && Dg ps)=true:=n;rw[bA]at n;unfold A3 at h ⊢;obtain⟨v,r,e,h1,h2⟩:=h;exact⟨v,r,e,DM q n.1 h1,Gp q n.2 h2⟩
end
theorem El(q:RO W W'):∀{fs:List (Str×B)} {vs:List (Str×V)} {o:List Addr},Bs fs=true->B1 W H fs vs o->B1 W' H fs vs o/\o=[]
 |[],vs,o,_,h=>⟨h,h.2⟩
 | (f,b)::fs,vs,o,n,⟨v,r,o1,o2,e1,h1,h2,e⟩=>by
   cases b with
   |p x=>
     have n:(noFn x && Bs fs)=true:=n;rw[bA]at n;obtain⟨g1,g2⟩:=El q n.2 h2;have h1:Aw W H x v/\o1=[]:=h1;refine⟨⟨v,r,o1,o2,e1,⟨DM q n.1 h1.1,h1.2⟩,g1,e⟩,?_⟩;rw[e,h1.2,g2];rfl
   |_=>cases (n:false=true)
theorem PC(q:RO W W')(hc:∀c,W'.B7 (tag c)=W.B7 c){c:Nat}{fs:List (Str×B)}{a:Addr}(n:Bs fs=true)(hs:W'.NB=a)(h:AQ W H (.obj c fs) (.ref a) o):AQ W' H (.obj (tag c) fs) (.ref a) o/\o=[a]:=by
 obtain⟨a',dx,vs,os,e,h1,h2,h3,h4,h5,h6⟩:=h;cases e;obtain⟨g1,g2⟩:=El q n h2;refine⟨⟨a,dx,vs,os,rfl,by rw[hc];exact h1,g1,h3,?_,?_,λ_=>hs.symm⟩,by rw[h3,g2]⟩
 .rw[hc,<-q.K];exact h4
 .rw[hc,<-q.K];exact h5
theorem Lb(q:RO W W')(hc:∀c,W'.B7 (tag c)=W.B7 c){c:Nat}{fs:List (Str×B)}(n:Bs fs=true)(hs:1000<=c->W'.NB=W.NB)(h:AQ W' H (.obj (tag c) fs) v o):AQ W H (.obj c fs) v o/\v= .ref W'.NB/\o=[W'.NB]:=by
 obtain⟨a,dx,vs,os,rfl,h1,h2,h3,h4,h5,h6⟩:=h;obtain⟨g1,g2⟩:=El q.symm n h2;have ha:a=W'.NB:=h6 (by unfold tag;split<;>lia);subst ha;refine⟨⟨W'.NB,dx,vs,os,rfl,by rw[<-hc];exact h1,g1,h3,?_,?_,λz=>hs z⟩,rfl,by rw[h3,g2]⟩
 .rw[<-hc,q.K];exact h4
 .rw[<-hc,q.K];exact h5
theorem Nr(q:RO W W')(hc:∀r∈W'.aO,KW H r)(h:CV W H):CV W' H:=⟨λr hr=>h.1 r (q.tabs▸hr),hc⟩
noncomputable def HY(P:Program)(w:World)(K:PySem.W.Frag)(mg:Str->Option Value)(base:Heap)(N:List Str)(qual:Str)(scope:Scope)(f:Addr)(cd:Value)(cl:List (Str×Addr))(A:Around)(outer:List PySem.Env)(s:Shared)(H:Hp)(E:XK):Cx where
 prog:=P
 w:=w
 K:=K
 mg:=mg
 base:=base
 A:=A.deeper (envX qual scope s.heap.objs.size f cd cl)
 N:=N
 s₀:=s
 H₀:=H
 env:=envX qual scope s.heap.objs.size f cd cl
 outer:=outer
 stack:=envX qual scope s.heap.objs.size f cd cl::outer
 ex:=[]
 calm:=true
 fn:=λ_=>false
 pn:=[]
 xe:=λe s'=>wpAny (model P w) (A.deeper (envX qual scope s.heap.objs.size f cd cl)) (leaving (envX qual scope s.heap.objs.size f cd cl) e) (λ_ s''=>Xc.DI P w outer H s E e s'') (λe' s''=>Xc.DI P w outer H s E e' s'') s'
structure RR(N:List Str)(sc:Scope)(cl:List (Str×Addr)):Prop where
 kind:sc.kind= .function
 co:sc.isCoroutine=false
 gen:sc.isGenerator=false
 Dt:∀x∈sc.names,x.2≠.cell
 free:∀x,sc.names.lookup x≠some .local
 inj:∀x y c,cl.lookup x=some c->cl.lookup y=some c->x=y
 has:∀x,sc.names.lookup x=some .free->∃c,cl.lookup x=some c
section
variable{P:Program}{w:World}{K:PySem.W.Frag}{mg:Str->Option Value}{base:Heap}
theorem Du{k:NameKind}:∀{l:List (Str×NameKind)},l.lookup x=some k->∃y∈l,y.2=k
 |[],h=>by simp at h
 | (y,j)::l,h=>by
   rw[lookup_cons]at h;cases hb:x == y with
   |true=>rw[hb]at h;cases h;exact⟨_,mS,rfl⟩
   |false=>rw[hb]at h;obtain⟨z,h1,h2⟩:=Du h;exact⟨z,mC h1,h2⟩
variable{qual:Str}{sc:Scope}{A:Around}{s:Shared}{H:Hp}{vs:List V}
theorem Us{N:List Str}{cd:Value}{cl:List (Str×Addr)}{outer:List PySem.Env}{E:XK}{h':Heap}{tk:Nat}(S:RR N sc cl)(hd:A.handled=none)(e0:FG P w K mg base A outer s H)
 (hcell:∀x c,cl.lookup x=some c->∃u,base.IsCell c (some u))(hvs:vs.length=N.length)(hv:∀(i:Nat) (x:Str) (v:V),N[i]? =some x->vs[i]? =some v->∃c u,cl.lookup x=some c/\base.IsCell c (some u)/\RelV v u)
 (hns:h'.Ns s.heap.objs.size λ_=>none)(hsb:∀b o,s.heap.get? b=some o->h'.get? b=some o):
 Inv (HY P w K mg base N qual sc f cd cl A outer s H E) [] (vs.map some) H {s with heap:=h',toks:=tk}:=by
 have bk:∀b o,base.get? b=some o->h'.get? b=some o:=λb o e=>hsb b o (e0.bs b o e).1
 have cellk:∀{c:Addr} {u:Value},base.IsCell c (some u)->h'.IsCell c (some u):=λ{c u} ⟨o,ho,hd⟩=>⟨o,bk _ _ ho,hd⟩
 have cellf:∀{c:Addr} {u:Value},base.IsCell c (some u)->H c=none:=λ{c u} ⟨o,ho,_⟩=>(e0.bs _ _ ho).2
 have frsz:∀b∈C6 outer,b≠s.heap.objs.size:=λb hb z=>by
  obtain⟨_,o,ho,_⟩:=e0.E6.mem hb;rw[z]at ho;exact absurd (Heap.lt_size ho) (Nat.lt_irrefl _)
 refine⟨⟨e0.mod,S.kind,rfl,rfl,lR,S.inj,λx hx=>?_,λx c hx=>(by cases hx),λ_=>hd,?_,.inr ⟨rfl,rfl⟩,λb hb=>(by cases hb),e0.bs,e0.RD,λb o e hb=>(by cases hb),λb hb=>(by cases hb),e0.E6,e0.Uz⟩,rfl,e0.bare,Un.kept hsb,⟨_,hns,λi x v e1 e2 e3=>?_⟩,λx c e=>?_,e0.Ak.fresh (lR),λx c e=>?_,λp hp=>(by cases hp),e0.Ak.kept hsb,by rw[lM];exact hvs⟩
 .rcases hx with hx|hx
  .obtain⟨y,h1,h2⟩:=Du (show sc.names.lookup x=some .cell from hx);exact absurd h2 (S.Dt y h1)
  .exact S.has x hx
 .have:=e0.frames
  first|exact congrArg _ (by rfl)|(simp[HY,Around.deeper,this])
 .rw[List.getElem?_map]at e2;obtain⟨v',h1,h2⟩:=oM e2;cases h2;obtain⟨c,u,q1,q2,q3⟩:=hv i x v e1 h1;refine⟨u,q3,.inr ⟨?_,c,q1,cellk q2⟩⟩;rcases e3 with z|z|z
  .exact absurd z (S.free x)
  .obtain⟨y,h1,h2⟩:=Du z;exact absurd h2 (S.Dt y h1)
  .exact .inr z
 .obtain⟨u,q⟩:=hcell x c e;exact⟨some u,cellk q⟩
 .obtain⟨u,q⟩:=hcell x c e;exact cellf q
theorem Uk{k:Nat}{as:Arguments}{clos:List (Str×Addr)}{pm cv ctv:Value}{N:List Str}{outer:List PySem.Env}{Q:VK}{E:XK}{t:TE}
 (e0:FG P w K mg base A outer s H)(hr:B3 (k+1) A)(S:RR N sc clos)(ho:base.get? c0=some {cls:=.type "function",data:=.func (kla_fn "<lambda>" qual as b sc clos pm cv ctv)})(hcd':s.heap.CodeRec cv qual)
 (hbind:bindArgs (kla_fn "<lambda>" qual as b sc clos pm cv ctv) ⟨[],[]⟩=pure [])(hcell:∀x c,clos.lookup x=some c->∃u,base.IsCell c (some u))(hvs:vs.length=N.length)(hv:∀(i:Nat) (x:Str) (v:V),N[i]? =some x->vs[i]? =some v->∃c u,clos.lookup x=some c/\base.IsCell c (some u)/\RelV v u)
 (hpe:PE (HY P w K mg base N qual sc c0 cv clos A outer s H E) b t)(hq:t (vs.map some) H Q):codeAny (model P w) A (.call (.ref c0) ⟨[],[]⟩) (L2.CR (Xc.DI P w) outer P w H s Q E) s:=by
 have lim:s.heap.NoLimit:=e0.mod.nolimit.keeps λb o e=>(e0.bs b o e).1
 refine PySem.W.kla_callFunE hr.depth (e0.bs _ _ ho).1 rfl S.co S.gen rfl hcd' ?_;rw[hbind];refine wP (wpAny_newFunctionEnv S.Dt (λx hx=>by cases hx) (λh₁ hns hsb=>?_) S.kind);have hk:∀b o,s.heap.get? b=some o->h₁.get? b=some o:=λb o e=>hsb.extBut b o (Nat.ne_of_lt (Heap.lt_size e)) (gP e)
 refine⟨lim.keeps hk,?_⟩;show codeAny _ _ (.expr b (envX qual sc s.heap.objs.size c0 cv clos)) _ _;have I:=Us (E:=E) (qual:=qual) (f:=c0) (cd:=cv) (tk:=s.toks+0) S hr.hd e0 hcell hvs hv (by simpa using hns) hk;refine PySem.W.kla_codeExpr (wpAny_mono (hpe [] _ _ H Q I hq) (λv s' ⟨y,H',J,r,q⟩=>?_) λe s' z=>z);exact⟨y,H',J.os,J.bare,J.base,J.Ak,r,q⟩
end
def DE(n:Nat):List V:=match n / 1048576 with
 |0=>[]
 |v+1=>[.int v]
def WM(P:Program)(w:World)(K:PySem.W.Frag)(mg:Str->Option Value)(base:Heap)(W:Wd)(cf:CF)(k n:Nat):Prop:=(∃o fd,base.get? (W.C2 n)=some o/\o.data= .func fd)/\∀(A:Around) (outer:List PySem.Env) (s:Shared) (H:Hp) (Q:VK) (E:XK),B3 k A->FG P w K mg base A outer s H->
 IC W (cf (Ez n)) (.ref W.NB::DE n) H Q E->codeAny (model P w) A (.call (.ref (W.C2 n)) ⟨[],[]⟩) (L2.CR (Xc.DI P w) outer P w H s Q E) s
abbrev av(X:Cx)(W:Wd)(cf:CF)(k n:Nat):Prop:=WM X.prog X.w X.K X.mg X.base W cf k n
section
variable{cf:CF}{mt:MT}
variable{pos:Pos}
theorem Qg{i k:Nat}(hv:PE X (.Name x p) (Ej i))(hr:B3 k X.A):
 PE X (.Call (.Name x p) [] [] pos) (λσ H Q=>∃n,σ[i]? =some (some (.ref (W.C2 n)))/\av X W cf k n/\IC W (cf (Ez n)) (.ref W.NB::DE n) H Q (EE W (Ay X W) σ)):=by
 rintro pins s σ H Q I ⟨n,hs,⟨⟨o,fd,q1,q2⟩,hc⟩,h⟩
 refine wpAny_Call_Name_kw (AI (hv pins s σ H (λv H1=>v= .ref (W.C2 n)/\H1=H) I ⟨_,hs,rfl,rfl⟩) λv s1 ⟨y,H1,I1,r1,e1,e2⟩=>?_);subst e1;subst e2;cases r1;refine Calls.callWith_function (o:=o) (fd:=fd) (PySem.evalArgs_none ⟨⟨I1.bk _ _ q1,q2⟩,?_⟩);refine wpAny_call (codeAny_mono (hc X.A X.stack s1 H1 Q _ hr I1.YY h) λr s' hq=>?_);cases r with
 |error e=>exact Lk I1 hq
 |ok fl=>
   cases fl with
   |ret u=>exact I1.after hq
   |next=>exact False.elim hq
   |brk=>exact False.elim hq
   |cont=>exact False.elim hq
theorem GU(i:Nat)(ρ:Env):ev cf mt (.BH i) ρ=match A6 ρ i,A6 ρ 0 with
 |some (.b (.p (.fn n))),some (.obj c _)=>if n < Co\/c < 1000 then .stuck else Aq cf (Ez n) (.slot 0::Js n) ρ
 |_,_=>.stuck:=by
 show(den cf mt (.BH i)).v ρ=_
 conv=>lhs;unfold den
 all_goals rfl
theorem Uw{σ:L2.St}{H:Hp}{n:Nat}(h0:σ[0]? =some (some v)):B2 W σ H ρ (.slot 0::Js n) (v::DE n) []:=by
 refine⟨v,DE n,[],[],rfl,⟨h0,rfl⟩,?_,rfl⟩;unfold Js DE;generalize n/1048576=m;cases m with
 |zero=>exact⟨rfl,rfl⟩
 |succ m=>exact⟨.int m,[],[],[],rfl,⟨Ae.mpr rfl,rfl⟩,⟨rfl,rfl⟩,rfl⟩
theorem NA(hK:W.K=X.K)(hw:W.w=X.w){i k:Nat}(hv:PE X (.Name x p) (Ej i))(hr:B3 k X.A)(hc:∀n,Co<=n->W.ok n=true->av X W cf k n):
 Am X W cf mt (.Call (.Name x p) [] [] pos) (.BH i):=by
 refine Am.of hK hw (λ_ _=>rfl) (λρ=>by show(den cf mt (.BH i)).b ρ=(((den cf mt (.BH i)).v ρ).bind _).bind _;unfold den;rfl) rfl rfl (Ab (Qg (W:=W) (cf:=cf) hv hr) λσ H Q z=>?_) (λ_=>rfl) rfl;obtain⟨ρ,os,hR,hn,hA⟩:=z;rw[GU]at hA;split at hA
 .rename_i n c fs hg h0;split at hA
  .exact hA.elim
  .rename_i hcond;have hb:Co<=n:=Nat.le_of_not_lt λz=>hcond (.inl z)
   have hc1:1000<=c:=Nat.le_of_not_lt λz=>hcond (.inr z)
   obtain⟨v,o,q1,q2,_⟩:=hR.get hg;obtain⟨e1,e2⟩:=ET.mp q2.1;subst e1;have Ak:W.ok n=true:=e2.resolve_left (Nat.not_lt.mpr hb);obtain⟨v0,o0,r1,r2,_⟩:=hR.get h0;obtain⟨a,dx,vs,os',e3,_,_,_,_,_,e4⟩:=r2;have e5:=e4 hc1;subst e5;subst e3;refine⟨n,q1,hc n hb Ak,?_⟩;have:=F9 (cf:=cf) (f:=Ez n) (F:=λρ=>.ok (.slot 0::Js n) ρ) ⟨ρ,os,hR,hn,hA⟩;obtain⟨ρ',os2,hR2,hn2,hA2⟩:=this;exact hA2 _ H [] os2 (Uw r1) hR2 hn2 (AG.refl _ _)
 .exact hA.elim
end
theorem O.ER(h:O.same o p=true):o=p:=by
 unfold O.same at h;split at h
 .rfl
 .cases h
mutual
theorem T.ER:∀{t u:T},T.same t u=true->t=u
 | .cst p,u,h=>by
   cases u with
   |cst q=>exact congrArg T.cst (of_decide_eq_true (show decide (p=q)=true from by simpa[T.same]using h))
   |_=>simp[T.same]at h
 | .var i,u,h=>by
   cases u with
   |var j=>exact congrArg T.var (by simpa[T.same]using h)
   |_=>simp[T.same]at h
 | .prim o ts,u,h=>by
   cases u with
   |prim p us=>
     simp only[T.same,bA]at h;rw[O.ER h.1,T.EO h.2]
   |_=>simp[T.same]at h
 | .call f ts,u,h=>by
   cases u with
   |call g us=>
     simp only[T.same,bA]at h;rw[of_decide_eq_true h.1,T.EO h.2]
   |_=>simp[T.same]at h
 | .Au m o ts,u,h=>by
   cases u with
   |Au n p us=>
     simp only[T.same,bA]at h;rw[of_decide_eq_true h.1.1,T.ER h.1.2,T.EO h.2]
   |_=>simp[T.same]at h
 |.bor _,u,h=>by simp[T.same]at h
 |.fld _ _,u,h=>by simp[T.same]at h
 |.tup _,u,h=>by simp[T.same]at h
 |.lst _,u,h=>by simp[T.same]at h
 |.D2 _ _,u,h=>by simp[T.same]at h
 |.CY _ _ _,u,h=>by simp[T.same]at h
 |.YI _ _,u,h=>by simp[T.same]at h
 |.and _ _,u,h=>by simp[T.same]at h
 |.or _ _,u,h=>by simp[T.same]at h
 |.not _,u,h=>by simp[T.same]at h
 |.ite _ _ _,u,h=>by simp[T.same]at h
 |.make _ _,u,h=>by simp[T.same]at h
 |.FX _ _,u,h=>by simp[T.same]at h
 |.BH _,u,h=>by simp[T.same]at h
 |.C4 _ _ _ _,u,h=>by simp[T.same]at h
 |.comp _ _ _ _ _ _,u,h=>by simp[T.same]at h
theorem T.EO:∀{ts us:List T},T.FI ts us=true->ts=us
 | [],us,h=>by
   have h:us.isEmpty=true:=by simpa[T.FI]using h
   exact(List.isEmpty_iff.mp h).symm
 | t ::ts,us,h=>by
   cases us with
   |nil=>simp[T.FI]at h
   |cons u us=>
     simp only[T.FI,bA]at h;rw[T.ER h.1,T.EO h.2]
end
variable{n:Nat}
theorem LD{fi:EC}(h:G4 n t fi=true):fi=⟨n,n,[.ret (some t)]⟩:=by
 obtain⟨np,nl,body⟩:=fi;unfold G4 at h;dsimp only at h;split at h
 .rename_i u;simp only[bA,decide_eq_true_eq]at h;obtain⟨⟨h1,h2⟩,h3⟩:=h;rw[T.ER h1,h2,h3]
 .cases h
structure ZJ(W W':Wd):Prop where
 K:W.K=W'.K
 w:W.w=W'.w
 B7:W.B7=W'.B7
 tabs:W.tabs=W'.tabs
 C2:∀n,n < Co->W'.C2 n=W.C2 n
theorem ZJ.eq(h:ZJ W W'):RO W W':=⟨h.K,h.w,h.B7,h.tabs⟩
def Sw(tf tc:List (Str×Nat))(tg:List (Str×P))(LT:Nat->EC->Prop)(W:Wd)(base:Heap)(n:Nat):Prop:=
 ∃ (qual:Str) (as:Arguments) (b:Expr) (sc:Scope) (clos:List (Str×Addr)) (pm ctv:Value) (cc:Addr) (t:T),
   base.get? (W.C2 n)=some {cls:=.type "function",data:=.func (kla_fn "<lambda>" qual as b sc clos pm (.ref cc) ctv)}/\(cc,qual)∈W.aO/\RR (AX sc) sc clos/\noArgs as=true/\
   (∀x c,clos.lookup x=some c->∃u,base.IsCell c (some u))/\(V.ref W.NB::DE n).length=(AX sc).length/\
   (∀(i:Nat) (x:Str) (v:V),(AX sc)[i]? =some x->(V.ref W.NB::DE n)[i]? =some v->∃c u,clos.lookup x=some c/\base.IsCell c (some u)/\RelV v u)/\
   (AX sc).Nodup/\(∀x∈AX sc,sc.names.lookup x=some .free)/\kE (HZ sc tf tc tg) b=some t/\LT (Ez n) ⟨(AX sc).length,(AX sc).length,[.ret (some t)]⟩
structure fI(X:Cx)(W:Wd)(cf:CF)(mt:MT)(k:Nat)(tf tc:List (Str×Nat))(tg:List (Str×P))(lp:Pos)(l:Nat)(fi:EC):Prop where
 code:∃c P,X.env.code= .ref c/\codeHdIn X.K c P=true/\X.base.BuiltinsAt X.mg P/\mainGlobals≠P/\(P,lp,X.env.qual++"<lambda>")∈W.tabs
 nd:(W.tabs.map (·.1)).Nodup
 tag:∀c,W.B7 (tag c)=W.B7 c
 lt:∀c m f,mt.m c m=some f->f < Co
 run:∃LT:Nat->EC->Prop,LT l fi/\∀(W':Wd) (base':Heap),ZJ W W'->(∀b o,X.base.get? b=some o->base'.get? b=some o)->(∀n,Co<=n->W'.ok n=true->Sw tf tc tg LT W' base' n)->
  ∀c m f,mt.m c m=some f->∃fd ps,CD X.prog X.w X.K X.mg base' (Xc.DI X.prog X.w) k (W'.C2 f) fd ps (IC W' (cf f))/\Binds X.K fd ps []
theorem M9(l:Nat):Ey l none=1024*(l+1):=rfl
theorem Jr(l v:Nat):Ey l (some v)=1024*(l+1)+1048576*(v+1):=rfl
theorem UU(n:Nat):Ez n=n/1024%1024-1:=rfl
theorem Wz{l:Nat}(h:l < 1000)(cv:Option Nat):Ez (Ey l cv)=l:=by
 rw[UU];cases cv with
 |none=>rw[M9];omega
 |some v=>rw[Jr];omega
theorem WA{l:Nat}(cv:Option Nat):Co<=Ey l cv:=by
 have e:Co=1024:=rfl;rw[e];cases cv with
 |none=>rw[M9];omega
 |some v=>rw[Jr];omega
theorem Za(h:n/1048576=0):DE n=[]:=by unfold DE;rw[h]
theorem Z9{v:Nat}(h:n/1048576=v+1):DE n=[.int v]:=by unfold DE;rw[h]
theorem Z7{l:Nat}(h:l < 1000):DE (Ey l none)=[]:=Za (by rw[M9];omega)
theorem Z6{l v:Nat}(h:l < 1000):DE (Ey l (some v))=[.int v]:=Z9 (by rw[Jr];omega)
abbrev EN:Str:=Str.ofString "self"
theorem Fz{cells:List (Str×Addr)}{c:Addr}:∀(l:List (Str×NameKind)) (cs:List (Str×Addr)),(FR cells l cs).lookup x=some c->(∃y∈l,y.1=x/\y.2= .free)\/cs.lookup x=some c
 |[],cs,e=>.inr e
 | (n, k)::r,cs,e=>by
   unfold FR at e
   by_cases hk:(k == NameKind.free)=true
   .rw[iP hk]at e;rcases Fz r _ e with⟨y,h1,h2⟩|h
    .exact .inl ⟨y,mC h1,h2⟩
    .rw[lookup_cons]at h;cases hx:x == n with
     |true=>exact .inl ⟨(n,k),mS,(eq_of_beq hx).symm,eq_of_beq hk⟩
     |false=>rw[hx]at h;exact .inr h
   .rw[iN hk]at e;rcases Fz r _ e with⟨y,h1,h2⟩|h
    .exact .inl ⟨y,mC h1,h2⟩
    .exact .inr h
theorem Qu{y:Str×NameKind}(h:y∈sc.names)(hf:y.2= .free):y.1∈AX sc:=by
 unfold AX
 by_cases hs:y.1=Str.ofString "self"
 .rw[hs];exact mS
 .refine mC (mem_filter.mpr ⟨mem_map.mpr ⟨y,mem_filter.mpr ⟨h,by rw[hf];rfl⟩,rfl⟩,decide_eq_true hs⟩)
variable{cf:CF}
theorem GR{mt:MT}(m:Str)(i l:Nat)(CU:Option Nat)(ρ:Env):ev cf mt (.C4 m i l CU) ρ=Fp cf mt m i l CU ρ:=by
 show(den cf mt (.C4 m i l CU)).v ρ=_
 conv=>lhs;unfold den
 all_goals rfl
theorem O6{mt:MT}{i l:Nat}{CU:Option Nat}{ρ:Env}{P:Res C->Prop}(h:P (Fp cf mt m i l CU ρ))(hP:¬P .stuck):∃c fs cv f,A6 ρ i=some (.obj c fs)/\Ie ρ CU=some cv/\fs.lookup m=none/\mt.m c m=some f/\Bs fs=true/\
 ((∃x fs' rest,cf f [.obj (tag c) fs,.p (.fn (Ey l cv))]= .ok (.p x) (some (.obj (tag c) fs')::rest)/\noFn x=true/\Bs fs'=true/\P (.ok (.p x) (ρ.set i (some (.obj c fs')))))\/∃y p,cf f [.obj (tag c) fs,.p (.fn (Ey l cv))]= .err y p/\P (.err y p (ρ.set i none))):=by
 unfold Fp at h;split at h
 .rename_i c fs cv hg hc;split at h
  .rename_i f h1 h2;split at h
   .rename_i hp;split at h
    .rename_i x c' fs' rest hcf;split at h
     .rename_i hh;obtain⟨rfl,h3,h4⟩:=hh;exact⟨c,fs,cv,f,hg,hc,h1,h2,hp,.inl ⟨x,fs',rest,hcf,h3,h4,h⟩⟩
     .exact absurd h hP
    .rename_i y p hcf;exact⟨c,fs,cv,f,hg,hc,h1,h2,hp,.inr ⟨y,p,hcf,h⟩⟩
    .exact absurd h hP
   .exact absurd h hP
  .exact absurd h hP
 .exact absurd h hP
theorem T9{k:Nat}{fd:FuncData}{ps:List Str}{sp:Sp}{base':Heap}{σ:L2.St}{Q:VK}{E:XK}{us:List Value}{vs:List V}(F:CD X.prog X.w X.K X.mg base' (Xc.DI X.prog X.w) k f fd ps sp)(hr:B3 k X.A)(hb:Binds X.K fd ps [])
 (I:Inv X pins σ H s)(e0:FG X.prog X.w X.K X.mg base' X.A X.stack s H)(r:Vals vs us)(h:sp vs H Q E)(hx:∀e s',Xc.DI X.prog X.w X.stack H s E e s'->X.xe e s'):wpAny (model X.prog X.w) X.A (call (.ref f) us) (EP X pins σ Q) X.xe s:=by
 have hl:(us++[]).length=ps.length:=by rw[append_nil,<-r.length];exact F.len _ _ _ _ h
 have hb':=hb s us I.BX hl;rw[append_nil]at hb';refine wpAny_call (codeAny_mono (F.run X.A X.stack s H ⟨us,[]⟩ us vs Q E hr e0 hb' r h) λr s' hq=>?_);cases r with
 |error e=>exact hx e s' hq
 |ok fl=>
   cases fl with
   |ret u=>exact I.after hq
   |next=>exact False.elim hq
   |brk=>exact False.elim hq
   |cont=>exact False.elim hq
section
variable{cf:CF}{mt:MT}
theorem Na{pins:List (Addr×Obj)}{σ:L2.St}{H:Hp}{s:Shared}{i:Nat}{x:Str}(I:Inv X pins σ H s)(hN:X.N[i]? =some x)(hs:σ[i]? =some (some v))(hk:X.env.scope.names.lookup x=some .cell\/X.env.scope.names.lookup x=some .free):
 ∃c u,X.env.cells.lookup x=some c/\s.heap.IsCell c (some u)/\RelV v u:=by
 obtain⟨mm,_,hl⟩:=I.loc;obtain⟨u,r,lk⟩:=hl i x v hN hs (hk.elim (λz=>.inr (.inl z)) λz=>.inr (.inr z));rcases lk with⟨z,_⟩|⟨_,c,h1,h2⟩
 .have z:X.env.scope.names.lookup x=some .local:=z;rcases hk with y|y
  .rw[z]at y;cases y
  .rw[z]at y;cases y
 .exact⟨c,u,h1,h2,r⟩
theorem HG{a:Arguments}(h:noArgs a=true):a={posonlyargs:=[],args:=[],vararg:=none,kwonlyargs:=[],kw_defaults:=[],kwarg:=none,defaults:=[]}:=by
 obtain⟨a1,a2,a3,a4,a5,a6,a7⟩:=a;unfold noArgs at h;simp only[bA,List.isEmpty_iff,Option.isNone_iff_eq_none]at h;obtain⟨⟨⟨⟨⟨⟨h1,h2⟩,h3⟩,h4⟩,h5⟩,h6⟩,h7⟩:=h
 subst_vars
 rfl
structure FT(X:Cx)(sc:Scope)(CU:Option Nat):Prop where
 kind:sc.kind= .function
 co:sc.isCoroutine=false
 gen:sc.isGenerator=false
 own:∀y∈sc.names,y.2≠.cell/\y.2≠.local
 aE:∀y∈sc.names,y.2= .free->X.env.scope.names.lookup y.1=some .cell\/X.env.scope.names.lookup y.1=some .free
 nd:(AX sc).Nodup
 all:∀x∈AX sc,sc.names.lookup x=some .free
 CU:(CU=none/\AX sc=[EN])\/∃j y,CU=some j/\AX sc=[EN,y]/\X.N[j]? =some y
variable{sc:Scope}
theorem FT.mem{CU:Option Nat}(L:FT X sc CU){x:Str}(h:x∈AX sc):X.env.scope.names.lookup x=some .cell\/X.env.scope.names.lookup x=some .free:=
 L.aE (x,.free) (PySem.mem_of_lookup (L.all x h)) rfl
theorem Nw(hK:W.K=X.K)(hw:W.w=X.w){k:Nat}(M:gA X W cf mt k)(hr:B3 k X.A){tf tc:List (Str×Nat)}{tg:List (Str×P)}{i l:Nat}{CU:Option Nat}{m:Str}{as:Arguments}{lp apos pos:Pos}{fi:EC}{t:T}
 (hx:PE X (.Name EN p) (Ej i))(hi:X.N[i]? =some EN)(hfn:∀x,X.fn x=true)(S:FT X sc CU)(has:noArgs as=true)(ht:kE (HZ sc tf tc tg) b=some t)(hfi:fi=⟨(AX sc).length,(AX sc).length,[.ret (some t)]⟩)(hl:l < 1000)
 (F:fI X W cf mt k tf tc tg lp l fi)(hni:m≠Str.ofString "__init__")(hline:(apos.endLine == pos.line)=true):
 Am X W cf mt (.Call (.Attribute (.Name EN p) m apos) [.Lambda as b sc lp] [] pos) (.C4 m i l CU):=by
 refine Am.of hK hw (λ_ _=>rfl) (λρ=>by show(den cf mt (.C4 m i l CU)).b ρ=(((den cf mt (.C4 m i l CU)).v ρ).bind _).bind _;unfold den;rfl) rfl rfl ?_ (λ_=>rfl) rfl;intro pins s σ H Q I z;obtain⟨ρ,os,hR,hn,hA⟩:=z;rw[GR]at hA;obtain⟨c,fs,cv,f,hg,hcv,hl1,hl2,hpf,hcf⟩:=O6 (P:=λr=>BQ W (Ay X W) (rV W σ) H os σ r Q) hA λz=>z
 obtain⟨v,o,osr,t1,t2,t3,t4⟩:=hR.take hg;have t2':=t2;obtain⟨a,dx,vs,osf,rfl,q3,q4,q5,q6⟩:=t2';obtain⟨M1,M2,FS⟩:=M.Lu c m f hl2;have hm:=M2 hni;obtain⟨cc0,Pt,hcode,hhd,hblt,hgP,hq⟩:=F.code;obtain⟨LT,hLT,hrun⟩:=F.run;have hnd:=nA (t4.nodup_iff.mpr hn);have hpl:∀e∈[Expr.Lambda as b sc lp],AA e=true:=λe he=>by rw[mE he];rfl
 refine methodCall_KW (pl:=(do return (<-importBound (.Name EN p) X.env).getD true)) (AI (hx pins s σ H (λv H1=>v= .ref a/\H1=H) I ⟨_,t1,rfl,rfl⟩) λu s1 ⟨y,H1,I1,rx,ex,eH⟩=>?_) (IY hpl (by simp) hline);subst ex;subst eH;obtain rfl:u=Value.ref a:=rx;refine Et I1 q3 M1 hm (DT q4 hl1) ?_;refine callWith_K (first:=[.ref a]) (h₀:=X.base) I1.ok.mod.Of hm.kp ?_ (Aa rfl [] _) rfl;rw[Aa rfl [] X.env];show wpAny _ _ (spliced ((false,eval (.Lambda as b sc lp) X.env)::backTo pos (starEach [] X.env))) _ _ s1;have hfree:∀y∈sc.names,y.2= .free->∃c,X.env.cells.lookup y.1=some c:=λy hy e=>I1.ok.has y.1 (S.aE y hy e)
 have has':=HG has;refine Calls.spliced_cons (QE (clos:=FR X.env.cells sc.names []) I1 hR.tb F.nd hq (by rw[has'];rfl) (Cn hfree) hcode (codeHd_of_K I1.ok.mod.Of hhd) hblt hgP λc0 cc ctv s2 H2 I2 kp fr tb2 cd ho hc0 hc0n hold=>Calls.spliced_nil ⟨I2.BX,?_⟩);generalize hn0:Ey l cv=n0 at hcf;have hb0:Co<=n0:=by rw[<-hn0];exact WA cv
 let W':Wd:={W with C2:=λn=>if n=n0 then c0 else W.C2 n,ok:=λn=>decide (n=n0),NB:=a,aO:=(cc,X.env.qual++"<lambda>")::W.aO}
 have hst:ZJ W W':=⟨rfl,rfl,rfl,rfl,λn hn=>iN λz=>absurd (z▸hn) (Nat.not_lt.mpr hb0)⟩;have hwe:RO W W':=hst.eq
 let L:List Addr:=c0::(AX sc).filterMap λx=>X.env.cells.lookup x
 have hLm:∀x c,x∈AX sc->X.env.cells.lookup x=some c->c∈L:=λx c h1 h2=>mC (mem_filterMap.mpr ⟨x,h1,h2⟩)
 have e0 :FG X.prog X.w X.K X.mg (baseOf X.base s2.heap L) X.A X.stack s2 H2:=by
  refine Ow I2 (λb hb=>?_) λb hb hbf=>?_
  .rcases mK hb with z|z
   .rw[z];exact⟨_,ho,hc0n⟩
   .obtain⟨x,h1,h2⟩:=mem_filterMap.mp z;obtain⟨v,o,h3,_⟩:=I2.cell x b h2;exact⟨o,h3,I2.Cu x b h2⟩
  .rcases mK (I2.Gh b hbf)with y|y
   .rcases mK hb with z|z
    .have:=I1.lt;rw[<-y,z]at this;exact absurd this (Nat.not_lt.mpr hc0)
    .obtain⟨x,h1,h2⟩:=mem_filterMap.mp z;exact I2.SE x b h2 y
   .rcases mK hb with z|z
    .exact I1.Y7 hc0 (z▸y)
    .obtain⟨x,h1,h2⟩:=mem_filterMap.mp z;obtain⟨_,o,ho,_⟩:=I2.ok.E6.mem y;exact absurd (Heap.lt_size ho) (Nat.not_lt.mpr (I2.ok.Zb x b (hfn x) h2))
 have hvals:(V.ref a::DE n0).length=(AX sc).length/\∀(j:Nat) (y:Str) (w:V),(AX sc)[j]? =some y->(V.ref a::DE n0)[j]? =some w->∃c u,X.env.cells.lookup y=some c/\s2.heap.IsCell c (some u)/\RelV w u:=by
  have hself:∀y,y=EN->∃c u,X.env.cells.lookup y=some c/\s2.heap.IsCell c (some u)/\RelV (V.ref a) u:=λy e=>by
   rw[e];exact Na I2 hi t1 (S.mem (by unfold AX;exact mS))
  rcases S.CU with⟨e1,e2⟩|⟨j,y,e1,e2,e3⟩
  .subst e1;have hcv:some none=some cv:=hcv;cases hcv;have e4:DE n0=[]:=by rw[<-hn0];exact Z7 hl
   rw[e2,e4];refine⟨rfl,λj y w h1 h2=>?_⟩
   match j,h1,h2 with
   |0,h1,h2=>cases h1;cases h2;exact hself _ rfl
   |j+1,h1,h2=>cases h1
  .subst e1;unfold Ie at hcv;dsimp only at hcv;split at hcv
   .rename_i vi hgj;split at hcv
    .rename_i hvi;cases hcv
     have e4:DE n0=[.int vi]:=by
      rw[<-hn0,Z6 hl];simp only[List.cons.injEq,V.int.injEq,and_true]
      lia
     rw[e2,e4];refine⟨rfl,λj' y' w h1 h2=>?_⟩
     match j',h1,h2 with
     |0,h1,h2=>cases h1;cases h2;exact hself _ rfl
     |1,h1,h2=>
       cases h1;cases h2;obtain⟨vv,oo,g1,g2,_⟩:=hR.get hgj;have g3:vv= .int vi:=Ae.mp g2.1;subst g3;exact Na I2 e3 g1 (S.mem (by rw[e2];simp))
     |j'+2,h1,h2=>cases h1
    .cases hcv
   .cases hcv
 have clo_in:∀y c,(FR X.env.cells sc.names []).lookup y=some c->X.env.cells.lookup y=some c/\y∈AX sc:=λy c e=>by
  refine⟨F8 sc.names [] hfree (λ_ _ z=>by cases z) e,?_⟩;rcases Fz sc.names [] e with⟨z,h1,h2,h3⟩|h
  .rw[<-h2];exact Qu h1 h3
  .cases h
 have clo_at:∀y c,y∈AX sc->X.env.cells.lookup y=some c->(FR X.env.cells sc.names []).lookup y=some c:=λy c h e=>by
  obtain⟨d,hd⟩:=E1 (cells:=X.env.cells) (x:=y) sc.names [] (.inl ⟨(y,.free),PySem.mem_of_lookup (S.all y h),rfl,rfl⟩);rw[(clo_in y d hd).1]at e;cases e;exact hd
 have cellB:∀{y:Str} {c:Addr} {u:Value},y∈AX sc->X.env.cells.lookup y=some c->s2.heap.IsCell c (some u)->(baseOf X.base s2.heap L).IsCell c (some u):=λ{y c u} h1 h2 ⟨o,h3,h4⟩=>⟨o,Io (hLm y c h1 h2) h3,h4⟩
 obtain⟨hv1,hv2⟩:=hvals
 have hclo:Sw tf tc tg LT W' (baseOf X.base s2.heap L) n0:=by
  refine⟨X.env.qual++"<lambda>",as,b,sc,FR X.env.cells sc.names [],(X.mg "__name__").getD .none,ctv,cc,t,?_,mS,⟨S.kind,S.co,S.gen,λy hy=>(S.own y hy).1,λy e=>?_,λy z c h1 h2=>?_,λy e=>?_⟩,has,λy c e=>?_,hv1,λj y w h1 h2=>?_,S.nd,S.all,ht,?_⟩
  .show(baseOf X.base s2.heap L).get? (if n0=n0 then c0 else W.C2 n0)=_;rw[iP rfl];exact Io mS ho
  .exact(S.own _ (PySem.mem_of_lookup e)).2 rfl
  .exact I2.ok.inj y z c (clo_in y c h1).1 (clo_in z c h2).1
  .exact E1 sc.names [] (.inl ⟨(y,.free),PySem.mem_of_lookup e,rfl,rfl⟩)
  .obtain⟨h1,h2⟩:=clo_in y c e;obtain⟨j,hj⟩:=List.mem_iff_getElem?.mp h2;have hjl:j < (AX sc).length:=(List.getElem?_eq_some_iff.mp hj).1;obtain⟨c',u,g1,g2,_⟩:=hv2 j y _ hj (List.getElem?_eq_getElem (by rw[hv1];exact hjl));rw[h1]at g1;cases g1;exact⟨u,cellB h2 h1 g2⟩
  .obtain⟨c',u,g1,g2,g3⟩:=hv2 j y w h1 h2;have hy:=List.mem_of_getElem? h1;exact⟨c',u,clo_at y c' hy g1,cellB hy g1 g2,g3⟩
  .rw[<-hn0,Wz hl,<-hfi];exact hLT
 obtain⟨fd,ps,F1,F2⟩:=hrun W' (baseOf X.base s2.heap L) hst (λb o e=>H8 I2.bk e) (λn h1 h2=>by
  have:n=n0:=of_decide_eq_true h2
  rw[this];exact hclo) c m f hl2
 have hfad:W'.C2 f=W.C2 f:=hst.C2 f (F.lt c m f hl2);rw[hfad]at F1;have tag':∀c,W'.B7 (tag c)=W.B7 c:=F.tag;have r2:AQ W H2 (.obj c fs) (.ref a) o:=t2.frame kp ((fr []).but) λ_ _ z=>by cases z
 obtain⟨r3,ro⟩:=PC hwe tag' hpf rfl r2;subst ro
 have tbW:CV W' H2:=Nr hwe (λr hr=>by
  rcases mK hr with z|z
  .rw[z];exact cd
  .exact tb2.2 r z) tb2
 have t5:A4 W H2 (ρ.set i none) σ osr:=t3.frame tb2 kp ((fr []).but) λ_ _ z=>by cases z
 refine T9 (E:=EE W (Ay X W) σ) (us:=[.ref a,.ref c0]) (vs:=[.ref a,.ref c0]) F1 hr F2 I2 e0 (.cons rfl (.cons rfl .nil)) ⟨[.obj (tag c) fs,.p (.fn n0)],[a],?_,by simp,?_⟩ λe s' cx=>Lk I2 cx
 .refine⟨.ref a,_,[a],[],rfl,r3,⟨.ref c0,[],[],[],rfl,⟨ET.mpr ⟨?_,.inr (decide_eq_true rfl)⟩,rfl⟩,⟨rfl,rfl,tbW⟩,rfl⟩,rfl⟩;show V.ref c0= .ref (if n0=n0 then c0 else W.C2 n0);rw[iP rfl]
 rcases hcf with⟨x,fs',rest,hcf,hnx,hpf',hA⟩|⟨y,p,hcf,hA⟩
 rotate_left
 .rw[hcf];intro H' g2 g4;have tbB:CV W H':=⟨λq hq=>g2.tb.1 q hq,λq hq=>g2.tb.2 q (mC hq)⟩;have t6:A4 W H' (ρ.set i none) σ osr:=t5.frame tbB (g4.but.keep r2.own) g4.but λd hd z=>hnd.2.2 a mS d hd (mE z).symm
  exact⟨y,p,rfl,hA H' osr t6 hnd.2.1 ((fr os).trans (((g4.more osr).perm (perm_append_comm.trans t4) (.refl _)).sub λd hd=>mL hd))⟩
 .rw[hcf];intro u H' o' oos g1 g2 g3 g4;obtain⟨g5,rfl⟩:=(show Aw W' H' x u/\o'=[]from g1);obtain⟨w,r,o1,o2,ew,k1,k2,rfl⟩:=g2;cases ew;obtain⟨k3,_,rfl⟩:=Lb hwe tag' hpf' (λz=>(q6.2.2 z)) k1;have tbB:CV W H':=⟨λq hq=>k2.tb.1 q hq,λq hq=>k2.tb.2 q (mC hq)⟩;have k4:Hr [a] H2 H':=g4.but;have kp2:AE H2 H':=k4.keep r2.own;have t6:A4 W H' (ρ.set i none) σ osr:=t5.frame tbB kp2 k4 λd hd z=>hnd.2.2 a mS d hd (mE z).symm
  obtain⟨os2,u1,u2⟩:=A4.fill (c:=.obj c fs') (v:=.ref a) (o:=[a]) k3 t6 (Ba (BL hg)) (by rw[length_set];exact BL hg);rw[set_set,set_same t1]at u1
  have fr2:AG H2 H' ([a]++osr) ([a]++osr):=by
   have:=(g4.sub (os2:=[a]) λd hd=>by rw[mE hd];exact mS).more osr;exact this.perm perm_append_comm perm_append_comm
  refine hA u H' [] os2 ⟨DM hwe.symm hnx g5,rfl⟩ u1 (u2.nodup_iff.mpr (t4.nodup_iff.mpr hn)) ?_;exact(fr os).trans (fr2.perm t4 u2.symm)
end
structure fA(a b:Scope):Prop where
 loc:∀x,a.names.lookup x=some .local->b.names.lookup x=some .local
 gu:∀x,a.names.lookup x=some .cell->b.names.lookup x=some .cell
 aE:∀x,a.names.lookup x=some .free->b.names.lookup x=some .free\/b.names.lookup x=some .cell
 kG:∀x,a.names.lookup x=some .globalImplicit->b.names.lookup x=some .globalImplicit
theorem fA.refl(a:Scope):fA a a:=⟨λ_ h=>h,λ_ h=>h,λ_ h=>.inl h,λ_ h=>h⟩
theorem C5{env:PySem.Env}:∀{names:List (Str×NameKind)} {x:Str},names.lookup x=some .globalImplicit->
 (names.map λ(n,k)=>if(k == NameKind.free && env.scope.kind == .function && env.kindOf n == some .cell)then(n,NameKind.cell)else(n,k)).lookup x=some .globalImplicit
 |[],_,h=>by simp at h
 | (n,k)::r,x,h=>by
   have ih:=@C5 env r x;rw[map_cons];cases hx:x == n with
   |true=>
     simp only[lookup_cons,hx]at h;cases h;simp[lookup_cons,hx]
   |false=>
     simp only[lookup_cons,hx]at h;dsimp only;split
     .simp only[lookup_cons,hx];exact ih h
     .simp only[lookup_cons,hx];exact ih h
structure CW(ct:Ct)(X:Cx)(W:Wd)(cf:CF)(mt:MT)(k:Nat):Prop where
 K:W.K=X.K
 w:W.w=X.w
 N:X.N=ct.N
 nd:X.N.Nodup
 sc:fA ct.sc X.env.scope
 fn:ct.df=true->∀x,X.fn x=true
 calm:X.calm=true
 room:B3 (k+1) X.A
 po:PassesOwn (model X.prog X.w) X.A X.env X.xe
 gl:∀x p,ct.gl.lookup x=some p->∃u v,X.mg x=some u/\RelV v u/\∀H,Aw W H p v
 own:∀x∈Jv,ct.gl.lookup x=none->ct.fns.lookup x=none->ct.cls.lookup x=none->X.mg x=none
 fns:∀x f,ct.fns.lookup x=some f->X.mg x=some (.ref (W.C2 f))/\keepIn X.K (.ref (W.C2 f))=true/\ar X W cf k f
 cls:∀x c,ct.cls.lookup x=some c->X.mg x=some (.ref (W.B7 c))/\∀f,mt.m c (Str.ofString "__init__")=some f->Mk X.K (W.B7 c) (W.C2 f)
 Ye:gA X W cf mt k
 fld:∀c f,mt.f c f=true->Bu X.K (W.B7 c) f
 tf:∀n,mt.tf n=true->∃x,ct.fns.lookup x=some n
 lam:∀lp q,ct.QD.lookup lp=some q->fI X W cf mt k ct.fns ct.cls ct.gl lp q.1 q.2
 cl:ct.cv=true->∀n,Co<=n->W.ok n=true->av X W cf k n
section
variable{ct:Ct}{cf:CF}{mt:MT}{k:Nat}
theorem GP{l:List Str}{i:Nat}(h:l.idxOf? x=some i):l[i]? =some x:=by
 unfold List.idxOf? at h;obtain⟨h1,h2,_⟩:=List.findIdx?_eq_some_iff_getElem.mp h;rw[List.getElem?_eq_getElem h1];exact congrArg some (beq_iff_eq.mp h2)
theorem C8(h:Gy x=true):(x == ("__debug__":Str))=false/\(x == ("__classdict__":Str))=false/\x≠"__name__":=by
 unfold Gy at h;rw[bA,bA]at h;exact⟨by simpa using h.1.1,by simpa using h.1.2,of_decide_eq_true h.2⟩
theorem CW.slot(L:CW ct X W cf mt k){i:Nat}(h:ct.slot x=some i):X.N[i]? =some x/\aQ X.env.scope x/\(x == ("__debug__":Str))=false/\(x == ("__classdict__":Str))=false:=by
 unfold Ct.slot at h;split at h
 .rename_i hc;rw[bA]at hc;obtain⟨n1,n2,_⟩:=C8 hc.1;refine⟨by rw[L.N];exact GP h,?_,n1,n2⟩;have hs:=hc.2;unfold seen at hs;split at hs
  .rename_i e;exact .inl (L.sc.loc x e)
  .rename_i e;exact .inr (.inl (L.sc.gu x e))
  .rename_i e;rcases L.sc.aE x e with z|z
   .exact .inr (.inr z)
   .exact .inr (.inl z)
  .cases hs
 .cases h
theorem CW.Bj(L:CW ct X W cf mt k){i:Nat}(h:ct.Bj x=some i):X.N[i]? =some x/\Loc X.env.scope x/\(X.fn x=true\/X.env.scope.names.lookup x=some .local):=by
 unfold Ct.Bj at h;split at h
 .rename_i hc;rw[bA]at hc;refine⟨by rw[L.N];exact GP h,?_⟩;have hs:=hc.2;unfold bound at hs;split at hs
  .rename_i e;exact⟨.inl (L.sc.loc x e),.inr (L.sc.loc x e)⟩
  .rename_i e;exact⟨.inr (L.sc.gu x e),.inl (L.fn hs x)⟩
  .cases hs
 .cases h
theorem CW.glob(L:CW ct X W cf mt k)(h:ct.glob x=true):Gl X x/\(x == ("__debug__":Str))=false/\x≠"__name__":=by
 unfold Ct.glob at h;rw[bA]at h;obtain⟨n1,_,n3⟩:=C8 h.1;exact⟨L.sc.kG x (of_decide_eq_true h.2),n1,n3⟩
theorem CW.Qi(L:CW ct X W cf mt k)(h:ct.own x=true):Gl X x/\X.mg x=none/\(x == ("__debug__":Str))=false/\x≠"__name__":=by
 unfold Ct.own at h;simp only[bA]at h;obtain⟨⟨⟨⟨h1,h2⟩,h3⟩,h4⟩,h5⟩:=h;obtain⟨g1,g2,g3⟩:=L.glob h1;exact⟨g1,L.own x (by simpa using h2) (by simpa using h3) (by simpa using h4) (by simpa using h5),g2,g3⟩
theorem CW.un(L:CW ct X W cf mt k):X.A.units+200 < cLine:=by have:=L.room.un;lia
theorem CW.pv(L:CW ct X W cf mt k){i:Nat}(h:ct.slot x=some i):PE X (.Name x p) (Ej i):=by
 obtain⟨h1,h2,h3,h4⟩:=L.slot h;exact Fn h1 h2 h3 h4
variable{sc:Scope}
theorem CW.kf(L:CW ct X W cf mt k){N:List Str}{fr:List (Option Nat)}(h:RG ct.N ct.sc N sc fr=true):De X.N X.env.scope N sc fr:=by
 have h0:M7 ct.N ct.sc N sc fr=true:=h;have ok:=De.of h0;refine⟨ok.kind,ok.Dt,ok.own,λy hy e=>?_,ok.len,by rw[L.N];exact ok.Uy⟩;rcases ok.free y hy e with z|z
 .exact .inl (L.sc.gu _ z)
 .rcases L.sc.aE _ z with q|q
  .exact .inr q
  .exact .inl q
theorem lookup_mem{α:Type}{l:List (Str×α)}{a:α}(h:l.lookup x=some a):(x,a)∈l:=PySem.mem_of_lookup h
theorem CW.block(L:CW ct X W cf mt k)(h:RG ct.N ct.sc (ct.block sc).1.N sc (ct.block sc).2=true)(hn:(ct.block sc).1.N.Nodup)(C:Addr)(s:Shared)(H:Hp)(fp:List Addr):CW (ct.block sc).1 (AM X (ct.block sc).1.N sc C s H fp) W cf mt k:=by
 have ok:=L.kf h;refine⟨L.K,L.w,rfl,hn,⟨λx e=>?_,λx e=>?_,λx e=>?_,λx e=>?_⟩,λz=>(by cases z),L.calm,L.room,PassesOwn.never,L.gl,L.own,λx f e=>?_,L.cls,⟨λc m f e=>?_⟩,L.fld,L.tf,λlp q e=>(by cases e),L.cl⟩
 .exact lookup_relabel_local e
 .exact absurd rfl (ok.Dt _ (lookup_mem e))
 .exact Bt e
 .exact C5 e
 .obtain⟨h1,h2,h3⟩:=L.fns x f e;exact⟨h1,h2,⟨h3.ex⟩⟩
 .obtain⟨h1,h2,h3⟩:=L.Ye.Lu c m f e;exact⟨h1,h2,⟨h3.ex⟩⟩
theorem KO{es:List Expr}{env:PySem.Env}:assignEach (.Name x p::es) env=(false,assign (.Name x p) env)::assignEach es env:=rfl
theorem Q0(L:CW ct X W cf mt k):∀{es:List Expr} {is:List Nat},Oi ct es=some is->fB X es (dM is)/\(assignEach es X.env).length=is.length/\(assignEach es X.env).findIdx? (·.1)=none/\∀i∈is,i < X.N.length
 | [],is,h=>by
   unfold Oi at h;cases h;exact⟨TH,rfl,rfl,λi hi=>by cases hi⟩
 | e ::es,is,h=>by
   cases e with
   |Name x p=>
     unfold Oi at h;obtain⟨i,h1,h2⟩:=oB h;obtain⟨js,h3,rfl⟩:=oM h2;obtain⟨q1,q2,q3,q4⟩:=Q0 L h3;obtain⟨t1,t2,t3⟩:=L.Bj h1;refine⟨Q1 (MH L.nd t1 t2 t3) q1 rfl,by rw[KO,lC,lC,q2],?_,λj hj=>?_⟩
     .rw[KO,List.findIdx?_cons,q3];rfl
     .rcases mK hj with z|z
      .rw[z];exact(List.getElem?_eq_some_iff.mp t1).1
      .exact q4 j z
   |_=>unfold Oi at h;cases h
theorem Q2(L:CW ct X W cf mt k){tg:Expr}{g:Tg}(h:Wg ct tg=some g):PG X tg (gT W g)/\∀i∈g.slots,i < X.N.length:=by
 cases tg with
 |Name x p=>
   unfold Wg at h;obtain⟨i,h1,rfl⟩:=oM h;obtain⟨t1,t2,t3⟩:=L.Bj h1;refine⟨MH L.nd t1 t2 t3,λj hj=>?_⟩;rw[mE hj];exact(List.getElem?_eq_some_iff.mp t1).1
 |Tuple es n p=>
   unfold Wg at h;obtain⟨is,h1,rfl⟩:=oM h;obtain⟨q1,q2,q3,q4⟩:=Q0 L h1;refine⟨?_,q4⟩;show PG X (.Tuple es n p) (YJ W.K is.length (dM is));rw[L.K];exact XO L.calm q1 q2 q3
 |_=>unfold Wg at h;cases h
end
section
variable{cf:CF}{mt:MT}
theorem Wo(i:Nat)(f:Str)(ρ:Env):(∃x,Bi ρ i f=some (.b (.p x))/\ev cf mt (.prim .id [.fld i f]) ρ= .ok (.p x) ρ)\/ev cf mt (.prim .id [.fld i f]) ρ= .stuck:=by
 have e:ev cf mt (.prim .id [.fld i f]) ρ=(A8 cf mt [.fld i f] ρ).bind λhs ρ=>Res.of ((A9 ρ hs).bind (As .id)) ρ:=by
  show(den cf mt (.prim .id [.fld i f])).v ρ=_
  conv=>lhs;unfold den
  all_goals rfl
 rw[e,Kv];have e2:Bn (.fld i f) (ev cf mt (.fld i f)) ρ=if(Bi ρ i f).isSome then .ok (.fld i f) ρ else .stuck:=rfl
 rw[e2];cases hg:Bi ρ i f with
 |none=>exact .inr rfl
 |some c=>
   have e3:A9 ρ [.fld i f]=some [c]:=by
    show((Bi ρ i f).bind λc=>(some []).map (c::·))=_;rw[hg];rfl
   show(∃x,some c=some (.b (.p x))/\Res.of ((A9 ρ [.fld i f]).bind (As .id)) ρ= .ok (.p x) ρ)\/Res.of ((A9 ρ [.fld i f]).bind (As .id)) ρ= .stuck;rw[e3];cases c with
   |obj c fs=>exact .inr rfl
   |b b=>
     cases b with
     |p x=>exact .inl ⟨x,rfl,rfl⟩
     |_=>exact .inr rfl
theorem X9(hK:W.K=X.K)(hw:W.w=X.w){i:Nat}(nc:B5 e=false)(h:Am X W cf mt e (.fld i f)):Am X W cf mt e (.prim .id [.fld i f]):=by
 refine Am.Y2 hK hw Ax rfl rfl (Ab h.v λσ H Q z=>?_) (Em h.b λσ H Q z=>?_) h.st nc
 .obtain⟨ρ,os,hR,hn,hA⟩:=z;refine⟨ρ,os,hR,hn,?_⟩;rcases Wo (cf:=cf) (mt:=mt) i f ρ with⟨x,hg,e⟩|e
  .rw[e]at hA;rw[show ev cf mt (.fld i f) ρ=(match Bi ρ i f with|some c=>if c.cp then .ok c ρ else .stuck|none=>.stuck)from by show(den cf mt (.fld i f)).v ρ=_;unfold den;rfl,hg];exact hA
  .rw[e]at hA;exact hA.elim
 .obtain⟨ρ,os,hR,hn,hA⟩:=z;refine⟨ρ,os,hR,hn,?_⟩;rw[AR]at hA;rcases Wo (cf:=cf) (mt:=mt) i f ρ with⟨x,hg,e⟩|e
  .rw[e]at hA
   have e3:tv cf mt (.fld i f) ρ=((if(Bi ρ i f).isSome then Res.ok (Hd.fld i f) ρ else .stuck)).bind λh ρ=>Res.of ((h.cont ρ).bind Cw) ρ:=by
    show(den cf mt (.fld i f)).b ρ=_;unfold den;rfl
   rw[e3,hg];have e4:((Hd.fld i f).cont ρ)=some (.b (.p x)):=hg;show BQ W (Ay X W) (rB σ) H os σ (Res.of (((Hd.fld i f).cont ρ).bind Cw) ρ) Q;rw[e4];exact hA
  .rw[e]at hA;exact hA.elim
theorem JO(hK:W.K=X.K)(hw:W.w=X.w){x:T}(nc:∀i f,x= .fld i f->B5 e=false)(h:Am X W cf mt e x):Am X W cf mt e (MW x y):=by
 unfold MW;split
 .rename_i i f;split
  .exact h
  .exact X9 hK hw (nc i f rfl) h
 .exact h
end
section
variable{cf:CF}{mt:MT}
theorem Q9{t:TE}(h:PE X e t):PE X e (λσ H Q=>t σ H λv H1=>∃a u,v= .ref a/\H1 a=some u/\((∃xs,u= .lst xs)\/∃kvs,u= .dK kvs)/\∀o,Q v (upd H1 a (.Dl o u))):=by
 intro pins s σ H Q I z;refine AI (h pins s σ H _ I z) λw s1 ⟨v,H1,I1,r,a,u,e1,e2,e3,q⟩=>?_
 have Ak:=I1.Ak a u e2;obtain⟨o,ho⟩:=Xc.DQ Ak;refine⟨v,upd H1 a (.Dl o u),I1.write (x:=a) (e:=a) (t':=s1.toks) (by rw[e2];rcases e3 with⟨_,rfl⟩|⟨_,rfl⟩<;>trivial) (.inl rfl) (λb u hb q=>q) ⟨o,ho⟩ ⟨ho,?_⟩,r,q o⟩;rcases e3 with⟨_,rfl⟩|⟨_,rfl⟩<;>exact Ak
variable{H:Hp}
theorem Mm:upd (upd H a x) a y=upd H a y:=by
 funext b
 by_cases h:b=a
 .subst h;rw[Ac,Ac]
 .rw[A5 h,A5 h,A5 h]
theorem YV(ts:List T):ev cf mt (.Dl ts)=λρ=>if ts.length<=1000 then(Bd cf mt ts ρ).bind λps ρ=>.ok (.p (.box 0 ps)) ρ else .stuck:=funext λρ=>by
 show(den cf mt (.Dl ts)).v ρ=_
 conv=>lhs;unfold den
 all_goals rfl
variable{ts:List T}{pos:Pos}
theorem SW(hK:W.K=X.K)(hw:W.w=X.w){es:List Expr}(h:Am X W cf mt (.List es pos) (.lst ts)):Am X W cf mt (.List es pos) (.Dl ts):=by
 refine Am.of hK hw (λ_ _=>rfl) (λρ=>by show(den cf mt (.Dl ts)).b ρ=(((den cf mt (.Dl ts)).v ρ).bind _).bind _;unfold den;rfl) rfl rfl (Ab (Q9 h.v) λσ H Q z=>?_) (λ_=>rfl) rfl;obtain⟨ρ,os,hR,hn,hA⟩:=z;refine⟨ρ,os,hR,hn,?_⟩;rw[YV]at hA;rw[GS]
 by_cases hl:ts.length<=1000
 .simp only[iP hl]at hA ⊢;cases e1:Bd cf mt ts ρ with
  |stuck=>rw[e1]at hA;exact hA
  |err x p ρ'=>rw[e1]at hA;exact hA
  |ok ps ρ1=>
    rw[e1,Res.A2]at hA;intro v H1 o os1 r1 r2 r3 r4;obtain⟨a,vs,rfl,ha,rp,rfl⟩:=(show AQ W H1 (.lst ps) v o from r1);refine⟨a,_,rfl,ha,.inl ⟨_,rfl⟩,λob=>?_⟩
    have hk:AE H1 (upd H1 a (.Dl ob (.lst vs))):=λc=>by
     by_cases hc:c=a
     .subst hc;exact⟨λxs q=>(by rw[ha]at q;cases q),λo u q=>(by rw[ha]at q;cases q)⟩
     .rw[A5 hc];exact⟨λ_ q=>q,λ_ _ q=>q⟩
    have hb:Hr [a] H1 (upd H1 a (.Dl ob (.lst vs))):=Cb mS;have n3:=nA r3;refine hA (.ref a) _ [] os1 ⟨Dq.mpr ⟨a,ob,vs,rfl,rp.mono hk,.inl ⟨rfl,Ac⟩⟩,rfl⟩ (r2.frame (r2.tb.upd hk ha rfl) hk hb λc hc z=>n3.2.2 a mS c hc (mE z).symm) n3.2.1 ⟨λc x e n nt=>?_,λc hc=>r4.src c (mR hc),λc x e=>?_⟩
    .refine hb c x (r4.but c x e n nt) (λz=>?_) nt;rcases r4.src a mS with y|y
     .exact n (mE z▸y)
     .rw[mE z,y]at e;cases e
    .obtain⟨x',e'⟩:=r4.there c x e
     by_cases hc:c=a
     .subst hc;exact⟨_,Ac⟩
     .exact⟨x',by rw[A5 hc];exact e'⟩
 .simp only[iN hl]at hA;exact hA.elim
theorem Pd(hK:W.K=X.K)(hw:W.w=X.w)(h:Am X W cf mt e t):Am X W cf mt e (YK e t):=by
 unfold YK;split
 .exact SW hK hw h
 .exact h
theorem JM(hK:W.K=X.K)(hw:W.w=X.w):∀{es:List Expr} {ts:List T},Bm X W cf mt es ts->Bm X W cf mt es (Dk es ts)
 |_,_,.nil=>.nil
 |_,_,.cons h r=>.cons (Pd hK hw h) (JM hK hw r)
noncomputable def eu(a b:Int)(ps:List P)(ρ:Env):Res C:=match ps with
 |[x,y]=>.ok (.p (.box 1 [.int a,x,.int b,y])) ρ
 |_=>.stuck
theorem YW(a b:Int)(ts:List T):ev cf mt (.OJ a b ts)=λρ=>if a=b then .stuck else(Bd cf mt ts ρ).bind (eu a b):=funext λρ=>by
 show(den cf mt (.OJ a b ts)).v ρ=_
 conv=>lhs;unfold den
 all_goals rfl
variable{EX:XP}
theorem HX{t:T}{σ:L2.St}{Q:List V->Hp->Prop}(z:tG W EX (aA W) (Bd cf mt (t::ts)) σ H Q):tG W EX (rV W) (ev cf mt t) σ H λv H1=>tG W EX (aA W) (Bd cf mt ts) σ H1 λvs H2=>Q (v::vs) H2:=by
 rw[Fy]at z;refine B4 z λc ρ1 v H1 o1 os1 r1 r2 r3 r4 kp ef=>?_
 unfold Ky at r4;split at r4
 .rename_i x;have r1:AQ W H1 (.p x) v o1:=r1;obtain⟨r5,rfl⟩:=r1;refine B4 (rep':=aA W) (G:=λxs ρ=>.ok (x::xs) ρ) (Q:=Q) ⟨ρ1,os1,r2,r3,r4⟩ λxs ρ2 vs H2 o2 os2 s1 s2 s3 s4 kp2 _=>?_
  obtain⟨s5,rfl⟩:=s1;exact s4 (v::vs) H2 [] os2 ⟨A3.cons (r5.mono kp2) s5,rfl⟩ s2 s3 (AG.refl _ _)
 .exact False.elim r4
theorem Rk{x y:T}{σ:L2.St}{Q:VK}(z:tG W EX (rV W) (λρ=>(Bd cf mt [x,y] ρ).bind (eu a b)) σ H Q)(hab:a≠b)(hp:H p=none):
 tG W EX (aA W) (Bd cf mt [x,y]) σ (upd H p (.dK [])) λvs H3=>H3 p=some (.dK [])/\∃v1 v2,vs=[v1,v2]/\∀o,Q (.ref p) (upd H3 p (.Dl o (.dK [(.inl a,v1),(.inl b,v2)]))):=by
 obtain⟨ρ,os,hR,hn,hA⟩:=z;have sm:Bp H (upd H p (.dK [])):=λb o e=>by rw[A5 (Av e hp)];exact e
 have hpo:p∉os:=λz=>by obtain⟨x,e,_⟩:=hR.own p z;rw[hp]at e;cases e
 have f0:AG H (upd H p (.dK [])) os os:=AG.of sm λa ha=>.inl ha
 dsimp only at hA;refine⟨ρ,os,hR.same sm,hn,?_⟩;unfold BQ;cases eF:Bd cf mt [x,y] ρ with
 |stuck=>rw[eF]at hA;exact hA
 |err x p ρ'=>rw[eF]at hA;exact λH' os' r1 r2 r3=>hA H' os' r1 r2 (f0.trans r3)
 |ok ps ρ1=>
   rw[eF,Res.A2]at hA;intro vs H3 o1 os1 r1 r2 r3 r4;obtain⟨r5,rfl⟩:=r1;have hl:=F6 eF;obtain⟨p1,p2,rfl⟩:=O8 hl;obtain⟨v1,v2,rfl⟩:=O8 (r5.length.trans hl);have hp3:=r4.but p _ Ac hpo rfl
   have hp1:p∉os1:=λz=>by
    rcases r4.src p z with q|q
    .exact hpo q
    .rw[Ac]at q;cases q
   refine⟨hp3,v1,v2,rfl,λo=>?_⟩
   have hk:AE H3 (upd H3 p (.Dl o (.dK [(.inl a,v1),(.inl b,v2)]))):=λc=>by
    by_cases hc:c=p
    .subst hc;exact⟨λxs q=>(by rw[hp3]at q;cases q),λo u q=>(by rw[hp3]at q;cases q)⟩
    .rw[A5 hc];exact⟨λ_ q=>q,λ_ _ q=>q⟩
   have hb:Hr [p] H3 (upd H3 p (.Dl o (.dK [(.inl a,v1),(.inl b,v2)]))):=Cb mS;have hA:∀v H' o os',rV W σ H' ρ1 (.p (.box 1 [.int a,p1,.int b,p2])) v o->A4 W H' ρ1 σ os'->(o++os').Nodup->AG H H' os (o++os')->Q v H':=hA;obtain⟨_,_,e1,q1,r6⟩:=r5;cases e1;obtain⟨_,_,e2,q2,_⟩:=r6;cases e2;have f1:=f0.trans r4;refine hA (.ref p) _ [] os1 ⟨Dq.mpr ⟨p,o,[.int a,v1,.int b,v2],rfl,(A3.cons (Ae.mpr rfl) (A3.cons q1 (A3.cons (Ae.mpr rfl) (A3.cons q2 A3.nil)))).mono hk,.inr ⟨rfl,a,v1,b,v2,rfl,hab,Ac⟩⟩,rfl⟩ (r2.frame (r2.tb.upd hk hp3 rfl) hk hb λc hc z=>hp1 (mE z▸hc)) r3 ?_;refine⟨λc x e n nt=>?_,f1.src,λc x e=>?_⟩
   .rw[A5 (Av e hp)];exact f1.but c x e n nt
   .obtain⟨x',e'⟩:=f1.there c x e
    by_cases hc:c=p
    .subst hc;exact⟨_,Ac⟩
    .exact⟨x',by rw[A5 hc];exact e'⟩
theorem Yg{a b:Int}(h:a≠b)(v w:V):Ep [] [(.inl a,v),(.inl b,w)]=[(.inl a,v),(.inl b,w)]:=by
 unfold Ep putK;simp[h]
theorem SY(hK:W.K=X.K)(hw:W.w=X.w){e1 e2:Expr}{i j:Nat}(h:Bm X W cf mt [e1,e2] ts):Am X W cf mt (.Dict [some (.Constant (.int a) i p1),some (.Constant (.int b) j p2)] [e1,e2] pos) (.OJ a b ts):=by
 refine Am.of hK hw (λ_ _=>rfl) (λρ=>by show(den cf mt (.OJ a b ts)).b ρ=(((den cf mt (.OJ a b ts)).v ρ).bind _).bind _;unfold den;rfl) rfl rfl ?_ (λ_=>rfl) rfl;rw[YW];cases h with|cons h1 h=>cases h with|cons h2 h=>
 cases h
 by_cases hab:a=b
 .exact Ce λρ=>iP hab
 refine Ab (Q9 (TK (JY (Lj (j:=i) (pos:=p1)) h1.v (JY (Lj (j:=j) (pos:=p2)) h2.v Tv)) rfl rfl (by simp) (show(2:Nat)<=15 by decide))) λσ H Q z p hp=>?_
 simp only[iN hab]at z;have z:=HX (Rk z hab hp);refine Dn z λv H1 z=>?_
 refine Dn (HX z) λw H2 z=>?_
 obtain⟨ρ,os,hR,hn,hA⟩:=z;rw[DC]at hA;obtain⟨q1,v1,v2,e,q⟩:=hA [] H2 [] os ⟨A3.nil,rfl⟩ hR hn (AG.refl _ _);cases e;refine⟨q1,[(.inl a,v),(.inl b,w)],rfl,(show(2:Nat)<=15 by decide),p,_,rfl,Ac,.inr ⟨_,rfl⟩,λo=>?_⟩;rw[Mm,Yg hab];exact q o
theorem Xx{r:C}{Q:VK}(h1:CC W H c x)(h2:CC W H k y)(h3:CC W H d z)(e:LY c k d=some r)(q:E7 W H r Q):∃a,x= .ref a/\jL H a/\∃o,au H a y o/\Q (o.getD z) H:=by
 unfold LY at e;split at e
 case h_2=>cases e
 rename_i a u b w k d;split at e
 .cases e
 rename_i hab;cases e;obtain⟨ad,o,vs,rfl,rp,hb⟩:=Dq.mp (show Aw W H (.box 1 [.int a,u,.int b,w]) x from h1);cases Ae.mp (show Aw W H (.int k) y from h2);have h3:Aw W H d z:=h3;rcases hb with⟨hb,_⟩|⟨_,k1,v1,k2,v2,rfl,hk,hb⟩
 .cases hb
 obtain⟨_,_,e1,r1,rp⟩:=rp;cases e1;obtain⟨_,_,e2,r2,rp⟩:=rp;cases e2;obtain⟨_,_,e3,r3,rp⟩:=rp;cases e3;obtain⟨_,_,e4,r4,_⟩:=rp;cases e4;cases Ae.mp r1;cases Ae.mp r3;refine⟨ad,rfl,.inl ⟨_,.inr ⟨o,hb⟩⟩,_,.inl ⟨_,.inl k,.inr ⟨o,hb⟩,rfl,rfl⟩,?_⟩
 have e:∀p v,Aw W H p v->p=(if k=a then u else if k=b then w else d)->(EG [((Sum.inl a:Key),v1),(Sum.inl b,v2)] (Sum.inl k)).getD z=v->Q ((EG [((Sum.inl a:Key),v1),(Sum.inl b,v2)] (Sum.inl k)).getD z) H:=λp v r e1 e2=>by
  rw[e2];exact q v H [] (Bp.refl _) ⟨e1▸r,rfl⟩ (by simp) (λa ha=>by cases ha)
 by_cases hk1:k=a
 .subst hk1;exact e u _ r2 (by simp) (by simp[EG])
 .by_cases hk2:k=b
  .subst hk2;exact e w _ r4 (by simp[hk1]) (by simp[EG,Ne.symm hk1])
  .exact e d _ h3 (by simp[hk1,hk2]) (by simp[EG,Ne.symm hk1,Ne.symm hk2])
end
def Pk(W:Wd)(cf:CF)(mt:MT)(k:Nat)(e:Expr):Prop:=∀{ct:Ct} {X:Cx} {t:T},CW ct X W cf mt k->kE ct e=some t->Am X W cf mt e t
section
variable{cf:CF}{mt:MT}{k:Nat}
theorem none_of{α:Type}{a:α}{p:Prop}(h:(none:Option α)=some a):p:=by cases h
variable{n:Nat}{pos:Pos}
theorem V3{c:Const}:Pk W cf mt k (.Constant c n pos):=by
 intro ct X t L h;cases c with
 |none=>cases h;exact DK L.K L.w Li (λH=>By.mpr rfl) (λ_=>rfl) rfl
 |bool b=>cases h;exact DK L.K L.w cG (λH=>Bh.mpr rfl) (λ_=>rfl) rfl
 |int i=>cases h;exact DK L.K L.w Lj (λH=>Ae.mpr rfl) (λ_=>rfl) rfl
 |str x=>cases h;exact DK L.K L.w Q4 (λH=>AL.mpr rfl) (λ_=>rfl) rfl
 |_=>exact none_of h
theorem Zc:Pk W cf mt k (.Name x pos):=by
 intro ct X t L h;change ct.name x=_ at h;unfold Ct.name at h;cases hs:ct.slot x with
 |some i=>
   rw[hs]at h;cases h;obtain⟨h1,h2,h3,h4⟩:=L.slot hs;exact SN L.K L.w h1 h2 h3 h4
 |none=>
   rw[hs]at h;dsimp only at h;split at h
   .rename_i hg;cases hl:ct.gl.lookup x with
    |none=>
      rw[hl]at h;obtain⟨n,hf,h⟩:=oB h;split at h
      case isFalse=>cases h
      rename_i hn;cases h;obtain⟨g1,g2,g3⟩:=L.glob hg;obtain⟨q1,q2,_⟩:=L.fns x n hf;exact DK L.K L.w (DP (v:=.ref (W.C2 n)) g1 q1 rfl g2) (λH=>ET.mpr ⟨rfl,.inl hn⟩) (λ_=>rfl) rfl
    |some p=>
      rw[hl]at h;cases h;obtain⟨g1,g2,g3⟩:=L.glob hg;obtain⟨u,v,q1,q2,q3⟩:=L.gl x p hl;exact DK L.K L.w (DP g1 q1 q2 g2) q3 (λ_=>rfl) rfl
   .cases h
theorem Zk:Pk W cf mt k (.Attribute o f pos):=by
 intro ct X t L h;cases o with
 |Name x p=>
   obtain⟨i,hs,rfl⟩:=oM h;obtain⟨h1,h2,h3,h4⟩:=L.slot hs;exact SX L.K L.w h1 h2 h3 h4
 |_=>exact none_of h
variable{ct:Ct}{X:Cx}
theorem D9{es:List Expr}(ih:∀e∈es,Pk W cf mt k e)(L:CW ct X W cf mt k):∀{ts:List T},Je ct es=some ts->Bm X W cf mt es ts:=by
 induction es with
 |nil=>intro ts h;unfold Je at h;cases h;exact .nil
 |cons e es ihl=>
   intro ts h;unfold Je at h;obtain⟨t,h1,h2⟩:=oB h;obtain⟨us,h3,rfl⟩:=oM h2;exact .cons (ih e mS L h1) (ihl (λe he=>ih e (mC he)) h3)
theorem eM{es:List Expr}(ih:∀e∈es,Pk W cf mt k e):Pk W cf mt k (.Tuple es n pos):=by
 intro ct X t L h;obtain⟨ts,h1,rfl⟩:=oM h;exact SO L.K L.w (D9 ih L h1)
theorem eQ{es:List Expr}(ih:∀e∈es,Pk W cf mt k e):Pk W cf mt k (.List es pos):=by
 intro ct X t L h;obtain⟨ts,h1,rfl⟩:=oM h;exact SS L.K L.w (JM L.K L.w (D9 ih L h1))
theorem Ze{ks:List (Option Expr)}{vs:List Expr}(ih:∀e∈vs,Pk W cf mt k e):Pk W cf mt k (.Dict ks vs pos):=by
 intro ct X t L h;replace h:QM ks vs (Je ct vs)=some t:=h;unfold QM at h;split at h
 .obtain⟨ts,h1,rfl⟩:=oM h;exact SY L.K L.w (D9 ih L h1)
 .cases h
theorem Wi{i:Nat}(h:kE ct e=some (.fld i f)):B5 e=false:=by
 cases e with
 |ListComp elt gs sc pos=>
   rcases gs with _|⟨⟨tg,it,ifs,n⟩,_|⟨g2,gs⟩⟩
   .exact none_of h
   .obtain⟨_,_,h⟩:=oB h;obtain⟨_,_,h⟩:=oB h;obtain⟨_,_,h⟩:=oB h;obtain⟨_,_,h⟩:=oB h;split at h
    .cases h
    .cases h
   .exact none_of h
 |SetComp _ _ _ _=>exact none_of h
 |DictComp _ _ _ _ _=>exact none_of h
 |_=>rfl
theorem eX{op:Operator}(ha:Pk W cf mt k a)(hb:Pk W cf mt k b):Pk W cf mt k (.BinOp a op b pos):=by
 intro ct X t L h;obtain⟨o,h1,h2⟩:=oB h;obtain⟨x,h3,h4⟩:=oB h2;obtain⟨y,h5,rfl⟩:=oM h4;have sx:=JO (y:=y) L.K L.w (λi f e=>Wi (e▸h3)) (ha L h3);have sy:=hb L h5;cases op with
 |Add=>cases h1;exact DL L.K L.w rfl (cV L.K) (λ_ _=>rfl) rfl sx sy
 |Sub=>cases h1;exact DL L.K L.w rfl (cO (W:=W)) (λ_ _=>rfl) rfl sx sy
 |Mult=>cases h1;exact DL L.K L.w rfl (cR (W:=W)) (λ_ _=>rfl) rfl sx sy
 |Mod=>cases h1;exact DL L.K L.w rfl (cS (W:=W)) (λ_ _=>rfl) rfl sx sy
 |FloorDiv=>cases h1;exact DL L.K L.w rfl (Y5 (W:=W)) (λ_ _=>rfl) rfl sx sy
 |Pow=>cases h1;exact DL L.K L.w rfl (cP (W:=W)) (λ_ _=>rfl) rfl sx sy
 |BitAnd=>cases h1;exact EK L.K L.w rfl rfl rfl rfl
 |RShift=>cases h1;exact EK L.K L.w rfl rfl rfl rfl
 |_=>exact none_of h1
theorem jk{op:UnaryOp}(ha:Pk W cf mt k a):Pk W cf mt k (.UnaryOp op a pos):=by
 intro ct X t L h;cases op with
 |Not=>
   obtain⟨x,h1,rfl⟩:=oM h;exact SQ L.K L.w (ha L h1)
 |USub=>
   obtain⟨x,h1,rfl⟩:=oM h;exact SR L.K L.w (ha L h1)
 |_=>exact none_of h
variable{op:PySem.BoolOp}
theorem Wk(L:CW ct X W cf mt k):∀{es:List Expr} {t:T},(∀e∈es,Pk W cf mt k e)->kB ct op es=some t->Jy X W cf mt op es t/\(2<=es.length->∃x y,t= .and x y\/t= .or x y)
 |[],t,_,h=>by unfold kB at h;cases h
 | [e],t,ih,h=>by
   unfold kB at h;exact⟨.one (ih e mS L h),λz=>by simp at z⟩
 | e::e'::es,t,ih,h=>by
   unfold kB at h;obtain⟨x,h1,h2⟩:=oB h;obtain⟨y,h3,rfl⟩:=oM h2;have sx:=ih e mS L h1;have sy:=(Wk L (λe he=>ih e (mC he)) h3).1;cases op with
   |And=>exact⟨.and sx sy,λ_=>⟨x,y,.inl rfl⟩⟩
   |Or=>exact⟨.or sx sy,λ_=>⟨x,y,.inr rfl⟩⟩
theorem Zj{es:List Expr}(ih:∀e∈es,Pk W cf mt k e):Pk W cf mt k (.BoolOp op es pos):=by
 intro ct X t L h;change (if 2<=es.length then kB ct op es else none)=_ at h;split at h
 .rename_i hl;obtain⟨h1,h2⟩:=Wk L ih h;obtain⟨x,y,e⟩:=h2 hl;rcases e with rfl|rfl
  .exact Am.Y2 L.K L.w (λ_ _=>rfl) rfl rfl (h1.v pos) (PW.pt (h1.w pos)) rfl
  .exact Am.Y2 L.K L.w (λ_ _=>rfl) rfl rfl (h1.v pos) (PW.pt (h1.w pos)) rfl
 .cases h
theorem Z5(h1:∀a b,As o [a,b]=Cp o a b)(h2:As o []=none)(h3:∀a,As o [a]=none)(h4:∀a b c r,As o (a::b::c::r)=none):∀cs c,As o cs=some c->∃b,c= .p (.bl b):=by
 intro cs c e;rcases cs with _|⟨a,_|⟨b,_|⟨d,r⟩⟩⟩
 .rw[h2]at e;cases e
 .rw[h3]at e;cases e
 .rw[h1]at e;obtain⟨x,_,rfl⟩:=B0 e;exact⟨x,rfl⟩
 .rw[h4]at e;cases e
theorem Jq(op:CmpOp)(L:CW ct X W cf mt k):BP X (compareOp op) (BS W (Cp (Um op))):=by
 cases op with
 |Eq=>exact(Qn L.K L.w L.un).1
 |NotEq=>exact(Qn L.K L.w L.un).2
 |Lt=>exact iB
 |LtE=>exact iC
 |Gt=>exact iF
 |GtE=>exact iG
 |Is=>exact iD
 |IsNot=>exact cU
 |In=>exact iE
 |NotIn=>exact cQ
theorem Zh{op:CmpOp}(ha:Pk W cf mt k a)(hb:Pk W cf mt k b):Pk W cf mt k (.Compare a [op] [b] pos):=by
 intro ct X t L h;obtain⟨x,h3,h4⟩:=oB h;obtain⟨y,h5,rfl⟩:=oM h4;have sx:=JO (y:=y) L.K L.w (λi f e=>Wi (e▸h3)) (ha L h3);have sy:=hb L h5;have ho:=Jq op L;cases op<;>exact T1 L.K L.w rfl ho (λ_ _=>rfl) (Z5 (λ_ _=>rfl) rfl (λ_=>rfl) (λ_ _ _ _=>rfl)) rfl sx sy
theorem Zg{o1 o2:CmpOp}(ha:Pk W cf mt k a)(hb:Pk W cf mt k b)(hc:Pk W cf mt k c):Pk W cf mt k (.Compare a [o1,o2] [b,c] pos):=by
 intro ct X t L h;obtain⟨x,h3,h4⟩:=oB h;obtain⟨y,h5,h6⟩:=oB h4;obtain⟨z,h7,h8⟩:=oB h6;split at h8
 .rename_i p;split at h8
  .rename_i hp;cases h8;exact Nz L.K L.w rfl (Jq o1 L) (Jq o2 L) hp (ha L h3) (hb L h5) (hc L h7)
  .cases h8
 .cases h8
theorem eW{ops:List CmpOp}{cs:List Expr}(ha:Pk W cf mt k a)(ih:∀e∈cs,Pk W cf mt k e):Pk W cf mt k (.Compare a ops cs pos):=by
 rcases ops with _|⟨o1,_|⟨o2,_|⟨o3,os⟩⟩⟩
 .intro ct X t L h;rcases cs with _|⟨b,_|⟨c,_|⟨d,cs⟩⟩⟩<;>(exact none_of h)
 .rcases cs with _|⟨b,_|⟨c,cs⟩⟩
  .intro ct X t L h;exact none_of h
  .exact Zh ha (ih b mS)
  .intro ct X t L h;exact none_of h
 .rcases cs with _|⟨b,_|⟨c,_|⟨d,cs⟩⟩⟩
  .intro ct X t L h;exact none_of h
  .intro ct X t L h;exact none_of h
  .exact Zg ha (ih b mS) (ih c (mC mS))
  .intro ct X t L h;exact none_of h
 .intro ct X t L h;rcases cs with _|⟨b,_|⟨c,_|⟨d,cs⟩⟩⟩<;>(exact none_of h)
def Ps(W:Wd)(cf:CF)(mt:MT)(k:Nat)(e:Expr):Prop:=∀lo hi st p,e= .Slice lo hi st p->(∀x,lo=some x->Pk W cf mt k x)/\∀x,hi=some x->Pk W cf mt k x
theorem PY(h:AA b=true):Jz b:=by
 intro o i;cases b<;>first|rfl|cases h
theorem eN(hv:Pk W cf mt k v)(hi:Pk W cf mt k i)(hs:Ps W cf mt k i):Pk W cf mt k (.Subscript v i pos):=by
 intro ct X t L h
 have plain:((kE ct v).bind λx=>(kE ct i).map λy=>T.prim .idx [x,y])=some t->Am X W cf mt (.Subscript v i pos) t:=λh=>by
  obtain⟨x,h3,h4⟩:=oB h;obtain⟨y,h5,rfl⟩:=oM h4;have sy:=hi L h5;exact SV L.K L.w L.un (PY sy.st) (hv L h3) sy
 cases i with
 |Slice lo hi' st p=>
   cases st with
   |none=>
     obtain⟨x,h3,h4⟩:=oB h;obtain⟨l,h5,h6⟩:=oB h4;obtain⟨u,h7,rfl⟩:=oM h6;obtain⟨s1,s2⟩:=hs lo hi' none p rfl;have sx:=hv L h3;cases lo with
     |none=>
       unfold kO at h5;cases h5;cases hi' with
       |none=>unfold kO at h7;cases h7;exact Pj L.K L.w sx
       |some b=>
         unfold kO at h7;obtain⟨y,h8,rfl⟩:=oM h7;exact Pf L.K L.w sx (s2 b rfl L h8)
     |some a=>
       unfold kO at h5;obtain⟨y,h8,rfl⟩:=oM h5;cases hi' with
       |none=>unfold kO at h7;cases h7;exact Ph L.K L.w sx (s1 a rfl L h8)
       |some b=>
         unfold kO at h7;obtain⟨z,h9,rfl⟩:=oM h7;exact Pe L.K L.w sx (s1 a rfl L h8) (s2 b rfl L h9)
   |some st=>exact plain h
 |_=>exact plain h
end
section
variable{cf:CF}{mt:MT}
theorem eO:Bk X (.type "str") (AZ W (TX (Jg P5))):=by
 intro pins s σ H xs us Q I r h;obtain⟨x,c,r',rfl,h1,e,q⟩:=DO h;obtain⟨u,rfl,ru⟩:=vals1 r;unfold Jg at e;split at e
 .rename_i i;obtain⟨k,ek,rfl⟩:=oM e;unfold P5 at ek;split at ek
  case isFalse=>cases ek
  rename_i hl;cases ek;cases Ao h1;obtain⟨t,rfl⟩:=ru;exact PySem.P.str_of_int hl ⟨.str (toString i),H,I.tok _,⟨_,rfl⟩,q.plain (AL.mpr rfl)⟩
 .cases e
theorem eV:Bk X (.type "int") (AZ W (TX QS)):=by
 intro pins s σ H xs us Q I r h;obtain⟨x,c,r',rfl,h1,e,q⟩:=DO h;unfold QS at e;split at e
 .rename_i i;cases e;cases Ao h1;exact Ig pins s σ H _ us Q I r (.inl ⟨i,rfl,q.plain (Ae.mpr rfl)⟩)
 .rename_i y;split at e
  case isFalse=>cases e
  rename_i hd;cases e;rw[bA]at hd;have h2:=of_decide_eq_true hd.2;have hall:PySem.NumText.AllDigits y.cps.toList:=λc hc=>of_decide_eq_true (all_eq_true.mp hd.1 c hc)
  cases Bl h1;obtain⟨u,rfl,t,rfl⟩:=vals1 r
  have hne:y.cps.toList≠[]:=λz=>by
   have:y.cps.toList.length=y.length:=by show y.cps.toList.length=y.cps.size;simp
   rw[z]at this;have:=h2.1;simp at *
   lia
  exact PySem.W.KIN.call_text (PySem.intText_digits hall hne (by lia)) h2.2 ⟨.int (Bf y.cps.toList:Nat),H,I.tok _,⟨_,rfl⟩,q.plain (Ae.mpr rfl)⟩
 .rename_i b;cases e;cases My h1;exact Ig pins s σ H _ us Q I r (.inr ⟨b,rfl,q.plain (Ae.mpr rfl)⟩)
 .cases e
end
section
variable{cf:CF}{mt:MT}
theorem Gf{H:Hp}:∀{ps:List P} {vs:List V} {ns:List Str},A3 W H ps vs->strsOf ps=some ns->vs=ns.map V.str
 |[],vs,ns,h,e=>by unfold A3 at h;cases e;exact h
 | .str i::ps,vs,ns,h,e=>by
   unfold strsOf at e;obtain⟨ms,em,rfl⟩:=oM e;unfold A3 at h;obtain⟨v,r,rfl,h1,h2⟩:=h;cases AL.mp h1;rw[Gf h2 em];rfl
 |.Ai::_,_,_,_,e=>by cases e
 |.int _::_,_,_,_,e=>by cases e
 |.bl _::_,_,_,_,e=>by cases e
 |.tup _::_,_,_,_,e=>by cases e
 |.fn _::_,_,_,_,e=>by cases e
 |.box _ _::_,_,_,_,e=>by cases e
theorem Ek:∀{ys:List Str} {us:List Value},Vals (ys.map V.str) us->StrsAre us ys
 |[],us,h=>by cases h;exact .nil
 | y::ys,us,h=>by
   cases h with
   |cons r t=>obtain⟨tk,rfl⟩:=r;exact .cons y tk (Ek t)
theorem U7(hK:W.K=X.K)(hw:W.w=X.w)(z:Str):ZL X "str.join" (λx xs H Q=>x= .str z/\AZ W (TX (FO z)) xs H Q):=by
 intro pins s σ H x xs v us Q I rx r h;obtain⟨rfl,h⟩:=h;obtain⟨tz,rfl⟩:=rx;obtain⟨x,c,r',rfl,h1,e,q⟩:=DO h;obtain⟨u,rfl,ru⟩:=vals1 r;unfold FO at e;obtain⟨ys,e1,e2⟩:=oB e;obtain⟨ps,e3,e4⟩:=oB e1;split at e2
 case isFalse=>cases e2
 rename_i hb;cases e2;have hb2:(ys.map (·.length)).sum+ys.length*z.length<=16777216:=Nat.le_trans hb (by decide);unfold Hy at e3;split at e3
 .rename_i qs hn;cases e3;obtain⟨a,vs,rfl,k1,k2⟩:=C7 h1 hn;cases ru;obtain⟨its,rv,p,hz⟩:=I.list (hK▸k1);rw[Gf k2 e4]at rv;exact join_list p.isList (Ek rv) hb2 λt' k=>⟨.str (Kl z ys),H,I.tok k,⟨t',rfl⟩,q.plain (AL.mpr rfl)⟩
 .rename_i qs hn;cases e3;rw[Fo hn]at h1;obtain⟨a,vs,rfl,k1,k2⟩:=BI h1;cases ru;obtain⟨its,rv,p⟩:=Nu (hw▸I.Ak) (hK▸I.BX) k1;rw[Gf k2 e4]at rv;exact join_tuple p (Ek rv) hb2 λt' k=>⟨.str (Kl z ys),H,I.tok k,⟨t',rfl⟩,q.plain (AL.mpr rfl)⟩
 .cases e3
theorem Pb(hK:W.K=X.K)(hw:W.w=X.w){k:Nat}{apos pos:Pos}(hline:(apos.endLine == pos.line)=true)(h:Am X W cf mt a t):Am X W cf mt (.Call (.Attribute (.Constant (.str z) k p) "join" apos) [a] [] pos) (.prim (.join z) [t]):=by
 obtain⟨ta,q1,q3,m1⟩:=IT h;have hs:starEach [a] X.env=[(false,eval a X.env)]:=Aa h.st [] X.env;refine Am.of hK hw Ax AR rfl rfl (Ab (Qf PySem.F.plainAttrs_str PySem.F.slot_str_join PySem.F.type_str_join (U7 hK hw z) Q4 (AO q1 Cf hs) rfl (by rw[hs];rfl) hline hs rfl) λσ H Q z'=>?_) (λ_=>rfl) rfl;have z':=AS (o:=.join z) rfl z';rw[q3]at z';refine⟨rfl,?_⟩;refine m1 _ _ _ _ z' λv H1 y=>⟨rfl,?_⟩
 obtain⟨c,r,g1,g2,g3⟩:=D5 (g:=As (.join z)) (g1:=FO z) (λ_=>rfl) y;exact⟨[c],r,⟨v,[],rfl,g1,rfl⟩,g2,g3⟩
end
section
variable{cf:CF}{mt:MT}
theorem sw_eq{x y:Str}{i:Int}(h0:0<=i)(h1:i<=x.length):(decide (fromIndex x.length i + y.length<=x.length) && Builtin.Str.subAt x y (fromIndex x.length i))=decide ((x.cps.toList.drop i.toNat).take y.length=y.cps.toList):=by
 have e:fromIndex x.length i=i.toNat:=by
  unfold fromIndex;rw[iN (by lia),Int.max_eq_right h0]
 have hx:x.cps.toList.length=x.length:=by show x.cps.toList.length=x.cps.size;simp
 have hy:y.cps.toList.length=y.length:=by show y.cps.toList.length=y.cps.size;simp
 rw[e];unfold Builtin.Str.subAt
 by_cases h:(x.cps.toList.drop i.toNat).take y.length=y.cps.toList
 .rw[decide_eq_true h];have hl:=congrArg List.length h;rw[length_take,length_drop,hx,hy]at hl
  have e2:x.cps.extract i.toNat (i.toNat + y.length)=y.cps:=by
   rw[<-Array.toList_inj,Array.toList_extract,<-h];simp[List.extract]
  rw[e2,decide_eq_true (by lia)];simp
 .rw[dF h]
  have:(x.cps.extract i.toNat (i.toNat + y.length) == y.cps)=false:=by
   rw[beq_eq_false_iff_ne];intro z;refine h ?_;rw[<-z,Array.toList_extract];simp[List.extract]
  rw[this,Bool.and_false]
theorem da:ZL X "str.startswith" (λx xs H Q=>∃(a y:Str) (i:Int),x= .str a/\xs=[.str y,.int i]/\0<=i/\i<=a.length/\Q (.bl (decide ((a.cps.toList.drop i.toNat).take y.length=y.cps.toList))) H):=by
 intro pins s σ H x xs v us Q I rx r h;obtain⟨a,y,i,rfl,rfl,h0,h1,q⟩:=h;obtain⟨t,rfl⟩:=rx;obtain⟨u,w,rfl,⟨t2,rfl⟩,⟨t3,rfl⟩⟩:=vals2 r;refine call_gives PySem.F.slot_str_startswith (typeIs_str _ _ _) PySem.F.entry_str_startswith (PySem.F.args_str_startswith_3 _ _ _) (gives_str_startswith_from a y i t t2 t3) ?_;exact⟨.bl _,H,I,rfl,by rw[<-sw_eq h0 h1]at q;exact q⟩
theorem W3{H:Hp}{cs:List C}{a b c:V}(h:Cq W H cs [a,b,c]):∃x y z,cs=[x,y,z]/\CC W H x a/\CC W H y b/\CC W H z c:=by
 rcases cs with _|⟨x,_|⟨y,_|⟨z,_|⟨w,r⟩⟩⟩⟩
 .unfold Cq at h;cases h
 .obtain⟨_,_,e,_,h⟩:=h;cases e;unfold Cq at h;cases h
 .obtain⟨_,_,e,_,h⟩:=h;cases e;obtain⟨_,_,e,_,h⟩:=h;cases e;unfold Cq at h;cases h
 .obtain⟨_,_,e,h1,h⟩:=h;cases e;obtain⟨_,_,e,h2,h⟩:=h;cases e;obtain⟨_,_,e,h3,h⟩:=h;cases e;exact⟨x,y,z,rfl,h1,h2,h3⟩
 .obtain⟨_,_,e,_,h⟩:=h;cases e;obtain⟨_,_,e,_,h⟩:=h;cases e;obtain⟨_,_,e,_,h⟩:=h;cases e;obtain⟨_,_,e,_,h⟩:=h;cases e
theorem OK.x(hK:W.K=X.K){to:TE}(h:OK X W e o to):PE X e (tX W o):=by
 cases h with
 |nm h=>exact Ab h λσ H Q ⟨v,h1,h2⟩=>⟨v,h1,h2⟩
 |fl h=>exact Ab h λσ H Q ⟨v,⟨a,C,dx,fs,q1,q2,q3,q4,q5⟩,q⟩=>⟨.ref a,q1,a,C,dx,fs,v,rfl,q2,hK▸q3,hK▸q4,q5,q⟩
theorem X8(hK:W.K=X.K)(hw:W.w=X.w){x0 x y:T}{apos pos:Pos}(hbase:attributeBase o (Str.ofString "startswith") X.env (eval o X.env)=eval o X.env)(hline:(apos.endLine == pos.line)=true)(h0:PE X o (tX W x0))(h1:Am X W cf mt a x)(h2:Am X W cf mt b y)(hc:(x0.calm && x.calm && y.calm)=true):
 Am X W cf mt (.Call (.Attribute o (Str.ofString "startswith") apos) [a,b] [] pos) (.prim .sw [x0,x,y]):=by
 rw[bA,bA]at hc;obtain⟨⟨c0,c1⟩,c2⟩:=hc;have hs:starEach [a,b] X.env=[(false,eval a X.env),(false,eval b X.env)]:=by rw[Aa h1.st,Aa h2.st];rfl
 refine Am.of hK hw Ax AR rfl rfl (Ab (Qf PySem.F.plainAttrs_str PySem.F.slot_str_startswith PySem.F.type_str_startswith da h0 (AO (h1.x c1) (AO (h2.x c2) Cf (Aa h2.st [] _)) (Aa h1.st _ _)) hbase (by rw[hs];rfl) hline (Aa h1.st _ _) (Bv (λe he=>by rw[mE he];exact h2.st) pos _)) λσ H Q z=>?_) (λ_=>rfl) rfl;have z:=AS (o:=.sw) rfl z;unfold FH at z;rw[iP (by simp[c0,c1,c2])]at z;obtain⟨v0,r0,v1,r1,v2,r2,cs,c,g1,g2,g3⟩:=z;obtain⟨k0,k1,k2,rfl,d0,d1,d2⟩:=W3 g1;change az _ _ _=some c at g2;unfold az at g2;split at g2
 .rename_i xx yy ii;split at g2
  .rename_i hi;cases g2;cases Bl d0;cases Bl d1;cases Ao d2;exact⟨_,r0,rfl,_,r1,_,r2,xx,yy,ii,rfl,rfl,hi.1,hi.2,g3.bl⟩
  .cases g2
 .cases g2
end
section
variable{cf:CF}{mt:MT}
variable{pos:Pos}
theorem TL{i k:Nat}{e:Expr}{es:List Expr}{t:TA}(hv:PE X (.Name x p) (Ej i))(hr:B3 k X.A)(ha:PA X (e::es) t)(hpl:∀a∈e::es,AA a=true):
 PE X (.Call (.Name x p) (e::es) [] pos) (λσ H Q=>∃n,σ[i]? =some (some (.ref (W.C2 n)))/\keepIn X.K (.ref (W.C2 n))=true/\ar X W cf k n/\t σ H λvs H1=>IC W (cf n) vs H1 Q (EE W (Ay X W) σ)):=by
 rintro pins s σ H Q I ⟨n,hs,hk,F,h⟩
 obtain⟨fd,ps,F1,F2⟩:=F.ex;refine wpAny_Call_Name_kw (AI (hv pins s σ H (λv H1=>v= .ref (W.C2 n)/\H1=H) I ⟨_,hs,rfl,rfl⟩) λv s1 ⟨y,H1,I1,r1,e1,e2⟩=>?_);subst e1;subst e2;cases r1;refine callWith_K (h₀:=X.base) I1.ok.mod.Of hk (AI (ha pos pins s1 σ H1 _ I1 h) λus s2 ⟨vs,H2,I2,r,q⟩=>⟨I2.BX,?_⟩) (Aa (hpl e mS) es _) (Bv (λe he=>hpl e (mC he)) pos _);exact ES F1 hr F2 I2 r q
theorem UL(i:Nat)(ts:List T)(ρ:Env):ev cf mt (.FX i ts) ρ=match A6 ρ i with
 |some (.b (.p (.fn n)))=>if mt.tf n then(A8 cf mt ts ρ).bind λhs ρ=>Aq cf n hs ρ else .stuck
 |_=>.stuck:=by
 show(den cf mt (.FX i ts)).v ρ=_
 conv=>lhs;unfold den
 all_goals rfl
theorem Pp(hK:W.K=X.K)(hw:W.w=X.w){i k:Nat}{e:Expr}{es:List Expr}{ts:List T}(hv:PE X (.Name x p) (Ej i))(hr:B3 k X.A)(hf:∀n,mt.tf n=true->keepIn X.K (.ref (W.C2 n))=true/\ar X W cf k n)(h:Bm X W cf mt (e::es) ts):
 Am X W cf mt (.Call (.Name x p) (e::es) [] pos) (.FX i ts):=by
 refine Am.of hK hw (λ_ _=>rfl) (λρ=>by show(den cf mt (.FX i ts)).b ρ=(((den cf mt (.FX i ts)).v ρ).bind _).bind _;unfold den;rfl) rfl rfl (Ab (TL (W:=W) (cf:=cf) hv hr (Ds h) h.plain) λσ H Q z=>?_) (λ_=>rfl) rfl;obtain⟨ρ,os,hR,hn,hA⟩:=z;rw[UL]at hA;split at hA
 .rename_i n hg;split at hA
  .rename_i ht;obtain⟨g1,g2⟩:=hf n ht;obtain⟨v,o,q1,q2,_⟩:=hR.get hg;have e1:v= .ref (W.C2 n):=(ET.mp q2.1).1;subst e1;exact⟨n,q1,g1,g2,F9 ⟨ρ,os,hR,hn,hA⟩⟩
  .exact hA.elim
 .exact hA.elim
end
section
variable{cf:CF}{mt:MT}
theorem Pc(hK:W.K=X.K)(hw:W.w=X.w)(hu:X.A.units + 1 < cLine){x0 x y:T}{apos pos:Pos}(hbase:attributeBase o (Str.ofString "get") X.env (eval o X.env)=eval o X.env)(hline:(apos.endLine == pos.line)=true)(h0:PE X o (tX W x0))(h1:Am X W cf mt a x)(h2:Am X W cf mt b y)(hc:(x0.calm && x.calm && y.calm)=true):
 Am X W cf mt (.Call (.Attribute o (Str.ofString "get") apos) [a,b] [] pos) (.prim .Ot [x0,x,y]):=by
 rw[bA,bA]at hc;obtain⟨⟨c0,c1⟩,c2⟩:=hc;have hs:starEach [a,b] X.env=[(false,eval a X.env),(false,eval b X.env)]:=by rw[Aa h1.st,Aa h2.st];rfl
 refine Am.of hK hw Ax AR rfl rfl (Ab (Qb hu h0 (h1.x c1) (h2.x c2) ⟨hbase,by rw[hs];rfl,hline,by rw[hs];rfl⟩) λσ H Q z=>?_) (λ_=>rfl) rfl;have z:=AS (o:=.Ot) rfl z;unfold FH at z;rw[iP (by simp[c0,c1,c2])]at z;obtain⟨v0,r0,v1,r1,v2,r2,cs,c,g1,g2,g3⟩:=z;obtain⟨k0,k1,k2,rfl,d0,d1,d2⟩:=W3 g1;obtain⟨ad,rfl,q1,ov,q2,q3⟩:=Xx d0 d1 d2 g2 g3;exact⟨_,r0,ad,rfl,q1,_,r1,_,r2,ov,q2,q3⟩
end
section
variable{cf:CF}{mt:MT}{k:Nat}
theorem A7{α:Type}{c:Prop}[Decidable c]{a b:Option α}{t:α}(h:(if c then a else b)=some t):(c/\a=some t)\/(¬c/\b=some t):=by
 by_cases hc:c
 .rw[iP hc]at h;exact .inl ⟨hc,h⟩
 .rw[iN hc]at h;exact .inr ⟨hc,h⟩
variable{X:Cx}
theorem Bm.one{es:List Expr}{t:T}(h:Bm X W cf mt es [t]):∃e,es=[e]/\Am X W cf mt e t:=by
 cases h with
 |cons h r=>cases r;exact⟨_,rfl,h⟩
theorem Bm.two{es:List Expr}{t u:T}(h:Bm X W cf mt es [t,u]):∃e f,es=[e,f]/\Am X W cf mt e t/\Am X W cf mt f u:=by
 cases h with
 |cons h r=>
   obtain⟨f,rfl,h2⟩:=r.one;exact⟨_,f,rfl,h,h2⟩
variable{ct:Ct}{pos:Pos}
theorem WZ(L:CW ct X W cf mt k)(hg:Gl X "tuple")(hm:X.mg "tuple"=none){u:T}{p:Pos}(h:Am X W cf mt a t)(e:OT t=some u):Am X W cf mt (.Call (.Name "tuple" p) [a] [] pos) u:=by
 unfold OT at e;split at e
 .cases e
 .cases e;exact P7 L.K L.w rfl (V2 L.K) (Gx λ_=>rfl) KH hg hm (by decide) (by decide) rfl (.cons h .nil)
variable{ts:List T}
theorem Zr(L:CW ct X W cf mt k){es:List Expr}{t:T}(ho:ct.own x=true)(h:Bm X W cf mt es ts)(e:gv x ts=some t):Am X W cf mt (.Call (.Name x p) es [] pos) t:=by
 obtain⟨hg,hm,_,_⟩:=L.Qi ho;unfold gv at e
 match ts,h,e with
 |[u],h,e=>
   obtain⟨a,rfl,sa⟩:=h.one;rcases A7 e with⟨hx,e⟩|⟨_,e⟩
   .subst hx;cases e;exact Po L.K L.w rfl (eR L.K) (Gx λ_=>rfl) Zm hg hm (by decide) (by decide) rfl h
   rcases A7 e with⟨hx,e⟩|⟨_,e⟩
   .subst hx;exact WZ L hg hm sa e
   rcases A7 e with⟨hx,e⟩|⟨_,e⟩
   .subst hx;cases e;exact Po L.K L.w rfl (eY L.K L.calm) (Gx λ_=>rfl) Zo hg hm (by decide) (by decide) rfl h
   rcases A7 e with⟨hx,e⟩|⟨_,e⟩
   .subst hx;cases e;exact P7 L.K L.w rfl (eO (W:=W)) (Gx λ_=>rfl) RB hg hm (by decide) (by decide) rfl h
   rcases A7 e with⟨hx,e⟩|⟨_,e⟩
   .subst hx;cases e;exact P7 L.K L.w rfl (eV (W:=W)) (Gx λ_=>rfl) RC hg hm (by decide) (by decide) rfl h
   rcases A7 e with⟨hx,e⟩|⟨_,e⟩
   .subst hx;cases e;exact Hu hg hm h (.inl rfl)
   rcases A7 e with⟨hx,e⟩|⟨_,e⟩
   .subst hx;cases e;exact ID L.K hg hm sa
   .cases e
 |[u,v],h,e=>
   obtain⟨a,b,rfl,sa,sb⟩:=h.two;rcases A7 e with⟨hx,e⟩|⟨_,e⟩
   .subst hx;cases e;exact Po L.K L.w rfl (eP (W:=W) L.calm) (Y1 λ_ _=>rfl) Zl hg hm (by decide) (by decide) rfl h
   .cases e
 |[u,v,w],h,e=>
   rcases A7 e with⟨hx,e⟩|⟨_,e⟩
   .subst hx;cases e;exact Hu hg hm h (.inr (.inr rfl))
   .cases e
 |[],h,e=>cases e
 |_::_::_::_::_,h,e=>cases e
theorem Qt(L:CW ct X W cf mt k){i:Nat}(st:AA e=true)(nc:B5 e=false):Am X W cf mt e (.Au m (.fld i f) ts):=by
 have hv:∀ρ,ev cf mt (.Au m (.fld i f) ts) ρ= .stuck:=λρ=>by
  show(den cf mt (.Au m (.fld i f) ts)).v ρ=_;unfold den;rfl
 exact Am.not L.K L.w (λ_ _=>rfl) hv (λρ=>by
  show(den cf mt (.Au m (.fld i f) ts)).b ρ=_;unfold den
  rfl) rfl rfl st nc
variable{apos:Pos}
theorem Wh(L:CW ct X W cf mt k){to:TE}(hr:OK X W e o to){es:List Expr}{t:T}(Ak:OH m es.length apos pos=true)(h:Bm X W cf mt es ts)(hk:kM m o ts=some t):Am X W cf mt (.Call (.Attribute e m apos) es [] pos) t:=by
 unfold OH at Ak;rw[bA,bA]at Ak;obtain⟨⟨hline,hl⟩,hni⟩:=Ak;have hl:=of_decide_eq_true hl;have hni:=of_decide_eq_true hni;have bad:∀{o:O} {us:List T},o.ok=false->AW (.prim o us)=(.op,[.prim o us])->Am X W cf mt (.Call (.Attribute e m apos) es [] pos) (.prim o us):=λh1 h2=>EK L.K L.w h1 h2 rfl rfl
 have Au:t= .Au m o ts->Am X W cf mt (.Call (.Attribute e m apos) es [] pos) t:=λz=>by
  subst z;cases hr with
  |nm hx=>exact P9 L.K L.w L.Ye (L.room.mono (Nat.le_succ _)) hx hni hl hline h
  |fl hx=>exact Qt L rfl rfl
 unfold kM at hk;cases hb:jl m o ts with
 |none=>rw[hb]at hk;cases hk;exact Au rfl
 |some z=>
   rw[hb]at hk;cases hk;unfold jl at hb
   match ts,h,hb with
   |[],h,hb=>
     cases h;rcases A7 hb with⟨hx,hb⟩|⟨_,hb⟩
     .subst hx;cases hb;exact P8 L.K L.w U5 PySem.F.slot_list_pop PySem.F.type_list_pop Yf hr hline
     .cases hb
   |[u],h,hb=>
     obtain⟨a,rfl,sa⟩:=h.one;rcases A7 hb with⟨hx,hb⟩|⟨_,hb⟩
     .subst hx;cases hb;exact JN L.K L.w Lr PySem.F.slot_list_append PySem.F.type_list_append O4 hr hline sa
     rcases A7 hb with⟨hx,hb⟩|⟨_,hb⟩
     .subst hx;cases hb;exact JN L.K L.w (Lq L.K) PySem.F.slot_list_extend PySem.F.type_list_extend U8 hr hline sa
     .cases hb
   |[u,v],h,hb=>
     obtain⟨a,b,rfl,sa,sb⟩:=h.two;rcases A7 hb with⟨hx,hb1⟩|⟨_,hb⟩
     .rcases A7 hb1 with⟨hc,hb3⟩|⟨_,hb3⟩
      .cases hb3;subst hx;exact X8 L.K L.w (hr.base _ _) hline (hr.x L.K) sa sb hc
      .cases hb3
     rcases A7 hb with⟨hx,hb1⟩|⟨_,hb⟩
     .rcases A7 hb1 with⟨hc,hb3⟩|⟨_,hb3⟩
      .cases hb3;subst hx;exact Pc L.K L.w (by have:=L.room.un;lia) (hr.base _ _) hline (hr.x L.K) sa sb hc
      .cases hb3
     .cases hb
   |_::_::_::_,h,hb=>cases hb
theorem aY{t:Ty}(h:tyName y=some t):bootBuiltins y=some (.type (Mo t))/\∀cs,t≠.cls cs:=by
 unfold tyName at h;rcases A7 h with⟨hy,h⟩|⟨_,h⟩
 .subst hy;cases h;exact⟨RC,λ_ z=>by cases z⟩
 rcases A7 h with⟨hy,h⟩|⟨_,h⟩
 .subst hy;cases h;exact⟨V5,λ_ z=>by cases z⟩
 rcases A7 h with⟨hy,h⟩|⟨_,h⟩
 .subst hy;cases h;exact⟨RB,λ_ z=>by cases z⟩
 rcases A7 h with⟨hy,h⟩|⟨_,h⟩
 .subst hy;cases h;exact⟨KH,λ_ z=>by cases z⟩
 .cases h
variable{args:List Expr}
theorem V4(ih:∀e∈args,Pk W cf mt k e):Pk W cf mt k (.Call (.Name x p) args [] pos):=by
 intro ct X t L h;change (if ct.own x=true then(if x="isinstance" then dy ct (jZ ct args) args else(Je ct args).bind (gv x))else(Je ct args).bind (kN ct x))=some t at h;rcases A7 h with⟨ho,h⟩|⟨_,h⟩
 .rcases A7 h with⟨hx,h6⟩|⟨_,h⟩
  .clear h;subst hx
   match args,ih,h6 with
   |[],ih,h5=>exact none_of h5
   |[_],ih,h5=>exact none_of h5
   |[a, b],ih,h5=>
     cases b with
     |Name y q=>
       obtain⟨u,h1,h2⟩:=oB h5;obtain⟨ty,h3,rfl⟩:=oM h2;have sa:=ih a mS L h1;obtain⟨g1,g2,_,_⟩:=L.Qi ho;rcases A7 h3 with⟨hoy,h3⟩|⟨_,h3⟩
       .obtain⟨g3,g4,g5,g6⟩:=L.Qi hoy;obtain⟨t1,t2⟩:=aY h3;exact SU L.K L.w t2 t1 g3 g4 g6 g5 g1 g2 sa
       .obtain⟨cs,_,rfl⟩:=oM h3;exact EK L.K L.w rfl rfl rfl rfl
     |_=>exact none_of h5
   |_::b::_::_,ih,h5=>cases b<;>exact none_of h5
  .obtain⟨ts,h1,h2⟩:=oB h;exact Zr L ho (D9 ih L h1) h2
 .obtain ⟨ts,h1,h2⟩:=oB h;have hs:=D9 ih L h1;unfold kN at h2;cases hsl:ct.slot x with
  |some i=>
    rw[hsl]at h2;rcases A7 h2 with⟨he,h2⟩|⟨he,h2⟩
    .rcases A7 h2 with⟨hcv,h2⟩|⟨_,h2⟩
     .cases h2;cases hs with
      |nil=>
        exact NA L.K L.w (L.pv hsl) (L.room.mono (Nat.le_succ _)) (L.cl hcv)
      |cons a r=>cases he
     .cases h2
    .cases h2;cases hs with
     |nil=>exact absurd rfl he
     |cons a r=>exact Pp L.K L.w (L.pv hsl) (L.room.mono (Nat.le_succ _)) (λn ht=>by
      obtain⟨y,hy⟩:=L.tf n ht
      exact⟨(L.fns y n hy).2.1,(L.fns y n hy).2.2⟩) (.cons a r)
  |none=>
    rw[hsl]at h2;rcases A7 h2 with⟨hgl,h2⟩|⟨_,h2⟩
    .obtain⟨g1,g2,_⟩:=L.glob hgl;unfold Wj at h2;cases hf:ct.fns.lookup x with
     |some f=>
       rw[hf]at h2;cases h2;obtain⟨q1,q2,q3⟩:=L.fns x f hf;exact Pn L.K L.w q3 (L.room.mono (Nat.le_succ _)) g1 q1 q2 g2 hs
     |none=>
       rw[hf]at h2;obtain⟨c,hc,rfl⟩:=oM h2;obtain⟨q1,q2⟩:=L.cls x c hc;exact Pa L.K L.w L.Ye L.room g1 q1 q2 g2 hs
    .cases h2
theorem Ju(ih:∀e∈args,Pk W cf mt k e){t:T}(L:CW ct X W cf mt k)(h:(if OH m args.length apos pos then(ct.slot x).bind λi=>(Je ct args).bind (kM m (.var i))else none)=some t):Am X W cf mt (.Call (.Attribute (.Name x p) m apos) args [] pos) t:=by
 rcases A7 h with⟨Ak,h⟩|⟨_,h⟩
 .obtain⟨i,h1,h2⟩:=oB h;obtain⟨ts,h3,h4⟩:=oB h2;exact Wh L (.nm (L.pv h1)) Ak (D9 ih L h3) h4
 .cases h
theorem Zd{z:Str}{n:Nat}{p:Pos}{m:Str}{a:Expr}(ha:Pk W cf mt k a){t:T}(L:CW ct X W cf mt k)(h:(if m="join"/\OH m 1 apos pos=true then(kE ct a).map λt=>T.prim (.join z) [t]else none)=some t):Am X W cf mt (.Call (.Attribute (.Constant (.str z) n p) m apos) [a] [] pos) t:=by
 rcases A7 h with⟨⟨hm,Ak⟩,h2⟩|⟨_,h2⟩
 .obtain⟨u,h1,rfl⟩:=oM h2;clear h h2;subst hm;unfold OH at Ak;rw[bA,bA]at Ak;exact Pb L.K L.w Ak.1.1 (ha L h1)
 .cases h2
variable{sc:Scope}
theorem Ob(L:CW ct X W cf mt k){CU:Option Nat}(h:GG ct sc=some CU):(CU=none/\AX sc=[EN])\/∃j y,CU=some j/\AX sc=[EN,y]/\X.N[j]? =some y:=by
 unfold GG at h;unfold AX;split at h
 .rename_i e;cases h;rw[e];exact .inl ⟨rfl,rfl⟩
 .rename_i x e;obtain⟨j,h1,rfl⟩:=oM h;rw[e];exact .inr ⟨j,x,rfl,rfl,(L.slot h1).1⟩
 .cases h
theorem QF(L:CW ct X W cf mt k){CU:Option Nat}(h:MU ct.sc sc=true)(hc:GG ct sc=some CU):FT X sc CU:=by
 unfold MU at h;simp only[bA,all_eq_true,decide_eq_true_eq,Bool.not_eq_true']at h;obtain⟨⟨⟨⟨⟨⟨h1,h2⟩,h3⟩,h4⟩,h5⟩,h6⟩,h7⟩:=h;refine⟨by simpa using h1,h2,h3,λy hy=>by simpa using h4 y hy,λy hy e=>?_,h6,λx hx=>by simpa using h7 x hx,Ob L hc⟩;have:=h5 y hy;simp[e]at this;rcases this with z|z
 .exact .inl (L.sc.gu _ z)
 .exact(L.sc.aE _ z).symm
theorem eS{x:Str}{lp:Pos}{a:Arguments}(L:CW ct X W cf mt k)(h:(if OH m 1 apos pos && noArgs a && MU ct.sc sc && ct.df && decide (x=Str.ofString "self")then(ct.slot x).bind λi=>(ct.QD.lookup lp).bind λq=>(GG ct sc).bind λc=>
 (kE (HZ sc ct.fns ct.cls ct.gl) b).bind λt=>if G4 (AX sc).length t q.2 && decide (q.1 < 1000)then some (T.C4 m i q.1 c)else none else none)=some t):Am X W cf mt (.Call (.Attribute (.Name x p) m apos) [.Lambda a b sc lp] [] pos) t:=by
 rcases A7 h with⟨hc,h2⟩|⟨_,h2⟩
 .clear h;simp only[bA,decide_eq_true_eq]at hc;obtain⟨⟨⟨⟨Ak,hna⟩,hlo⟩,hdf⟩,hx⟩:=hc;obtain⟨i,h3,h4⟩:=oB h2;obtain⟨q,h5,h6⟩:=oB h4;obtain⟨CU,h7,h8⟩:=oB h6;obtain⟨u,h9,h10⟩:=oB h8;rcases A7 h10 with⟨hl,h11⟩|⟨_,h11⟩
  .cases h11;simp only[bA,decide_eq_true_eq]at hl;unfold OH at Ak;rw[bA,bA]at Ak;obtain⟨⟨hline,_⟩,hni⟩:=Ak;subst hx;exact Nw L.K L.w L.Ye (L.room.mono (Nat.le_succ _)) (L.pv h3) (L.slot h3).1 (L.fn hdf) (QF L hlo h7) hna h9 (LD hl.1) hl.2 (L.lam lp q h5) (of_decide_eq_true hni) hline
  .cases h11
 .cases h2
theorem Zi{kws:List Keyword}(ih:∀e∈args,Pk W cf mt k e):Pk W cf mt k (.Call f args kws pos):=by
 cases kws with
 | cons q r=>intro ct X t L h;cases f with
   | Attribute o m apos=>cases o with
     |Attribute o2 f2 q2=>cases o2<;>(exact none_of h)
     |Constant c n p=>cases c<;>(rcases args with _|⟨a,_|⟨b,r2⟩⟩<;>exact none_of h)
     |Name x p=>
       rcases args with _|⟨a,_|⟨b,r2⟩⟩
       .exact none_of h
       .cases a<;>exact none_of h
       .cases a<;>exact none_of h
     |_=>exact none_of h
   |_=>exact none_of h
 |nil =>
   cases f with
   |Name x p=>exact V4 ih
   |Attribute o m apos=>
     intro ct X t L h;cases o with
     |Name x p=>
       rcases args with _|⟨a,_|⟨b,r⟩⟩
       .exact Ju ih L h
       .cases a with
        |Lambda as b sc lp=>exact eS L h
        |_=>exact Ju ih L h
       .cases a<;>exact Ju ih L h
     |Attribute o2 g q2=>
       cases o2 with
       |Name x p=>
         have h:(if OH m args.length apos pos then(ct.slot x).bind λi=>(Je ct args).bind (kM m (.fld i g))else none)=some t:=h;rcases A7 h with⟨Ak,h⟩|⟨_,h⟩
         .obtain⟨i,h1,h2⟩:=oB h;obtain⟨ts,h3,h4⟩:=oB h2;exact Wh L (.fl (Qa (L.pv h1) rfl)) Ak (D9 ih L h3) h4
         .cases h
       |_=>exact none_of h
     |Constant c n p=>
       cases c with
       |str z=>
         rcases args with _|⟨a,_|⟨b,r⟩⟩
         .exact none_of h
         .exact Zd (ih a mS) L h
         .exact none_of h
       |_=>exact none_of h
     |Call f2 a2 k2 p2=>
       cases h;exact EK L.K L.w rfl rfl rfl rfl
     |_=>exact none_of h
   |_=>intro ct X t L h;exact none_of h
noncomputable def Pg(W:Wd)(cf:CF)(mt:MT)(k:Nat):Comprehension->Prop
 |⟨_,it,ifs,_⟩=>Pk W cf mt k it/\∀e∈ifs,Pk W cf mt k e
theorem Zf{elt:Expr}{gs:List Comprehension}(he:Pk W cf mt k elt)(hg:∀g∈gs,Pg W cf mt k g):Pk W cf mt k (.ListComp elt gs sc pos):=by
 intro ct X t L h;rcases gs with _|⟨⟨tg,it,ifs,n⟩,_|⟨g2,gs⟩⟩
 .exact none_of h
 .obtain⟨p1,p2⟩:=hg _ mS;obtain⟨x,h1,h⟩:=oB h;obtain⟨g,h2,h⟩:=oB h;obtain⟨cs,h3,h⟩:=oB h;obtain⟨e,h4,h⟩:=oB h;rcases A7 h with⟨hc,h⟩|⟨_,h⟩
  .cases h;rw[bA,bA,bA]at hc;obtain⟨⟨⟨c0,c1⟩,c2⟩,c3⟩:=hc;have c3:=of_decide_eq_true c3;have c0:=of_decide_eq_true c0;subst c0;refine Pm L.K L.w L.calm (L.kf c2) (p1 L h1) (of_decide_eq_true c1) λC s H fp=>?_
   have L2:=L.block c2 c3 C s H fp;exact⟨(Q2 L2 h2).1,he L2 h4,D9 p2 L2 h3⟩
  .cases h
 .exact none_of h
end
section
variable{cf:CF}{mt:MT}{k:Nat}
theorem Aj{e:Expr}(h:∀lo hi st p,e≠.Slice lo hi st p):Ps W cf mt k e:=λlo hi st p z=>absurd z (h lo hi st p)
theorem BA(h:∀ct,kE ct e=none):Pk W cf mt k e:=by
 intro ct X t L z;rw[h]at z;cases z
mutual
theorem Di:∀e:Expr,Pk W cf mt k e/\Ps W cf mt k e
 |.Constant c n pos=>⟨V3,Aj (λ_ _ _ _ z=>by cases z)⟩
 |.Name x pos=>⟨Zc,Aj (λ_ _ _ _ z=>by cases z)⟩
 |.Attribute o f pos=>⟨Zk,Aj (λ_ _ _ _ z=>by cases z)⟩
 |.Tuple es n pos=>⟨eM (EV es),Aj (λ_ _ _ _ z=>by cases z)⟩
 |.List es pos=>⟨eQ (EV es),Aj (λ_ _ _ _ z=>by cases z)⟩
 |.Dict ks vs pos=>⟨Ze (EV vs),Aj (λ_ _ _ _ z=>by cases z)⟩
 |.BinOp a op b pos=>⟨eX (Di a).1 (Di b).1,Aj (λ_ _ _ _ z=>by cases z)⟩
 |.UnaryOp op a pos=>⟨jk (Di a).1,Aj (λ_ _ _ _ z=>by cases z)⟩
 |.BoolOp op es pos=>⟨Zj (EV es),Aj (λ_ _ _ _ z=>by cases z)⟩
 |.Compare a ops cs pos=>⟨eW (Di a).1 (EV cs),Aj (λ_ _ _ _ z=>by cases z)⟩
 |.IfExp c a b pos=>⟨BA λ_=>rfl,Aj (λ_ _ _ _ z=>by cases z)⟩
 |.Subscript v i pos=>⟨eN (Di v).1 (Di i).1 (Di i).2,Aj (λ_ _ _ _ z=>by cases z)⟩
 | .Slice lo hi st p=>⟨BA λ_=>rfl,λlo' hi' st' p' z=>by
  cases z
  exact⟨cH lo,cH hi⟩⟩
 |.Call f args kws pos=>⟨Zi (EV args),Aj (λ_ _ _ _ z=>by cases z)⟩
 |.ListComp elt gs sc pos=>⟨Zf (Di elt).1 (W9 gs),Aj (λ_ _ _ _ z=>by cases z)⟩
 |.NamedExpr a b c=>⟨BA λ_=>rfl,Aj (λ_ _ _ _ z=>by cases z)⟩
 |.Lambda a b c d=>⟨BA λ_=>rfl,Aj (λ_ _ _ _ z=>by cases z)⟩
 |.Set a b c=>⟨BA λ_=>rfl,Aj (λ_ _ _ _ z=>by cases z)⟩
 |.SetComp a b c d=>⟨BA λ_=>rfl,Aj (λ_ _ _ _ z=>by cases z)⟩
 |.DictComp a b c d e=>⟨BA λ_=>rfl,Aj (λ_ _ _ _ z=>by cases z)⟩
 |.GeneratorExp a b c d=>⟨BA λ_=>rfl,Aj (λ_ _ _ _ z=>by cases z)⟩
 |.Await a b=>⟨BA λ_=>rfl,Aj (λ_ _ _ _ z=>by cases z)⟩
 |.Yield a b=>⟨BA λ_=>rfl,Aj (λ_ _ _ _ z=>by cases z)⟩
 |.YieldFrom a b=>⟨BA λ_=>rfl,Aj (λ_ _ _ _ z=>by cases z)⟩
 |.FormattedValue a b c d=>⟨BA λ_=>rfl,Aj (λ_ _ _ _ z=>by cases z)⟩
 |.JoinedStr a b=>⟨BA λ_=>rfl,Aj (λ_ _ _ _ z=>by cases z)⟩
 |.Starred a b=>⟨BA λ_=>rfl,Aj (λ_ _ _ _ z=>by cases z)⟩
theorem EV:∀es:List Expr,∀e∈es,Pk W cf mt k e
 |[],e,h=>nomatch h
 | x::xs,e,h=>by
   rcases mK h with z|z
   .rw[z];exact(Di x).1
   .exact EV xs e z
theorem cH:∀o:Option Expr,∀e,o=some e->Pk W cf mt k e
 |none,e,h=>nomatch h
 |some x,e,h=>by cases h;exact(Di x).1
theorem W9:∀gs:List Comprehension,∀g∈gs,Pg W cf mt k g
 |[],g,h=>nomatch h
 | x::xs,g,h=>by
   rcases mK h with z|z
   .rw[z];exact iy x
   .exact W9 xs g z
theorem iy:∀g:Comprehension,Pg W cf mt k g
 |⟨tg,it,ifs,a⟩=>⟨(Di it).1,EV ifs⟩
end
end
def Su(K:PySem.W.Frag)(C D n1 n2 n3:Addr):Prop:=∃bm bd,(∀h:Heap,K.In h->Xc.Df h C bm)/\(∀h:Heap,K.In h->Xc.Df h D bd)/\bm.contains (.ref D)=true/\Xc.Hk K C n1 n2 n3
structure Vh(ct:Ct)(X:Cx)(W:Wd):Prop where
 st:X.stack=X.env::X.outer
 fr:X.env.frame=some X.env.locals
 rm:B3 4 X.A
 xk:∀c,ct.cls.lookup Y9=some c->∃f sf st fd,Xc.Xk X.K (W.B7 c) f sf st fd
 xh:∀c cd n1 n2 n3,ct.cls.lookup Y9=some c->ct.cls.lookup ("DeedsError":Str)=some cd->ct.cls.lookup ("NoProgram":Str)=some n1->ct.cls.lookup ("NoSuch":Str)=some n2->ct.cls.lookup ("Twice":Str)=some n3->Su X.K (W.B7 c) (W.B7 cd) (W.B7 n1) (W.B7 n2) (W.B7 n3)
theorem A4.unset:∀{ρ:Env} {σ:L2.St} {os:List Addr} {i:Nat},A4 W H (ρ.set i none) σ os->A4 W H (ρ.set i none) (σ.set i none) os
 |[],σ,os,i,⟨h1,h2⟩=>by subst h1;exact⟨rfl,h2⟩
 |x::ρ,σ,os,0,⟨y,r,e,h⟩=>by subst e;exact⟨none,r,rfl,h⟩
 |none::ρ,σ,os,i+1,⟨y,r,e,h⟩=>by subst e;exact⟨y,r.set i none,rfl,A4.unset h⟩
 |some c::ρ,σ,os,i+1,⟨v,r,o1,o2,e,h1,h2,h3⟩=>by subst e;exact⟨v,r.set i none,o1,o2,rfl,h1,A4.unset h2,h3⟩
section
variable{cf:CF}{mt:MT}{k:Nat}
theorem M3(i f:Nat)(ts:List T)(c g e:Nat):exec cf mt A1 (.SG i f ts c g e)=λρ=>if mt.rs && ts.all T.calm then(A8 cf mt ts ρ).bind (KD cf i f c g e)else .stuck:=rfl
noncomputable def eh(W:Wd)(D:Ends)(σ:L2.St)(c g e:Nat)(u:HO):XK:=λcls _ H2=>cls= .ref (W.B7 c)/\∀t,H2 t=none->D.nx ((σ.set g (some (.bl true))).set e none) (upd H2 t u)
theorem V0{i f c g e:Nat}{ts:List T}{D:Ends}{σ:L2.St}{H:Hp}{xs:List V}(hi:i < σ.length)(hg:g < σ.length)(h:tS W (Ay X W) [i,g,e] (exec cf mt A1 (.SG i f ts c g e)) D σ H):
 ts.all T.calm=true/\SJ W ts σ H λvs H1=>IC W (cf f) vs H1 (λv H2=>Ed i v σ H2 D.nx) (eh W D σ c g e (.tup xs)):=by
 rw[M3]at h;obtain⟨ρ,os,hR,hn,hA⟩:=h;dsimp only at hA;rcases Bool.eq_false_or_eq_true (mt.rs && ts.all T.calm)with hc|hc
 rotate_left
 .rw[hc]at hA;exact hA.elim
 rw[hc,iP rfl]at hA;have hcm:=(Bool.and_eq_true_iff.mp hc).2;refine⟨hcm,?_⟩;rcases DZ (cf:=cf) (mt:=mt) hcm hR with⟨hs,ed,q⟩|ed
 rotate_left
 .rw[ed]at hA;exact hA.elim
 rw[ed,Res.A2]at hA;refine q _ λvs h1=>?_
 unfold KD at hA;cases ec:A9 ρ hs with
 |none=>rw[ec]at hA;exact hA.elim
 |some cs=>
   rw[ec]at hA;dsimp only at hA;split at hA
   case isFalse=>exact hA.elim
   rename_i hgd;cases ecf:cf f cs with
   |stuck=>rw[ecf]at hA;exact hA.elim
   |ok r outs=>
     rw[ecf]at hA;cases eb:back (lend ρ hs cs) hs cs outs with
     |none=>dsimp only at hA;rw[eb]at hA;exact hA.elim
     |some ρ2=>
       dsimp only at hA;rw[eb]at hA;refine MY (EX:=Ay X W) h1 hR hn ec hgd ecf eb λv H' o os' r1 r2 r3 r4=>?_
       obtain⟨os2,od,t1,t2⟩:=A4.put r1 r2 (by rw[<-r2.length];exact hi);exact hA (σ.set i (some v)) H' os2 t1 (C9 r3 t2) (r4.sub λa ha=>t2.subset (mR ha)) (AF.set mS)
   |err x p=>
     rw[ecf]at hA;dsimp only at hA;split at hA
     case isFalse=>exact hA.elim
     rename_i hx;refine Ko h1 hR hn ec hgd ecf λH' os' r1 r2 r3=>⟨by rw[hx],λt ht=>?_⟩
     have sm:Bp H' (upd H' t (.tup xs)):=λb o e=>by rw[A5 (Av e ht)];exact e
     obtain⟨os2,od,t1,t2⟩:=A4.put (c:=.p (.bl true)) (v:=.bl true) (o:=[]) ⟨Bh.mpr rfl,rfl⟩ (r1.same sm) (i:=g) (by rw[<-r1.length];exact hg);obtain⟨os3,t3,od3,t4⟩:=t1.drop e;have n2:=C9 (o:=[]) (os:=os') r2 t2;refine hA _ _ os3 t3.unset (nA (t4.nodup_iff.mpr n2)).2.1 ((r3.trans (AG.of sm λa ha=>.inl ha)).sub λa ha=>?_) ((AF.set (by simp)).trans (AF.set (by simp)));exact t2.subset (mR (t4.subset (mR ha)))
end
section
variable{cf:CF}{mt:MT}{k:Nat}{ct:Ct}
theorem JI{i:Nat}(h:ct.Bj x=some i):(x == ("__debug__":Str))=false/\(x == ("__classdict__":Str))=false:=by
 unfold Ct.Bj at h;split at h
 .rename_i hc;rw[bA]at hc;exact⟨(C8 hc.1).1,(C8 hc.1).2.1⟩
 .cases h
abbrev OU(X:Cx)(pins:List (Addr×Obj))(D:Ends)(hs:List ExceptHandler):Value->Shared->Prop:=λe s1=>wpAny (model X.prog X.w) X.A (noteFrame e X.env) (λ_ s2=>wpAny (model X.prog X.w) X.A (setFlight e none) (λ_ s3=>wpAny (model X.prog X.w) X.A (handleBy e X.env hs) (SP X pins D) X.xe s3) X.xe s2) X.xe s1
theorem CW.EF(L:CW ct X W cf mt k){xe:Value->Shared->Prop}(po:PassesOwn (model X.prog X.w) X.A X.env xe):CW ct (X.EF xe) W cf mt k:=
 ⟨L.K,L.w,L.N,L.nd,L.sc,L.fn,L.calm,L.room,po,L.gl,L.own,λx f e=>⟨(L.fns x f e).1,(L.fns x f e).2.1,⟨(L.fns x f e).2.2.ex⟩⟩,L.cls,⟨λc m f e=>⟨(L.Ye.Lu c m f e).1,(L.Ye.Lu c m f e).2.1,⟨(L.Ye.Lu c m f e).2.2.ex⟩⟩⟩,L.fld,L.tf,λlp q e=>⟨(L.lam lp q e).code,(L.lam lp q e).nd,(L.lam lp q e).tag,(L.lam lp q e).lt,(L.lam lp q e).run⟩,L.cl⟩
theorem SI(L:CW ct X W cf mt k)(Lx:Vh ct X W){i n c g ie:Nat}{ts:List T}{en:Str}{a:Expr}{st1 st2:Stmt}{py fp cp ap dp hp pos:Pos}{C D:Addr}(hdf:ct.glob f=true)(hn:ct.fns.lookup f=some n)(hts:Je ct [a]=some ts)(hi:ct.Bj y=some i)
 (hg:ct.Bj g'=some g)(hd:ct.glob d=true)(hdm:X.mg d=some (.ref D))(he:ct.Bj en=some ie)(hel:X.env.scope.names.lookup en=some .local)(hC:W.B7 c=C)(hnd:Su X.K C D n1 n2 n3)
 (body:∀bm ea d oe od,(∀h:Heap,X.K.In h->Xc.Df h C bm)->oe.cls= .ref C->oe.dict=some d->notCls oe=true->(∀h:Heap,h.get? d=some od->h.Ns1 d Xc.W7)->Mf (Xc.hX X ea d oe od) [st1,st2] (λD σ H=>σ[ie]? =some (some (.ref ea))/\∀t,H t=none->D.nx (σ.set g (some (.bl true))) (upd H t (.tup [.ref n1,.ref n2,.ref n3]))))(hne:g≠ie):
 PS X (.Try [.Assign [.Name y py] (.Call (.Name f fp) [a] [] cp) ap] [.ExceptHandler (some (.Name d dp)) (some en) [st1,st2] hp] [] [] pos) (tS W (Ay X W) [i,g,ie] (exec cf mt A1 (.SG i n ts c g ie))):=by
 intro pins s σ H D' I z;obtain⟨i1,i2,i3⟩:=L.Bj hi;obtain⟨j1,j2,j3⟩:=L.Bj hg;obtain⟨e1,e2,e3⟩:=L.Bj he;obtain⟨f1,f2,_⟩:=L.glob hdf;obtain⟨d1,d2,_⟩:=L.glob hd;obtain⟨q1,q2,q3⟩:=L.fns f n hn;obtain⟨fd,ps,F1,F2⟩:=q3.ex;obtain⟨bm,bd,b1,b2,b3,b4⟩:=hnd;have hle:ie < σ.length:=by rw[I.len];exact(List.getElem?_eq_some_iff.mp e1).1
 obtain⟨hcm,z⟩:=V0 (xs:=[.ref n1,.ref n2,.ref n3]) (by rw[I.len];exact(List.getElem?_eq_some_iff.mp i1).1) (by rw[I.len];exact(List.getElem?_eq_some_iff.mp j1).1) z;rw[arm_exec_Try];refine wpAny_bind (wpAny_standAt (wpAny_tryStmt_except (wpAny_execs_cons (wpAny_mono (Q:=SP X pins D') (E:=OU X pins D' [.ExceptHandler (some (.Name d dp)) (some en) [st1,st2] hp]) ?_ (λf s1 q=>?_) λe s1 q=>q))))
 rotate_left
 .cases f with
  |next=>exact wpAny_execs_nil (wpAny_execs_nil q)
  |_=>exact q
 have L':=L.EF (xe:=OU X pins D' [.ExceptHandler (some (.Name d dp)) (some en) [st1,st2] hp]) PassesOwn.looking;have hs:=D9 (EV [a]) L' hts;have pl:=hs.plain;have pa:=Qh hs
 have z':FH W (Ay (X.EF (OU X pins D' [.ExceptHandler (some (.Name d dp)) (some en) [st1,st2] hp])) W) cf mt ts σ H λvs H1=>IC W (cf n) vs H1 (λv H2=>Ed i v σ H2 D'.nx) (eh W D' σ c g ie (.tup [.ref n1,.ref n2,.ref n3])):=by
  cases hs with
  |cons h r=>unfold FH;rw[iP hcm];exact z
 have I':=I.EF (OU X pins D' [.ExceptHandler (some (.Name d dp)) (some en) [st1,st2] hp]);refine wpAny_Assign_Name (AI (Q:=EP X pins σ λv H2=>Ed i v σ H2 D'.nx) ?_ λv s1 ⟨y1,H1,I1,r1,q1⟩=>Dp I1 L.nd i1 i2 r1 (λs2 I2=>⟨_,H1,I2,q1⟩) i3) (CI rfl _ _ _);refine wpAny_Call_Name_kw (D8 I f1 q1 ?_ f2);refine callWith_K (h₀:=X.base) I.ok.mod.Of q2 (AI (pa cp pins s σ H _ I' z') λus s1 ⟨vs,H1,I1,r,q⟩=>⟨I1.BX,?_⟩) (Aa (pl a mS) [] _) rfl;have I1:=I1.Ir;refine AI (Mw (X:=X.EF (OU X pins D' [.ExceptHandler (some (.Name d dp)) (some en) [st1,st2] hp])) F1 (L.room.mono (Nat.le_succ _)) F2 (I1.EF _) r q λe s' cx=>?_) λv s2 ⟨y,H2,I2,r2,q2⟩=>⟨y,H2,I2.Ir,r2,q2⟩
 refine Xc.land (D:=D) (R:=λH'=>∀t,H' t=none->D'.nx ((σ.set g (some (.bl true))).set ie none) (upd H' t (.tup [.ref n1,.ref n2,.ref n3]))) b1 b2 b3 d1 hdm d2 L.nd e1 hel I1 Lx.st Lx.fr cx (λcls H' ⟨e1,r⟩=>⟨by rw[e1,hC],r⟩) λea d oe od H' s'' h1 h2 h3 h4 J R=>?_
 have hb:=body bm ea d oe od b1 h1 h2 h3 h4 pins s'' _ H' {nx:=λσ3 H3=>∀s4,Inv X pins (σ3.set ie none) H3 s4->SP X pins D' .next s4,rt:=λ_ _=>False} J ⟨List.getElem?_set_self hle,λt ht s4 J4=>⟨_,_,J4,?_⟩⟩
 .refine wpAny_mono hb (λf s3 w=>?_) λ_ _ w=>w
  cases f with
  |next=>obtain⟨σ3,H3,J3,w⟩:=w;exact⟨rfl,σ3,H3,J3,w⟩
  |brk=>obtain⟨_,_,_,w⟩:=w;exact w.elim
  |cont=>obtain⟨_,_,_,w⟩:=w;exact w.elim
  |ret u=>obtain⟨_,_,_,_,_,w⟩:=w;exact w.elim
 .have e:((σ.set ie (some (V.ref ea))).set g (some (.bl true))).set ie none=(σ.set g (some (.bl true))).set ie none:=by
   rw[show(σ.set ie (some (V.ref ea))).set g (some (.bl true))=(σ.set g (some (.bl true))).set ie (some (V.ref ea))from List.set_comm _ _ hne.symm,set_set]
  rw[e];exact R t ht
end
def Qk(W:Wd)(cf:CF)(mt:MT)(k:Nat)(st:Stmt):Prop:=∀{ct:Ct} {X:Cx} {s:S},CW ct X W cf mt k->Vh ct X W->kS ct st=some s->PS X st (tS W (Ay X W) (DG s) (exec cf mt A1 s))
def Qs(W:Wd)(cf:CF)(mt:MT)(k:Nat)(OG:List Stmt):Prop:=∀{ct:Ct} {X:Cx} {ss:List S},CW ct X W cf mt k->Vh ct X W->QL ct OG=some ss->Mf X OG (tS W (Ay X W) (B8 ss) (execs cf mt A1 ss))
section
variable{cf:CF}{mt:MT}{k:Nat}
theorem Be{st:Stmt}(h:∀ct,kS ct st=none):Qk W cf mt k st:=by
 intro ct X s L Lx z;rw[h]at z;cases z
theorem fq(i:Nat)(t:T):DG (.asg (.nm i) t)=[i]:=rfl
theorem ZD(is:List Nat)(t:T):DG (.asg (.tup is) t)=is:=rfl
theorem Vb(i:Nat)(f:Str)(v:T):DG (.Gn i f v)=[]:=rfl
theorem Vc(t:T):DG (.expr t)=[]:=rfl
theorem RL(t:Option T):DG (.ret t)=[]:=rfl
theorem ZE(c:T)(a b:List S):DG (.ifs c a b)=B8 a++B8 b:=rfl
theorem ZC(c:T)(b:List S):DG (.Mj c b)=B8 b:=rfl
theorem ZF(g:Tg)(q:IK)(its:List T)(b:List S):DG (.Ca g q its b)=g.slots++B8 b:=rfl
theorem Nd:DG .pass=[]:=rfl
theorem ZI:DG .brk=[]:=rfl
theorem ZG:DG .cnt=[]:=rfl
theorem UG(t:T):exec cf mt A1 (.expr t)=λρ=>(ev cf mt t ρ).bind λ_ ρ=>.ok .nx ρ:=rfl
theorem UE:exec cf mt A1 (.ret none)=λρ=>.ok (.ret (.p .Ai)) ρ:=rfl
theorem YN(t:T):exec cf mt A1 (.ret (some t))=λρ=>(ev cf mt t ρ).bind λc ρ=>.ok (.ret c) ρ:=rfl
theorem YO(c:T)(a b:List S):exec cf mt A1 (.ifs c a b)=λρ=>(tv cf mt c ρ).bind λx ρ=>if x then execs cf mt A1 a ρ else execs cf mt A1 b ρ:=rfl
theorem YM(c:T)(b:List S):exec cf mt A1 (.Mj c b)=λρ=>A1 (tv cf mt c) (execs cf mt A1 b) ρ:=rfl
theorem Fw(g:Tg)(q:IK)(its:List T)(b:List S):exec cf mt A1 (.Ca g q its b)=λρ=>if q.ok then(A8 cf mt its ρ).bind (Jk q g (B8 b) (execs cf mt A1 b))else .stuck:=rfl
theorem N3:exec cf mt A1 .pass=λρ=>.ok .nx ρ:=rfl
theorem YR:exec cf mt A1 .brk=λρ=>.ok .brk ρ:=rfl
theorem YQ:exec cf mt A1 .cnt=λρ=>.ok .cnt ρ:=rfl
theorem Ri(x:Nat)(ρ:Env):exec cf mt A1 (.raise x) ρ=if mt.rs then .err x .Ai ρ else .stuck:=rfl
theorem RM(x:Nat):DG (.raise x)=[]:=rfl
theorem ZH(i f:Nat)(ts:List T)(c g e:Nat):DG (.SG i f ts c g e)=[i,g,e]:=rfl
theorem UB:execs cf mt A1 []=λρ=>.ok .nx ρ:=rfl
def jP(f:Fl)(r:Env->Res Fl)(ρ:Env):Res Fl:=match f with
    |.nx=>r ρ
    |f=>.ok f ρ
theorem Rc(s:S)(ss:List S):execs cf mt A1 (s::ss)=λρ=>(exec cf mt A1 s ρ).bind λf ρ=>match f with
 |.nx=>execs cf mt A1 ss ρ
 |f=>.ok f ρ:=rfl
variable{pos:Pos}
theorem cw{tgs:List Expr}:Qk W cf mt k (.Assign tgs e pos):=by
 intro ct X s L Lx h;rcases tgs with _|⟨tg,_|⟨t2,ts⟩⟩
 .exact none_of h
 .obtain⟨t,h1,h2⟩:=oB h;have se:=(Di e).1 L h1;cases tg with
  |Name x p=>
    obtain⟨i,h3,rfl⟩:=oM h2;obtain⟨t1,t2,t3⟩:=L.Bj h3;rw[fq];intro pins s σ H D I z;refine se.a i x p pos L.nd t1 t2 t3 pins s σ H D I (bJ (by rw[I.len];exact(List.getElem?_eq_some_iff.mp t1).1) ?_);obtain⟨ρ,os,hR,hn,hA⟩:=z;rw[UI]at hA;exact⟨ρ,os,hR,hn,hA⟩
  |Tuple es n p=>
    rcases A7 h2 with⟨_,h2⟩|⟨hnt,h2⟩
    .cases h2
    .obtain⟨g,h3,rfl⟩:=oM h2;obtain⟨g1,g2⟩:=Q2 L h3
     have h4:∃is,g= .tup is:=by
      unfold Wg at h3;obtain⟨is,_,rfl⟩:=oM h3;exact⟨is,rfl⟩
     obtain⟨is,rfl⟩:=h4;rw[ZD];exact NM g1 g2 se (by simpa using hnt)
  |Attribute o f p=>
    cases o with
    |Name x q=>
      obtain⟨i,h3,rfl⟩:=oM h2;rw[Vb];exact Tr L.K L.fld (L.pv h3) se
    |_=>exact none_of h2
  |_=>exact none_of h2
 .exact none_of h
theorem XC:Qk W cf mt k (.Expr e pos):=by
 intro ct X s L Lx h
 have gen:(if B5 e then none else(kE ct e).map S.expr)=some s->PS X (.Expr e pos) (tS W (Ay X W) (DG s) (exec cf mt A1 s)):=λh=>by
  rcases A7 h with⟨_,h⟩|⟨hc,h⟩
  .cases h
  .obtain⟨t,h1,rfl⟩:=oM h;rw[Vc,UG];exact Cz (Tu ((Di e).1 L h1).v (CI (by simpa using hc) _ _ _)) λD σ H z=>Xr z
 cases e with
 |Constant c n p=>
   cases c with
   |str x=>
     cases h;rw[Nd,N3];exact Cz XJ λD σ H z=>Px z
   |_=>exact gen h
 |_=>exact gen h
theorem cm{o:Option Expr}:Qk W cf mt k (.Return o pos):=by
 intro ct X s L Lx h;cases o with
 |none=>
   cases h;rw[RL,UE];exact Cz Ts λD σ H z=>Xj z
 |some e=>
   obtain⟨t,h1,rfl⟩:=oM h;rw[RL,YN];exact Cz (XG ((Di e).1 L h1).v) λD σ H z=>bK z
theorem iu{a b:List Stmt}(ha:Qs W cf mt k a)(hb:Qs W cf mt k b):Qk W cf mt k (.If c a b pos):=by
 intro ct X s L Lx h;obtain⟨t,h1,h⟩:=oB h;obtain⟨x,h2,h⟩:=oB h;obtain⟨y,h3,rfl⟩:=oM h;rw[ZE,YO];exact Cz (cz ((Di c).1 L h1).b (ha L Lx h2) (hb L Lx h3)) λD σ H z=>gZ z
theorem Tj{b e:List Stmt}(hb:Qs W cf mt k b):Qk W cf mt k (.While c b e pos):=by
 intro ct X s L Lx h;cases e with
 |cons _ _=>exact none_of h
 |nil=>
   obtain⟨t,h1,h⟩:=oB h;obtain⟨x,h2,rfl⟩:=oM h;rw[ZC,YM];exact Cz (PO L.po ((Di c).1 L h1).b (hb L Lx h2)) λD σ H z=>T6 z
theorem cn{tg it:Expr}{b e:List Stmt}(hb:Qs W cf mt k b):Qk W cf mt k (.For tg it b e pos):=by
 intro ct X s L Lx h;cases e with
 |cons _ _=>exact none_of h
 |nil=>
   obtain⟨g,h1,h⟩:=oB h;obtain⟨t,h2,h⟩:=oB h;obtain⟨x,h3,rfl⟩:=oM h;rw[ZF,Fw];have st:=(Di it).1 L h2;obtain⟨g1,g2⟩:=Q2 L h1;cases hk:(AW t).1.ok with
   |false=>exact PQ λρ=>rfl
   |true=>
     intro pins s σ H D I z;exact XH L.po L.calm (st.i hk tg) g1 (hb L Lx h3) (Fu st.st _) pins s σ H D I (bS (λi hi=>by rw[I.len];exact g2 i hi) z)
theorem XB:Qk W cf mt k (.Pass pos):=by
 intro ct X s L Lx h;cases h;rw[Nd,N3];exact Cz Tt λD σ H z=>Px z
theorem cu:Qk W cf mt k (.Break pos):=by
 intro ct X s L Lx h;cases h;rw[ZI,YR];exact Cz PU λD σ H z=>bV z
theorem cq:Qk W cf mt k (.Continue pos):=by
 intro ct X s L Lx h;cases h;rw[ZG,YQ];exact Cz JW λD σ H z=>bU z
theorem Tn{e c:Option Expr}:Qk W cf mt k (.Raise e c pos):=by
 intro ct X s L Lx h;replace h:LN ct e c=some s:=h;unfold LN at h;split at h
 .rename_i x px j np cp;rcases A7 h with⟨hg,h⟩|⟨_,h⟩
  .rw[bA]at hg;have hx:=of_decide_eq_true hg.2;obtain⟨c,hc,rfl⟩:=oM h;obtain⟨g1,g2,_⟩:=L.glob hg.1;obtain⟨q1,_⟩:=L.cls x c hc;obtain⟨_,_,_,_,xk⟩:=Lx.xk c (hx▸hc);rw[RM]
   rintro pins s σ H D I ⟨ρ,os,hR,hn,hA⟩
   rw[Ri]at hA;rcases Bool.eq_false_or_eq_true mt.rs with hr|hr
   .rw[hr,iP rfl]at hA;have hE:=hA σ H os hR hn (AG.refl _ _) (AF.refl _ _);exact Xc.NI xk Lx.rm g1 q1 g2 I λs1 s' e t d I1 i1 i2 i3 i4 i5 i6 i7 i8=>hE.2 pins s1 s' e t d I1 i1 i2 i3 i4 i5 i6 i7 i8
   .rw[hr]at hA;exact hA.elim
  .cases h
 .cases h
theorem FE{s:Stmt}{q:Str×Expr}(h:RK s=some q):∃p r,s= .Assign [.Name q.1 p] q.2 r:=by
 unfold RK at h;split at h<;>cases h
 exact⟨_,_,rfl⟩
theorem Ip{s:Expr}{q:List Expr}(h:V8 s=some q):∃p,s= .BoolOp .And q p:=by
 unfold V8 at h;split at h<;>cases h
 exact⟨_,rfl⟩
theorem GC{s:Expr}{q:Str}(h:cW s=some q):∃p,s= .Name q p:=by
 unfold cW at h;split at h<;>cases h
 exact⟨_,rfl⟩
theorem GN{s:Expr}{q:Str×Str×Expr}(h:dE s=some q):∃p r u,s= .Call (.Name q.1 p) [.Name q.2.1 r,q.2.2] [] u:=by
 unfold dE at h;split at h<;>cases h
 exact⟨_,_,_,rfl⟩
theorem QP{s:Expr}{q:Str×Str}(h:j7 s=some q):∃p r u v w,s= .Compare (.Attribute (.Name q.1 p) q.2 r) [.Is] [.Constant .none u v] w:=by
 unfold j7 at h;split at h<;>cases h
 exact⟨_,_,_,_,_,rfl⟩
theorem QQ{s q:Expr}(h:j8 s=some q):∃p,s= .UnaryOp .Not q p:=by
 unfold j8 at h;split at h<;>cases h
 exact⟨_,rfl⟩
theorem Np{s:Expr}{q:Str×Str×Str}(h:X0 s=some q):∃a b c d e,s= .Tuple [.Name q.1 a,.Name q.2.1 b,.Name q.2.2 c] d e:=by
 unfold X0 at h;split at h<;>cases h
 exact⟨_,_,_,_,_,rfl⟩
theorem Mb{s:Expr}{q:Str×Expr}(h:Rz s=some q):∃p r,s= .Call (.Name q.1 p) [q.2] [] r:=by
 unfold Rz at h;split at h<;>cases h
 exact⟨_,_,rfl⟩
theorem Ol{s:ExceptHandler}{q:Str×Str×List Stmt}(h:YE s=some q):∃p r,s= .ExceptHandler (some (.Name q.1 p)) (some q.2.1) q.2.2 r:=by
 unfold YE at h;split at h<;>cases h
 exact⟨_,_,rfl⟩
theorem ck{b e f:List Stmt}{hs:List ExceptHandler}:Qk W cf mt k (.Try b hs e f pos):=by
 intro ct X s L Lx h;replace h:Ys ct b hs e f=some s:=h;unfold Ys at h;split at h
 case h_2=>cases h
 obtain⟨⟨y,v0⟩,m1,h1⟩:=oB h;clear h;obtain⟨⟨f,a⟩,m2,h2⟩:=oB h1;clear h1;obtain⟨⟨d,en,b⟩,m3,h⟩:=oB h2;clear h2;obtain⟨_,_,rfl⟩:=FE m1;obtain⟨_,_,m2⟩:=Mb m2;dsimp only at m2;subst m2;obtain⟨_,_,rfl⟩:=Ol m3;clear m1 m3;dsimp only at h ⊢;unfold Wf at h;obtain⟨q,hq,h⟩:=oB h;rcases A7 h with⟨hc,h⟩|⟨_,h⟩
 rotate_left
 .cases h
 simp only[bA]at hc;obtain⟨⟨⟨⟨⟨⟨⟨⟨_,c2⟩,c3⟩,c4⟩,c5⟩,c6⟩,c7⟩,c8⟩,c9⟩:=hc;obtain⟨i,hi,h⟩:=oB h;obtain⟨g,hg,h⟩:=oB h;obtain⟨ie,he,h⟩:=oB h;obtain⟨n,hn,h⟩:=oB h;obtain⟨c,hc,h⟩:=oB h;obtain⟨cd,hcd,h⟩:=oB h;obtain⟨k1,hk1,h⟩:=oB h;obtain⟨k2,hk2,h⟩:=oB h;obtain⟨k3,hk3,h⟩:=oB h;obtain⟨ts,hts,h⟩:=oB h;rcases A7 h with⟨hne,h⟩|⟨_,h⟩
 rotate_left
 .cases h
 cases h;have hne:=of_decide_eq_true (Bool.and_eq_true_iff.mp hne).2;have c5:=of_decide_eq_true c5;subst c5;unfold jY at hq;split at hq
 case h_2=>cases hq
 obtain⟨⟨g0,v1⟩,n1,w1q⟩:=oB hq;clear hq;obtain⟨⟨g2,v2⟩,n2,w2q⟩:=oB w1q;clear w1q;obtain⟨l1,n3,w3q⟩:=oB w2q;clear w2q;obtain⟨l2,n4,w4q⟩:=oB w3q;clear w3q;obtain⟨_,_,rfl⟩:=FE n1;obtain⟨_,_,rfl⟩:=FE n2;obtain⟨_,e3⟩:=Ip n3;obtain⟨_,e4⟩:=Ip n4;clear n3 n4;dsimp only at e3 e4 w4q ⊢;subst e3 e4;clear n1 n2;unfold dz at w4q;split at w4q
 case h_2=>cases w4q
 obtain⟨⟨i1,o1,t1⟩,n1,w5q⟩:=oB w4q;clear w4q;obtain⟨⟨i2,o2,t2⟩,n2,w6q⟩:=oB w5q;clear w5q;obtain⟨⟨o3,pl⟩,n3,w7q⟩:=oB w6q;clear w6q;obtain⟨g3,n4,w8q⟩:=oB w7q;clear w7q;obtain⟨f1,n5,w9q⟩:=oB w8q;clear w8q;obtain⟨⟨i3,o4,t3⟩,n6,w10q⟩:=oB w9q;clear w9q;obtain⟨nw,n7,w11q⟩:=oB w10q;clear w10q;obtain⟨ve,n8,w12q⟩:=oB w11q;clear w11q;obtain⟨⟨s1,s2,s3⟩,n9,w13q⟩:=oB w12q;clear w12q;obtain⟨_,_,_,rfl⟩:=GN n1;obtain⟨_,_,_,rfl⟩:=GN n2;obtain⟨_,_,_,_,_,rfl⟩:=QP n3;obtain⟨_,rfl⟩:=GC n4;obtain⟨_,rfl⟩:=QQ n5;obtain⟨_,_,_,e6⟩:=GN n6;obtain⟨_,e7⟩:=GC n7;obtain⟨_,e8⟩:=GC n8;obtain⟨_,_,_,_,_,e9⟩:=Np n9;clear n6 n7 n8 n9;dsimp only at e6 e7 e8 e9 w13q ⊢;subst e6 e7 e8 e9;clear n1 n2 n3 n4 n5;rcases A7 w13q with⟨hh,hq2⟩|⟨_,hq2⟩
 rotate_left
 .cases hq2
 clear w13q;obtain⟨rfl,rfl,rfl,rfl,rfl,rfl,rfl,rfl,rfl,rfl,rfl,rfl,rfl,rfl,rfl⟩:=hh;cases hq2;have c2:X.env.scope.names.lookup _=some .local:=L.sc.loc _ (of_decide_eq_true c2);have c3:X.env.scope.names.lookup _=some .local:=L.sc.loc _ (of_decide_eq_true c3);simp only[all_cons,List.all_nil,Bool.and_true,bA]at c6;obtain⟨_,w1,_,w2,w3,w4⟩:=c6;obtain⟨is1,is2,_⟩:=L.Qi c7;obtain⟨ve1,ve2,_⟩:=L.Qi c8;obtain⟨u1,u2,_⟩:=L.glob w1;obtain⟨x1,x3,_⟩:=L.glob w2;obtain⟨y1,y3,_⟩:=L.glob w3;obtain⟨z1,z3,_⟩:=L.glob w4;obtain⟨e1,e2,e3⟩:=L.Bj he;obtain⟨g1,g2,g3⟩:=L.Bj hg;obtain⟨eb,ec⟩:=JI he;obtain⟨gb,gc⟩:=JI hg;have hnd:=Lx.xh c cd k1 k2 k3 hc hcd hk1 hk2 hk3;obtain⟨bm,bd,b1,b2,b3,b4⟩:=id hnd;rw[ZH];exact SI L Lx c9 hn hts hi hg c4 (L.cls _ _ hcd).1 he c2 rfl hnd (λbm ea d oe od h0 h1 h2 h3 h4=>Xc.Oq h0 b4 h1 h2 h3 h4 L.nd e1 c2 eb ec g1 c3 gb gc hne is1 is2 ve1 ve2 u1 (L.cls _ _ hc).1 u2 x1 (L.cls _ _ hk1).1 x3 y1 (L.cls _ _ hk2).1 y3 z1 (L.cls _ _ hk3).1 z3) hne
theorem XA:Qs W cf mt k []:=by
 intro ct X ss L Lx h;unfold QL at h;cases h;rw[UB,show B8 []=[]from by unfold B8;rfl];exact ME MD λD σ H z=>Px z
theorem Ti{st:Stmt}{OG:List Stmt}(h1:Qk W cf mt k st)(h2:Qs W cf mt k OG):Qs W cf mt k (st::OG):=by
 intro ct X ss L Lx h;unfold QL at h;obtain⟨s,h3,h⟩:=oB h;obtain⟨us,h4,rfl⟩:=oM h;rw[Rc,show B8 (s::us)=DG s++B8 us from by conv=>lhs;unfold B8];exact ME (Gs (h1 L Lx h3) (h2 L Lx h4)) λD σ H z=>Xs z
mutual
theorem iw:∀st:Stmt,Qk W cf mt k st
 |.Assign tgs e pos=>cw
 |.Expr e pos=>XC
 |.Return o pos=>cm
 |.If c a b pos=>iu (HA a) (HA b)
 |.While c b e pos=>Tj (HA b)
 |.For tg it b e pos=>cn (HA b)
 |.Pass pos=>XB
 |.Break pos=>cu
 |.Continue pos=>cq
 |.Raise e c pos=>Tn
 |.Try b hs e f pos=>ck
 |.FunctionDef ..=>Be λ_=>rfl
 |.AsyncFunctionDef ..=>Be λ_=>rfl
 |.ClassDef ..=>Be λ_=>rfl
 |.Delete ..=>Be λ_=>rfl
 |.TypeAlias ..=>Be λ_=>rfl
 |.AugAssign ..=>Be λ_=>rfl
 |.AnnAssign ..=>Be λ_=>rfl
 |.AsyncFor ..=>Be λ_=>rfl
 |.With ..=>Be λ_=>rfl
 |.AsyncWith ..=>Be λ_=>rfl
 |.Match ..=>Be λ_=>rfl
 |.TryStar ..=>Be λ_=>rfl
 |.Assert ..=>Be λ_=>rfl
 |.Import ..=>Be λ_=>rfl
 |.ImportFrom ..=>Be λ_=>rfl
 |.Global ..=>Be λ_=>rfl
 |.Nonlocal ..=>Be λ_=>rfl
theorem HA:∀OG:List Stmt,Qs W cf mt k OG
 |[]=>XA
 |st::OG=>Ti (iw st) (HA OG)
end
end
theorem Fj:∀{ρ:Env} {σ:L2.St} {os:List Addr},A4 W H ρ σ os->A4 W H (ρ++List.replicate n none) (σ++List.replicate n none) os
 | [],_,_,h=>by
   rw[h.1,h.2.1,nil_append,nil_append]
   induction n with
   |zero=>exact⟨rfl,rfl,h.2.2⟩
   |succ n ih=>exact⟨none,List.replicate n none,rfl,ih⟩
 |none::ρ,_,_,⟨x,r,e,h⟩=>by rw[e];exact⟨x,_,rfl,Fj h⟩
 |some c::ρ,_,_,⟨v,r,o,o2,e1,h1,h2,e2⟩=>by rw[e1];exact⟨v,_,o,o2,rfl,h1,Fj h2,e2⟩
theorem DN:∀(n:Nat) (g:Nat->Bool) {ρ:Env} {σ τ:L2.St} {os:List Addr},A4 W H ρ σ os->n<=ρ.length->τ.length=n->(∀i,i < n->g i=false->σ[i]? =τ[i]?)->
 ∃oos od,A4 W H ((List.range n).map λi=>if g i then none else A6 ρ i) τ oos/\(od++oos).Perm os
 | 0,g,ρ,σ,τ,os,hR,_,hl,_=>by
   have:τ=[]:=length_eq_zero_iff.mp hl;subst this;exact⟨[],os,⟨rfl,rfl,hR.tb⟩,by rw[append_nil]⟩
 | n + 1, g,ρ,σ,τ,os,hR,hle,hl,hc=>by
   rw[List.range_succ_eq_map,map_cons,map_map];cases τ with
   |nil=>cases hl
   |cons t τ=>
     have hl':τ.length=n:=by simpa using hl
     cases ρ with
     |nil=>cases hle
     |cons x ρ=>
       have hle':n<=ρ.length:=by simpa using hle
       have ef:((λi=>if g i then none else A6 (x::ρ) i) ∘ Nat.succ)=λi=>if g (i+1)then none else A6 ρ i:=rfl
       rw[ef];cases x with
       |none=>
         obtain⟨y,r,e,h⟩:=hR;subst e;obtain⟨oos,od,q1,q2⟩:=DN n (λi=>g (i+1)) h hle' hl' λi hi hg=>by simpa using hc (i+1) (by lia) hg
         refine⟨oos,od,?_,q2⟩;have:(if g 0 then(none:Option C)else A6 (none::ρ) 0)=none:=by split<;>rfl
         rw[this];exact⟨t,τ,rfl,q1⟩
       |some c=>
         obtain⟨v,r,o,o2,e1,h1,h2,e2⟩:=hR;subst e1 e2;obtain⟨oos,od,q1,q2⟩:=DN n (λi=>g (i+1)) h2 hle' hl' λi hi hg=>by simpa using hc (i+1) (by lia) hg
         cases hg:g 0 with
         |true=>
           refine⟨oos,o++od,?_,by rw[append_assoc];exact q2.append_left o⟩;exact⟨t,τ,rfl,q1⟩
         |false=>
           have ht:=hc 0 (by lia) hg;simp at ht;subst ht;refine⟨o++oos,od,⟨v,τ,o,oos,rfl,h1,q1,rfl⟩,?_⟩;refine List.Perm.trans ?_ (q2.append_left o);rw[<-append_assoc,<-append_assoc];exact perm_append_comm.append_right oos
section
variable{P:Program}{w:World}{K:PySem.W.Frag}{mg:Str->Option Value}{base:Heap}{mt:MT}
variable{X:Cx}
theorem Rf{E:XK}(hst:X.stack=X.env::X.outer)(hf:X.env.frame=some X.env.locals)(hex:X.ex=[])(hxe:∀e s',wpAny (model X.prog X.w) X.A (leaving X.env e) (λ_ s''=>Xc.DI X.prog X.w X.outer X.H₀ X.s₀ E e s'') (λe' s''=>Xc.DI X.prog X.w X.outer X.H₀ X.s₀ E e' s'') s'->X.xe e s')(x:Nat)(p:Iv.P)(σ:L2.St)(H':Hp)(q:E (.ref (W.B7 x)) none H'):Ay X W x p σ H':=
 ⟨λpins H s e s' I c=>hxe e s' (Xc.SH I hst hf hex c λcls H'' ⟨e1,e2⟩=>by rw[e1,e2];exact q),λpins s1 s' e t d I1 i1 i2 i3 i4 i5 i6 i7 i8=>hxe _ _ (Xc.OL I1 hst hf hex i1 i2 i3 i4 i5 i6 i7 i8 q)⟩
variable{cf:CF}{fi:EC}{vs:List V}{H:Hp}
theorem V6{ct:Ct}{k:Nat}{body:List Stmt}{N:List Str}{E:XK}(L:CW ct X W cf mt k)(Lx:Vh ct X W)(hup:∀x p σ' H',E (.ref (W.B7 x)) none H'->Ay X W x p σ' H')(hk:QL ct body=some fi.body)(hnl:fi.nl=N.length){Q:VK}(hnp:fi.np<=N.length)(hv:vs.length=fi.np)
 (hsp:IC W (D4 cf mt A1 fi) vs H Q E):Mf X body (tS W (Ay X W) (B8 fi.body) (execs cf mt A1 fi.body))/\tS W (Ay X W) (B8 fi.body) (execs cf mt A1 fi.body) {nx:=λ_ H'=>Q .Ai H',rt:=Q} (L2.start N vs) H:=by
 refine⟨HA body L Lx hk,?_⟩;obtain⟨cs,os,hR,hn,hQ⟩:=hsp;have hlen:vs.length=cs.length:=by have:=hR.length;simpa using this
 have hst:L2.start N vs=vs.map some++List.replicate (fi.nl-fi.np) none:=by unfold L2.start;rw[hnl,hv]
 have hR0:A4 W H (cs.map some++List.replicate (fi.nl-fi.np) none) (L2.start N vs) os:=by rw[hst];exact Fj hR
 refine⟨_,os,hR0,hn,?_⟩;unfold D4 at hQ;rw[iP (by lia)]at hQ;have hρl:fi.np<=(cs.map some++List.replicate (fi.nl-fi.np) (none:Option C)).length:=by rw[lA,lM];lia
 have outs:∀{ρ':Env} {σ':L2.St} {H':Hp} {os':List Addr},A4 W H' ρ' σ' os'->AF (B8 fi.body) (L2.start N vs) σ'->∃oos od,A4 W H' (D7 fi ρ') (vs.map some) oos/\(od++oos).Perm os':=by
  intro ρ' σ' H' os' r u;unfold D7;have hl2:fi.np<=ρ'.length:=by rw[<-r.length,u.1,hR0.length];exact hρl
  refine DN fi.np (λi=>(B8 fi.body).contains i) r hl2 (by rw[lM];exact hv) λi hi hg=>?_
  rw[u.2 i (by simpa using hg),hst,List.getElem?_append_left (by rw[lM];lia)]
 cases eb:execs cf mt A1 fi.body (cs.map some++List.replicate (fi.nl-fi.np) none)with
 |stuck=>rw[eb]at hQ;exact hQ
 |err x p ρ'=>
   rw[eb]at hQ;dsimp only at hQ;rcases Bool.eq_false_or_eq_true mt.rs with hr|hr
   .rw[hr,iP rfl]at hQ;exact λσ' H' os' r1 r2 r3 r4=>hup x p σ' H' (hQ H' ⟨rfl,rfl,r1.tb⟩ (r3.sub λa ha=>by cases ha))
   .rw[hr]at hQ;exact False.elim hQ
 |ok f ρ'=>
   rw[eb]at hQ;cases f with
   |brk=>exact False.elim hQ
   |cnt=>exact False.elim hQ
   |nx=>
     intro σ' H' os' r1 r2 r3 r4;obtain⟨oos,od,q1,q2⟩:=outs r1 r4;have nd:=nA (q2.nodup_iff.mpr r2);exact hQ .Ai H' [] oos ⟨By.mpr rfl,rfl⟩ q1 nd.2.1 (r3.sub λa ha=>q2.subset (mR ha))
   |ret c=>
     intro v σ' H' o os' r0 r1 r2 r3 r4;obtain⟨oos,od,q1,q2⟩:=outs r1 r4;have n2:=nA r2;have nd:=nA (q2.nodup_iff.mpr n2.2.1);refine hQ v H' o oos r0 q1 ?_ (r3.sub λa ha=>?_)
     .rw[nodup_append];exact⟨n2.1,nd.2.1,λa ha b hb z=>n2.2.2 a ha b (q2.subset (mR hb)) z⟩
     .rcases mem_append.mp ha with z|z
      .exact mL z
      .exact mR (q2.subset (mR z))
structure aU(K:PySem.W.Frag)(mg:Str->Option Value)(W:Wd)(mt:MT)(n:Nat)(tg:List (Str×Iv.P))(tf tc:List (Str×Nat)):Prop where
 kk:W.K=K
 gl:∀x p,tg.lookup x=some p->∃u v,mg x=some u/\RelV v u/\∀H,Aw W H p v
 own:∀x∈Jv,tg.lookup x=none->tf.lookup x=none->tc.lookup x=none->mg x=none
 fns:∀x f,tf.lookup x=some f->mg x=some (.ref (W.C2 f))/\keepIn K (.ref (W.C2 f))=true/\f < n
 cls:∀x c,tc.lookup x=some c->mg x=some (.ref (W.B7 c))/\∀f,mt.m c (Str.ofString "__init__")=some f->Mk K (W.B7 c) (W.C2 f)
 Lu:∀c m f,mt.m c m=some f->Df K (W.B7 c)/\(m≠Str.ofString "__init__"->Meth K (W.B7 c) m (W.C2 f))/\f < n
 fld:∀c f,mt.f c f=true->Bu K (W.B7 c) f
 xk:∀c,tc.lookup Y9=some c->∃f sf st fd,Xc.Xk K (W.B7 c) f sf st fd
 xh:∀c cd n1 n2 n3,tc.lookup Y9=some c->tc.lookup ("DeedsError":Str)=some cd->tc.lookup ("NoProgram":Str)=some n1->tc.lookup ("NoSuch":Str)=some n2->tc.lookup ("Twice":Str)=some n3->Su K (W.B7 c) (W.B7 cd) (W.B7 n1) (W.B7 n2) (W.B7 n3)
 fR:∀n,mt.tf n=true->∃x,tf.lookup x=some n
 iI:∀x p,tg.lookup x=some p->noFn p=true
variable{W W':Wd}{n:Nat}
theorem aU.to{tg:List (Str×Iv.P)}{tf tc:List (Str×Nat)}(G:aU K mg W mt n tg tf tc)(h:ZJ W W')(hn:n<=Co):aU K mg W' mt n tg tf tc where
 kk:=h.K▸G.kk
 gl:=λx p e=>let⟨u,v,h1,h2,h3⟩:=G.gl x p e;⟨u,v,h1,h2,λH=>DM h.eq (G.iI x p e) (h3 H)⟩
 own:=G.own
 fns:=λx f e=>by
  obtain⟨h1,h2,h3⟩:=G.fns x f e;rw[h.C2 f (Nat.lt_of_lt_of_le h3 hn)];exact⟨h1,h2,h3⟩
 cls:=λx c e=>by
  obtain⟨h1,h2⟩:=G.cls x c e;rw[<-h.B7];refine⟨h1,λf ef=>?_⟩;rw[h.C2 f (Nat.lt_of_lt_of_le (G.Lu c _ f ef).2.2 hn)];exact h2 f ef
 Lu:=λc m f e=>by
  obtain⟨h1,h2,h3⟩:=G.Lu c m f e;rw[<-h.B7,h.C2 f (Nat.lt_of_lt_of_le h3 hn)];exact⟨h1,h2,h3⟩
 fld:=λc f e=>by rw[<-h.B7];exact G.fld c f e
 xk:=λc e=>by rw[<-h.B7];exact G.xk c e
 xh:=λc cd n1 n2 n3=>by rw[<-h.B7];exact G.xh c cd n1 n2 n3
 fR:=G.fR
 iI:=G.iI
structure Hf(K:PySem.W.Frag)(W:Wd)(gl:List (Str×Iv.P))(fns cls:List (Str×Nat))(fl:List EC)(f:Nat)(fi:EC)(fd:FuncData)(ps:List Str):Prop where
 ex:∃(x qual:Str) (st:Stmt) (ct:Ct),BW K x qual st (W.C2 f) fd/\Cv ct.N ps (Ah st)/\QL ct (BN st)=some fi.body/\fi.np=ps.length/\fi.nl=ct.N.length/\ct.sc=Ah st/\ct.df=true/\ct.gl=gl/\ct.fns=fns/\ct.cls=cls/\Binds K fd ps []/\
   ∀lp q,ct.QD.lookup lp=some q->fl[q.1]? =some q.2/\∃c P,fd.code= .ref c/\codeHdIn K c P=true/\(P,lp,(qual++".<locals>.")++"<lambda>")∈W.tabs
variable{gl:List (Str×Iv.P)}{ps:List Str}
theorem Hf.to{fns cls:List (Str×Nat)}{fl:List EC}{f:Nat}{fd:FuncData}(D:Hf K W gl fns cls fl f fi fd ps)(h:ZJ W W')(hf:f < Co):Hf K W' gl fns cls fl f fi fd ps:=by
 obtain⟨x,qual,st,ct,F,r⟩:=D.ex;refine⟨x,qual,st,ct,?_,?_⟩
 .rw[h.C2 f hf];exact F
 .rw[<-h.tabs];exact r
theorem BW.kz{qual:Str}{st:Stmt}{fd:FuncData}{N:List Str}{k:Nat}{sp:Sp}(F:BW K x qual st f fd)(S:Cv N ps (Ah st))(len:∀vs H Q E,sp vs H Q E->vs.length=ps.length)
 (hbody:∀(A:Around) (outer:List PySem.Env) (s:Shared) (H:Hp) (vs:List V) (Q:VK) (E:XK),B3 k (A.deeper (envOfC qual (Ah st) s.heap.objs.size f fd.code))->sp vs H Q E->
  ∃t,Mf (Kw (Xc.DI P w) P w K mg base N qual (Ah st) f fd.code A outer s H E) (BN st) t/\t {nx:=λ_ H'=>Q .Ai H',rt:=Q} (start N vs) H):CD P w K mg base (Xc.DI P w) (k+1) f fd ps sp:=by
 obtain⟨oc,od,kV,doc,pm,an,cdv,ct,osl,rfl,lk,hcd⟩:=F.ex;exact dO lk hcd S len hbody
structure Good(mg:Str->Option Value)(fns:List EC)(gl:List (Str×Iv.P))(fnt clt:List (Str×Nat))(W0 W:Wd)(base:Heap):Prop where
 st:ZJ W0 W
 FR:∀n,Co<=n->W.ok n=true->Sw fnt clt gl (λl fi=>fns[l]? =some fi) W base n
 blt:∀q∈W0.tabs,base.BuiltinsAt mg q.1/\mainGlobals≠q.1
theorem RE{h h':Heap}{P:Addr}(k:∀b o,h.get? b=some o->h'.get? b=some o)(x:h.BuiltinsAt mg P):h'.BuiltinsAt mg P:=
 let⟨bm,o,q1,q2,q3,q4,q5,q6⟩:=x;⟨bm,o,q1,q2,q3,q4,k _ _ q5,q6⟩
theorem Xw{Q:VK}{E:XK}(hup:∀x p σ' H',E (.ref (W.B7 x)) none H'->Ay X W x p σ' H')(hv:vs.length=n)(h:IC W (D4 cf mt A1 ⟨n,n,[.ret (some t)]⟩) vs H Q E):tG W (Ay X W) (rV W) (ev cf mt t) (vs.map some) H Q:=by
 obtain⟨cs,os,hR,hn,hQ⟩:=h;refine⟨_,os,hR,hn,?_⟩;have hlen:vs.length=cs.length:=by have:=hR.length;simpa using this
 unfold D4 at hQ;rw[iP (show cs.length=n by lia)]at hQ
 have e1:execs cf mt A1 [.ret (some t)] (cs.map some++List.replicate (n - n) none)=(ev cf mt t (cs.map some)).bind λc ρ=>.ok (.ret c) ρ:=by
  rw[Nat.sub_self,List.replicate_zero,append_nil];show(exec cf mt A1 (.ret (some t)) (cs.map some)).bind _=_;have:exec cf mt A1 (.ret (some t)) (cs.map some)=(ev cf mt t (cs.map some)).bind λc ρ=>.ok (.ret c) ρ:=by conv=>lhs;unfold exec
  rw[this];cases ev cf mt t (cs.map some)<;>rfl
 dsimp only at hQ;rw[e1]at hQ;unfold BQ;cases ee:ev cf mt t (cs.map some)with
 |stuck=>rw[ee]at hQ;exact hQ
 |err x p ρ'=>
   rw[ee]at hQ;dsimp only[Res.bind]at hQ;rcases Bool.eq_false_or_eq_true mt.rs with hr|hr
   .rw[hr,iP rfl]at hQ;exact λH' os' r1 r2 r3=>hup x p _ H' (hQ H' ⟨rfl,rfl,r1.tb⟩ (r3.sub λa ha=>by cases ha))
   .rw[hr]at hQ;exact False.elim hQ
 |ok c ρ'=>
   rw[ee]at hQ;have hQ:∀v H' o oos,AQ W H' c v o->A4 W H' (D7 ⟨n,n,[.ret (some t)]⟩ ρ') (vs.map some) oos->(o++oos).Nodup->AG H H' os (o++oos)->Q v H':=hQ;intro v H' o os' r1 r2 r3 r4;have hl2:n<=ρ'.length:=by rw[<-r2.length,lM];lia
   obtain⟨oos,od,q1,q2⟩:=DN n (λi=>(B8 [.ret (some t)]).contains i) r2 hl2 (by rw[lM];exact hv) (λi _ _=>rfl);have n2:=nA r3;have nd:=nA (q2.nodup_iff.mpr n2.2.1);refine hQ v H' o oos r1 q1 ?_ (r4.sub λa ha=>?_)
   .rw[nodup_append];exact⟨n2.1,nd.2.1,λa ha b hb z=>n2.2.2 a ha b (q2.subset (mR hb)) z⟩
   .rcases mem_append.mp ha with z|z
    .exact mL z
    .exact mR (q2.subset (mR z))
theorem Ra{W0:Wd}{fns:List EC}{fnt clt:List (Str×Nat)}{nd:Nat}(hw0:W0.w=w)(G0:aU K mg W0 mt nd gl fnt clt)(hnd:nd<=Co)(hnl:nd<=fns.length)(htn:(W0.tabs.map (·.1)).Nodup)(htag:∀c,W0.B7 (tag c)=W0.B7 c){FD:Nat->FuncData}{PS':Nat->List Str}
 (D0:∀f fi,f < nd->fns[f]? =some fi->Hf K W0 gl fnt clt fns f fi (FD f) (PS' f)):
 ∀(k:Nat) (W:Wd) (base:Heap),Good mg fns gl fnt clt W0 W base->(∀f,f < nd->CD P w K mg base (Xc.DI P w) (2*k+4) (W.C2 f) (FD f) (PS' f) (IC W (A0 fns mt A1 k f))/\Binds K (FD f) (PS' f) [])/\∀n,Co<=n->W.ok n=true->WM P w K mg base W (A0 fns mt A1 k) (2*k+4) n
 | 0, W,base,g=>by
   refine⟨λf hf=>?_,λn h1 h2=>?_⟩
   .have hfl:=Nat.lt_of_lt_of_le hf hnl;obtain⟨x,qual,st,ct,F,S,hk,h1,h2,h3,h4,h5,h6,h7,hb,_⟩:=(D0 f fns[f] hf (List.getElem?_eq_getElem hfl)).ex
    have no:∀vs H Q E,¬IC W (A0 fns mt A1 0 f) vs H Q E:=λvs H Q E z=>by
     obtain⟨cs,os,_,_,q⟩:=z;exact q
    exact⟨⟨λvs H Q E z=>(no _ _ _ _ z).elim,λA outer s H args us vs Q E _ _ _ _ z=>(no _ _ _ _ z).elim⟩,hb⟩
   .obtain⟨_,_,_,_,_,_,_,_,_,hb,_⟩:=g.FR n h1 h2;refine⟨⟨_,_,hb,rfl⟩,λA outer s H Q E _ _ z=>?_⟩;obtain⟨cs,os,_,_,q⟩:=z;exact q.elim
 | k + 1,W,base,g=>by
   have ihg:=Ra hw0 G0 hnd hnl htn htag D0 k;have ih:=ihg W base g;have hw:W.w=w:=g.st.w▸hw0;have G:aU K mg W mt nd gl fnt clt:=G0.to g.st hnd;refine⟨λf hf=>?_,λn hn1 hn2=>?_⟩
   .have hfl:=Nat.lt_of_lt_of_le hf hnl;obtain⟨x,qual,st,ct,F,S,hk,h1,h2,h3,h4,h5,h6,h7,hb,hlam⟩:=((D0 f fns[f] hf (List.getElem?_eq_getElem hfl)).to g.st (Nat.lt_of_lt_of_le hf hnd)).ex
    have ecf:A0 fns mt A1 (k + 1) f=D4 (A0 fns mt A1 k) mt A1 fns[f]:=by
     funext cs
     show(match fns[f]? with|some fi=>D4 (A0 fns mt A1 k) mt A1 fi cs|none=>.stuck)=_;rw[List.getElem?_eq_getElem hfl]
    have len:∀vs H Q E,IC W (A0 fns mt A1 (k + 1) f) vs H Q E->vs.length=(PS' f).length:=λvs H Q E z=>by
     obtain⟨cs,os,hR,_,q⟩:=z;have hl:vs.length=cs.length:=by have:=hR.length;simpa using this
     by_cases hl2:cs.length=fns[f].np
     .lia
     .rw[ecf]at q;unfold D4 at q;rw[iN hl2]at q;exact q.elim
    refine⟨?_,hb⟩;have hj:2*(k+1)+4=(2*k+4+1)+1:=by lia
    rw[hj];refine BW.kz F S len λA outer s H vs Q E hr hsp=>?_
    have hvl:=len vs H Q E hsp;rw[ecf]at hsp
    have hnp:fns[f].np<=ct.N.length:=by
     have:=congrArg List.length S.pre;rw[length_take]at this
     lia
    have fs:∀i,i < nd->ar (Kw (Xc.DI P w) P w K mg base ct.N qual (Ah st) (W.C2 f) (FD f).code A outer s H E) W (A0 fns mt A1 k) (2*k+4) i:=λi hi=>⟨⟨_,_,ih.1 i hi⟩⟩
    have L:CW ct (Kw (Xc.DI P w) P w K mg base ct.N qual (Ah st) (W.C2 f) (FD f).code A outer s H E) W (A0 fns mt A1 k) mt (2 * k + 4):=by
     refine⟨G.kk,hw,rfl,S.nd,by rw[h3];exact fA.refl _,λ_ _=>rfl,rfl,hr,PassesOwn.leaving,?_,?_,?_,?_,⟨?_⟩,G.fld,by rw[h6];exact G.fR,?_,λ_=>ih.2⟩
     .rw[h5];exact G.gl
     .rw[h5,h6,h7];exact G.own
     .rw[h6];intro x f' e;obtain⟨g1,g2,g3⟩:=G.fns x f' e;exact⟨g1,g2,fs f' g3⟩
     .rw[h7];exact G.cls
     .intro c m f' e;obtain⟨g1,g2,g3⟩:=G.Lu c m f' e;exact⟨g1,g2,fs f' g3⟩
     .intro lp q e;obtain⟨e1,c,Pt,e2,e3,e4⟩:=hlam lp q e;have e5:(Pt,lp,(qual++".<locals>.")++"<lambda>")∈W0.tabs:=g.st.tabs▸e4;refine⟨⟨c,Pt,e2,e3,(g.blt _ e5).1,(g.blt _ e5).2,e4⟩,g.st.tabs▸htn,g.st.B7▸htag,λc m f' ef=>Nat.lt_of_lt_of_le (G.Lu c m f' ef).2.2 hnd,λl fi=>fns[l]? =some fi,e1,λW' base' w1 w2 w3 c m f' ef=>?_⟩;rw[h5,h6,h7]at w3;exact⟨_,_,(ihg W' base' ⟨⟨g.st.K.trans w1.K,g.st.w.trans w1.w,g.st.B7.trans w1.B7,g.st.tabs.trans w1.tabs,λn hn=>(w1.C2 n hn).trans (g.st.C2 n hn)⟩,w3,λq hq=>⟨RE w2 (g.blt q hq).1,(g.blt q hq).2⟩⟩).1 f' (G.Lu c m f' ef).2.2⟩
    exact⟨_,V6 L ⟨rfl,rfl,hr.mono (by lia),by rw[h7];exact G.xk,by rw[h7];exact G.xh⟩ (Rf rfl rfl rfl λ_ _ z=>z) hk h2 hnp (by lia) hsp⟩
   .obtain⟨qual,as,b,sc,clos,pm,ctv,cc,t,hb,hcd,hS,has,hcell,hlen,hv,hnd2,hall,ht,hLT⟩:=g.FR n hn1 hn2;refine⟨⟨_,_,hb,rfl⟩,λA outer s H Q E hr e0 hsp=>?_⟩;have hLT:fns[Ez n]? =some ⟨(AX sc).length,(AX sc).length,[.ret (some t)]⟩:=hLT
    have ecf:A0 fns mt A1 (k + 1) (Ez n)=D4 (A0 fns mt A1 k) mt A1 ⟨(AX sc).length,(AX sc).length,[.ret (some t)]⟩:=by
     funext cs
     show(match fns[Ez n]? with|some fi=>D4 (A0 fns mt A1 k) mt A1 fi cs|none=>.stuck)=_;rw[hLT]
    have htb:CV W H:=by obtain⟨cs,os,hR,_⟩:=hsp;exact hR.tb
    rw[ecf]at hsp;have hq:=Xw (X:=HY P w K mg base (AX sc) qual sc (W.C2 n) (.ref cc) clos A outer s H E) (Rf rfl rfl rfl λ_ _ z=>z) hlen hsp
    have hrec:s.heap.CodeRec (.ref cc) qual:=by
     obtain⟨oc,u,us,tk,d1,d2,d3⟩:=htb.2 _ hcd;exact⟨cc,oc,us,tk,rfl,(e0.Ak _ _ d1).1,d2,d3⟩
    have fs:∀i,i < nd->ar (HY P w K mg base (AX sc) qual sc (W.C2 n) (.ref cc) clos A outer s H E) W (A0 fns mt A1 k) (2*k+4) i:=λi hi=>⟨⟨_,_,ih.1 i hi⟩⟩
    have hj:2*(k+1)+4=(2*k+4+1)+1:=by lia
    rw[hj]at hr
    have L:CW (HZ sc fnt clt gl) (HY P w K mg base (AX sc) qual sc (W.C2 n) (.ref cc) clos A outer s H E) W (A0 fns mt A1 k) mt (2 * k + 4):=by
     refine⟨G.kk,hw,rfl,hnd2,fA.refl _,λz=>(by cases z),rfl,hr.deeper _,PassesOwn.leaving,G.gl,G.own,?_,G.cls,⟨?_⟩,G.fld,G.fR,λlp q e=>(by cases e),λz=>(by cases z)⟩
     .intro x f' e;obtain⟨g1,g2,g3⟩:=G.fns x f' e;exact⟨g1,g2,fs f' g3⟩
     .intro c m f' e;obtain⟨g1,g2,g3⟩:=G.Lu c m f' e;exact⟨g1,g2,fs f' g3⟩
    have has':=HG has;exact Uk e0 hr hS hb hrec (by rw[has'];rfl) hcell hlen hv ((Di b).1 L ht).v hq
end
inductive Each{α:Type}(R:α->Prop):List α->Prop where
 |nil:Each R []
 |cons {a:α} {l:List α} (h:R a) (t:Each R l):Each R (a::l)
theorem Each.mem{R:α->Prop}{l:List α}(h:Each R l):∀a∈l,R a:=by
 induction h with
 |nil=>intro a ha;cases ha
 |cons h t ih=>
   intro a ha;rcases mK ha with z|z
   .rw[z];exact h
   .exact ih a z
theorem Each.look[BEq α][LawfulBEq α]{R:α×β->Prop}{l:List (α×β)}(h:Each R l){a:α}{b:β}(e:l.lookup a=some b):R (a,b):=by
 induction h with
 |nil=>simp at e
 |@cons q l h t ih=>
   rw[show q=(q.1,q.2)from rfl,lookup_cons]at e;cases hq:a == q.1 with
   |true=>
     rw[hq]at e;cases e;rw[eq_of_beq hq];exact h
   |false=>rw[hq]at e;exact ih e
noncomputable def fnOf(tf tc:List (Str×Nat))(tg:List (Str×P))(lm:List (Pos×Nat×EC))(st:Stmt):EC:=(gf st (UR st tf tc tg [] lm)).getD default
variable{lm:List (Pos×Nat×EC)}{qual:Str}
theorem Z2{K:PySem.W.Frag}{tf tc:List (Str×Nat)}{tg:List (Str×P)}{fl:List EC}{f:Nat}{st:Stmt}{fd:FuncData}(F:BW K x qual st (W.C2 f) fd)(S:Cv (namesOf st) (Ee st) (Ah st))(hs:(gf st (UR st tf tc tg [] lm)).isSome=true)(hb:Binds K fd (Ee st) [])
 (e1:N6 st=BN st)(e2:Jo st=Ah st)(hl:∀lp q,lm.lookup lp=some q->fl[q.1]? =some q.2/\∃c P,fd.code= .ref c/\codeHdIn K c P=true/\(P,lp,(qual++".<locals>.")++"<lambda>")∈W.tabs):Hf K W tg tf tc fl f (Iv.fnOf tf tc tg lm st) fd (Ee st):=by
 obtain⟨fi,hfi⟩:=Option.isSome_iff_exists.mp hs;have e:Iv.fnOf tf tc tg lm st=fi:=by unfold Iv.fnOf;rw[hfi];rfl
 rw[e];unfold gf at hfi;obtain⟨b,hb',rfl⟩:=oM hfi;exact⟨x,qual,st,UR st tf tc tg [] lm,F,S,by rw[<-e1];exact hb',rfl,rfl,e2,rfl,rfl,rfl,rfl,hb,hl⟩
theorem UN{K:PySem.W.Frag}{tf tc:List (Str×Nat)}{tg:List (Str×P)}{fl:List EC}{f:Nat}{st:Stmt}{fd:FuncData}(F:BW K x qual st (W.C2 f) fd)(S:Cv (namesOf st) (Ee st) (Ah st))(hs:(gf st (UR st tf tc tg [] lm)).isSome=true)
 (h:∀(kV doc pm:Value) (an:Option Addr) (cdv ct:Value) (us:List Value),us.length=(Ee st).length->bindArgs (PySem.W.fnOf x qual (Jn st) (BN st) (Ah st) .none kV doc pm an cdv ct) ⟨us,[]⟩=pure ((Ee st).zip us))(e1:N6 st=BN st)(e2:Jo st=Ah st)
 (hl:∀lp q,lm.lookup lp=some q->fl[q.1]? =some q.2/\∃c P,fd.code= .ref c/\codeHdIn K c P=true/\(P,lp,(qual++".<locals>.")++"<lambda>")∈W.tabs):Hf K W tg tf tc fl f (Iv.fnOf tf tc tg lm st) fd (Ee st):=Z2 F S hs (F.binds h) e1 e2 hl
noncomputable def Ms(n:Nat)(ts:List (Addr×Addr))(K:PySem.W.Frag):Sp:=λvs H Q _=>∃(a:Addr) (ns:List Int),vs=[.ref a]/\Ve K H a (ns.map V.int)/\ns.length<=n/\(∀p∈ts,H p.2=some (.Iy #[]))/\∀H',Q (.bl true) H'
variable{ts:List (Addr×Addr)}
theorem Uj{K:PySem.W.Frag}(hK:W.K=K)(ht:∀q∈W.tabs,∃p∈ts,p.2=q.1)(hc:W.aO=[]){r:List C->CR}(hr:∀ns:List Int,ns.length<=n->∃outs,r [.b (.ro (ns.map .int))]= .ok (.p (.bl true)) outs)(vs:List V)(H:Hp)(Q:VK)(E:XK)(h:Ms n ts K vs H Q E):IC W r vs H Q E:=by
 obtain⟨a,ns,rfl,h1,h2,h3,q⟩:=h;obtain⟨outs,e⟩:=hr ns h2;refine⟨[.b (.ro (ns.map .int))],[],⟨.ref a,[],[],[],rfl,⟨⟨a,_,rfl,hK▸h1,HM ns⟩,rfl⟩,⟨rfl,rfl,λq hq=>?_,λq hq=>by rw[hc]at hq;cases hq⟩,rfl⟩,.nil,?_⟩
 .obtain⟨p,hp,e⟩:=ht q hq;exact⟨#[],by rw[<-e];exact h3 p hp,trivial,λcv z=>by cases z⟩
 .rw[e];intro v H' o oos r1 _ _ _;rw[(aP (c:=.p (.bl true)) r1).1];exact q H'
theorem Oa{P:Program}{w:World}{K:PySem.W.Frag}{mg mb:Str->Option Value}{k:Nat}{fa:Addr}{fd:FuncData}{x:Str}{s₁:Shared}{vs:List Value}{ns:List Int}
 (KX:K.In s₁.heap)(hns:s₁.heap.Ns mainGlobals mg)(hb:s₁.heap.Ns builtinsNs mb)(hbb:∀x:Str,x≠"__name__"->mb x=bootBuiltins x)(hlim:s₁.heap.NoLimit)(hg:s₁.gens= #[])
 (hbm:∃bm ob,mg "__builtins__"=some (.ref bm)/\bm≠builtinsNs/\s₁.heap.get? bm=some ob/\ob.cls= .type "module"/\ob.dict=some builtinsNs/\ob.data= .plain)
 (hT:∀p∈ts,s₁.heap.get? p.2=some (tabObj #[])/\codeHdIn K p.1 p.2=true/\K.lookup p.2=none)
 (ha:s₁.heap.get? a=some {cls:=.type "list",data:=.seq vs.toArray})(hi:IntsAre vs ns)(hl:ns.length<=sizeLine)(hln:ns.length<=n)(hr:B3 k callerA)
 (F:∀base:Heap,K.In base->base.Ns mainGlobals mg->(∀p∈ts,base.BuiltinsAt mg p.2/\mainGlobals≠p.2)->CD P w K mg base (Xc.DI P w) k fa fd [x] (Ms n ts K))(hbind:∀(s:Shared) (u:Value),BindsTo s fd ⟨[u],[]⟩ [(x,u)]):
 codeAny (model P w) callerA (.call (.ref fa) ⟨[.ref a],[]⟩) (λr s'=>r= .ok (.ret (.bool true))/\OldK s₁.heap s'.heap/\s'.os=s₁.os/\AllBare s'.gens) s₁:=by
 have rv:=Hs hi;have lenV:=hi.length
 have haT:∀p∈ts,p.2≠a:=λp hp z=>by
  have:=(hT p hp).1;rw[z,ha]at this;cases this
 have core : ∀H:Hp,Ve K H a (ns.map V.int)->Dm P w H s₁.heap->(∀p∈ts,H p.2=some (.Iy #[]))->(∀b,H b≠none->(b=a/\∃o xs,H b=some (.Dl o (.lst xs)))\/∃p∈ts,p.2=b)->(H a≠none->K.lookup a=none)->
  codeAny (model P w) callerA (.call (.ref fa) ⟨[.ref a],[]⟩) (λr s'=>r= .ok (.ret (.bool true))/\OldK s₁.heap s'.heap/\s'.os=s₁.os/\AllBare s'.gens) s₁:=by
  intro H hS Ak hTb hA hK;have base_of:∀{b:Addr} {o:Obj},s₁.heap.get? b=some o->H b=none->(Hm s₁.heap H).get? b=some o:=λe n=>QV e n
  have noT:∀{b:Addr} {o:Obj},s₁.heap.get? b=some o->(∀vs,o.data≠.seq vs)->(∀vs,o.data≠.fields vs)->H b=none:=λ{b o} e d1 d2=>by
   cases q:H b with
   |none=>rfl
   |some u=>
     rcases hA b (by rw[q];simp)with⟨z,_⟩|⟨p,hp,z⟩
     .subst z;rw[ha]at e;cases e;exact absurd rfl (d1 _)
     .subst z;rw[(hT p hp).1]at e;cases e;exact absurd rfl (d2 _)
  have nsK:∀{b:Addr} {m:Str->Option Value},s₁.heap.Ns b m->(Hm s₁.heap H).Ns b m:=λ{b m} ⟨o,es,ep,e,d,r⟩=>⟨o,es,ep,base_of e (noT e (λ_ z=>by rw[d]at z;cases z) λ_ z=>by rw[d]at z;cases z),d,r⟩
  have hKb:K.In (Hm s₁.heap H):=λb o e=>base_of (KX b o e) (by
   cases q:H b with
   |none=>rfl
   |some u=>
     rcases hA b (by rw[q];simp)with⟨z,_⟩|⟨p,hp,z⟩
     .subst z;rw[hK (by rw[q];simp)]at e;cases e
     .subst z
      rw[(hT p hp).2.2]at e;cases e)
  have hM:Mod K mg (Hm s₁.heap H):=⟨hKb,nsK hns,⟨mb,nsK hb,hbb⟩,let⟨mc,h1,h2⟩:=hlim;⟨mc,nsK h1,h2⟩⟩;have e0:FG P w K mg (Hm s₁.heap H) callerA [] s₁ H:=⟨rfl,hM,λb o e=>TZ e,Nat.le_of_eq (Om _ _),trivial,λb hb=>absurd (show b∈([]:List Addr)from hb) (by simp),Ak,.of_eq hg⟩
  have hBl:∀p∈ts,(Hm s₁.heap H).BuiltinsAt mg p.2/\mainGlobals≠p.2:=λp hp=>by
   obtain⟨bm,ob,b1,b2,b3,b4,b5,b6⟩:=hbm;obtain⟨og,es,ep,g1,g2,_⟩:=hns;refine⟨⟨bm,ob,b1,b2,λz=>?_,λz=>?_,base_of b3 (noT b3 (λ_ z=>by rw[b6]at z;cases z) λ_ z=>by rw[b6]at z;cases z),b4,b5,b6⟩,λz=>?_⟩
   .rw[z,g1]at b3;cases b3;rw[b6]at g2;cases g2
   .rw[z,(hT p hp).1]at b3;cases b3;cases b6
   .rw[z,(hT p hp).1]at g1;cases g1;cases g2
  refine codeAny_mono ((F _ hKb (nsK hns) hBl).run callerA [] s₁ H ⟨[.ref a],[]⟩ [.ref a] [.ref a] (λv _=>v= .bl true) E0 hr e0 (hbind s₁ (.ref a)) (.cons rfl .nil) ⟨a,ns,rfl,hS,hln,hTb,λ_=>rfl⟩) λr s' h=>?_
  cases r with
  |error e=>obtain⟨_,_,_,_,_,_,_,_,_,_,_,_,_,_,q⟩:=h;exact False.elim q
  |ok fl =>
    cases fl with
    |next=>exact False.elim h
    |brk=>exact False.elim h
    |cont=>exact False.elim h
    |ret u =>
      obtain⟨v,H',os,bare,un,hok',r',q⟩:=h;have q':v= .bl true:=q;subst q';obtain rfl:u=Value.bool true:=r'
      have old:∀b o,s₁.heap.get? b=some o->asItWas s₁.heap s'.heap b o:=λb o e=>by
       cases q:H b with
       |none=>exact .inl (un.keep b o e q (by intro z;exact absurd (show b∈([]:List Addr)from z) (by simp)) (by simp))
       |some u=>
         rcases hA b (by rw[q];simp)with⟨_,ob,xs,z⟩|⟨p,hp,z⟩
         .have z2:=un.Dk b ob _ z;obtain⟨e1,_⟩:=Ak b _ z;obtain⟨e2,_⟩:=hok' b _ z2;rw[e]at e1;cases e1;exact .inl e2
         .subst z;obtain⟨h1,h2,h3⟩:=hT p hp;rw[h1]at e;cases e;obtain⟨more,e2⟩:=un.EI p.2 #[] (hTb p hp);have e3:s'.heap.get? p.2=some {cls:=.none,data:=.fields (#[]++more)}:=hok' p.2 _ e2;obtain⟨oc,vs',_,_,_,_,_,_,_,c1,c2,c3,c4,_⟩:=codeHd_of_K KX h2;exact .inr (.inl ⟨⟨p.1,oc,vs',c1,c2,c3,c4⟩,rfl,#[],more,rfl,e3⟩)
      refine⟨rfl,⟨old,λb o e=>?_⟩,os,bare⟩;rcases old b o e with z|⟨_,_,vs,more,_,z⟩|⟨_,_,⟨o',_,_,z,_⟩,_⟩
      .exact⟨_,z⟩
      .exact⟨_,z⟩
      .exact⟨_,z⟩
 have tabOk:∀(H:Hp) p,p∈ts->Bc P w H s₁.heap p.2 (.Iy #[]):=λH p hp=>(hT p hp).1
 by_cases hk:K.lookup a=none
 .refine core (λb=>if b∈ts.map (·.2)then some (.Iy #[])else if b=a then some (.Dl {cls:=.type "list",data:=.seq vs.toArray} (.lst (ns.map V.int)))else none) ?_ (λb u z=>?_) (λp hp=>iP (mem_map_of_mem hp)) (λb hb=>?_) λ_=>hk
  .refine .inl ⟨{cls:=.type "list",data:=.seq vs.toArray},?_⟩;refine(iN λz=>?_).trans (iP rfl);obtain⟨p,hp,e⟩:=mem_map.mp z;exact haT p hp e
  .by_cases hb:b∈ts.map (·.2)
   .have z':=(iP hb).symm.trans z;cases z';obtain⟨p,hp,e⟩:=mem_map.mp hb;rw[<-e];exact tabOk _ p hp
   .by_cases hba:b=a
    .have z':=((iN hb).trans (iP hba)).symm.trans z;cases z';subst hba;exact⟨ha,by rw[lM];exact hl,vs,_,rv,ha⟩
    .have z':=((iN hb).trans (iN hba)).symm.trans z;cases z'
  .by_cases hbt:b∈ts.map (·.2)
   .obtain⟨p,hp,e⟩:=mem_map.mp hbt;exact .inr ⟨p,hp,e⟩
   .by_cases hba:b=a
    .refine .inl ⟨hba,_,_,(iN hbt).trans (iP hba)⟩
    .exact absurd ((iN hbt).trans (iN hba)) hb
 .obtain⟨o,hko⟩:∃o,K.lookup a=some o:=by
   cases q:K.lookup a with
   |none=>exact absurd q hk
   |some o=>exact⟨o,rfl⟩
  have e:=KX a o hko;rw[ha]at e;cases e;refine core (λb=>if b∈ts.map (·.2)then some (.Iy #[])else none) (.inr ⟨_,vs.toArray,_,hko,rfl,rfl,rfl,by rw[size_toArray,lenV];exact hl,by simpa using rv⟩) (λb u z=>?_) (λp hp=>iP (mem_map_of_mem hp)) (λb hb=>?_) λz=>?_
  .by_cases hb:b∈ts.map (·.2)
   .have z':=(iP hb).symm.trans z;cases z';obtain⟨p,hp,e⟩:=mem_map.mp hb;rw[<-e];exact tabOk _ p hp
   .have z':=(iN hb).symm.trans z;cases z'
  .by_cases hbt:b∈ts.map (·.2)
   .obtain⟨p,hp,e⟩:=mem_map.mp hbt;exact .inr ⟨p,hp,e⟩
   .exact absurd (iN hbt) hb
  .refine absurd (iN λy=>?_) z;obtain⟨p,hp,e⟩:=mem_map.mp y;exact haT p hp e
theorem walk{l:PySem.W.OpenLaw}{q:Program}{loose:List Str}{XP:(Str->Option Value)->Heap->Prop}{YP:World->Heap->Prop}{d:DefRec}{K:Params->PySem.W.Frag}(n:Nat)(k:Nat)(ts:List (Addr×Addr))(hn:l.most=some n)(hz:n<=sizeLine)(hdf:d.params.defaults=[])(hr:B3 k callerA)
 (hY:∀(w:World) (h:Heap),YP w h->(K w.params).In h)(hT:∀(w:World) (h:Heap),YP w h->∀p∈ts.map (·.2),h.get? p=some (tabObj #[]))
 (F:∀(w:World) (mg:Str->Option Value) (fa:Addr) (h:Heap),(K w.params).In h->h.Ns mainGlobals mg->mg d.name=some (.ref fa)->
   (∀p∈ts,codeHdIn (K w.params) p.1 p.2=true/\(K w.params).lookup p.2=none)/\
   ∃fd:FuncData,(∀(s:Shared) (u:Value),BindsTo s fd ⟨[u],[]⟩ [("_law_script",u)])/\∀base:Heap,(K w.params).In base->base.Ns mainGlobals mg->(∀p∈ts,base.BuiltinsAt mg p.2/\mainGlobals≠p.2)->CD l.prog w (K w.params) mg base (Xc.DI l.prog w) k fa fd ["_law_script"] (Ms n ts (K w.params))):
 PySem.W.WalkO q loose XP YP l.row.toRowW d [] (λf vs=>PySem.call f vs):=by
 refine Att.KN hn hdf λw s₀ s₁ mg mb fa o pm cd doc a vs ns G Y ho hd hcd hmg hobj hints hlen hg=>?_
 have KX:=hY w _ Y;obtain⟨hC,fd,hb,hF⟩:=F w mg fa _ KX G.T.g hmg;exact Oa KX G.T.g G.T.b G.T.builtins G.T.nolimit hg G.T.bmain (λp hp=>⟨hT w _ Y p.2 (mem_map_of_mem hp),hC p hp⟩) hobj hints (Nat.le_trans hlen hz) hlen hr hF hb
end Iv
abbrev _root_.sP(x:Iv.P):Option Iv.C:=some (.p x)
abbrev _root_.sL(x:List Iv.P):Option Iv.C:=some (.lst x)
abbrev _root_.sD(x:List (Iv.P×Iv.P)):Option Iv.C:=some (.D2 x)
namespace Lk50
open PySem L2 Iv PyProof.Rows
noncomputable def bd(i:Nat):Stmt:=PySem.Challenge.pw_kinddeeds_k50_kinds_written.main.body.getD i (.Pass ⟨0,0,0,0⟩)
noncomputable def OG:List Stmt:=[bd 0,bd 11,bd 12,bd 13,bd 14,bd 15,bd 18,bd 19,bd 21,bd 22,bd 24,bd 25,bd 26,bd 28,bd 29,bd 30,bd 31,bd 32,bd 33,bd 34,bd 35,bd 36,bd 37,bd 38,L2.inClass (bd 20) 0,L2.inClass (bd 20) 1,L2.inClass (bd 20) 2,L2.inClass (bd 20) 3,L2.inClass (bd 20) 4,L2.inClass (bd 20) 5,L2.inClass (bd 20) 6,L2.inClass (bd 20) 7,L2.inClass (bd 20) 8,L2.inClass (bd 20) 9,L2.inClass (bd 20) 10,L2.inClass (bd 20) 11,L2.inClass (bd 20) 12,L2.inClass (bd 20) 13,L2.inClass (bd 20) 14,L2.inClass (bd 20) 15,L2.inClass (bd 20) 16]
def st(i:Nat):Stmt:=OG.getD i (.Pass ⟨0,0,0,0⟩)
noncomputable def tf:List (Str×Nat):=[("_wall",0),("is_name",1),("is_whole",2),("is_open_kind",3),("has_made_form",4),("is_kind",5),("is_letter",6),("is_figure",7),("reader_of",8),("read_kind",9),("show_number",10),("in_brackets",11),("show_kind",12),("_law_cell_at",13),("_law_names",14),("_law_kind",15),("_law_same",16),("_law_put",17),("_law_kind_text",18),("_law_spoilt",19),("_law_read",20),("_law_is_kind",21),("_law_right",22),("law",23)]
noncomputable def tc:List (Str×Nat):=[("DeedsError",0),("NoProgram",1),("Twice",2),("NoSuch",3),("NoWords",4),("Reader",5)]
noncomputable def tg:List (Str×Iv.P):=[("MOST_LETTERS",.int 8),("MOST_PARTS",.int 3),("MOST_SIZE",.int 24),("MOST_FIGURES",.int 60)]
noncomputable def tm:List ((Nat×Str)×Nat):=[((5,"__init__"),24),((5,"is_before"),25),((5,"takes"),26),((5,"must_take"),27),((5,"must_end"),28),((5,"take_all"),29),((5,"name"),30),((5,"form_name"),31),((5,"number"),32),((5,"few"),33),((5,"kind"),34),((5,"kinds"),35),((5,"expression"),36),((5,"number_below"),37),((5,"args_here"),38),((5,"case"),39),((5,"arm"),40)]
def tl:List (Nat×Str):=[(5,"text"),(5,"at")]
noncomputable def mt:MT:=⟨λc m=>tm.lookup (c%1000,m),λc f=>tl.contains (c%1000,f),true,λn=>decide (n < 24)⟩
def dv:List (Nat×Nat):=[(34,41)]
noncomputable def dq(i:Nat):List (Pos×Nat×EC):=((N6 (st i)).flatMap iQ).map λq=>(q.1,(dv.lookup i).getD 0,(iR q.2.1 q.2.2 tf tc tg).getD default)
def QG(i:Nat):EC:=((dq i).map λq=>q.2.2).headD default
def LF(i:Nat):Pos:=((dq i).map λq=>q.1).headD ⟨0,0,0,0⟩
def fns:List EC:=(List.range 41).map (λi=>Iv.fnOf tf tc tg (dq i) (st i))++[QG 34]
theorem Ag(i:Nat)(h:i < 41):i < 41:=h
theorem dt:dq 34=[(LF 34,41,QG 34)]:=by kernel_rfl
theorem dP:fns[41]? =some (QG 34):=by kernel_rfl
noncomputable def V7(C:Addr)(bm:List Value):Bool:=bm.contains (.type "ValueError") && bm.contains (.type "BaseException") && !bm.contains (.type "AttributeError") && !bm.contains (.type "NameError") && Xc.Ql (.ref C::bm)
abbrev je(nm q:Str)(c N:Addr)(bs bm:List Value)(hdct:Bool)(sn:List Str)(sub:List Value)(ab:Bool)(col:Option Bool)(dd:Option Addr)(k0 k1 k2 k3 k5:Option Value):Obj:=excClassObj nm q c N bs bm hdct sn sub ab col dd k0 k1 k2 k3 k5 "ValueError.__new__"
variable{bm:List Value}{k0 k1 k2 k3 k5:Option Value}
theorem M8{K:PySem.W.Frag}{nm:Str}{bs sub:List Value}{hdct ab:Bool}{sn:List Str}{col:Option Bool}{dd:Option Addr}(x1:List.lookup c K=some (je nm q c N bs bm hdct sn sub ab col dd k0 k1 k2 k3 k5))(x2:V7 c bm=true):(∀h:Heap,K.In h->Xc.Df h c bm)/\Xc.HD K c=true:=by
 unfold V7 at x2;rw[bA,bA,bA,bA]at x2;obtain⟨⟨⟨⟨y1,y2⟩,y3⟩,y4⟩,y5⟩:=x2;refine⟨λh X=>⟨⟨_,_,_,_,_,_,_,_,_,_,_,_,_,_,_,X _ _ x1⟩,y1,y2,by simpa using y3,by simpa using y4⟩,?_⟩;unfold Xc.HD clsIn;rw[x1];exact y5
theorem aV{K:PySem.W.Frag}{fd:FuncData}(xc:(∀h:Heap,K.In h->Xc.Df h c bm)/\Xc.HD K c=true)(x3:keepIn K (.ref c)=true)(x4:findIn K (.ref c) "__init__"=some (some (.ref f)))(x5:isFn K (.ref f)=true)
 (x6:findIn K (.ref c) "__setattr__"=some (some (.builtin "object.__setattr__")))(x7:takerIn K c "place"=some none)(x8:hasDictIn K c=true)(x9:BW K "__init__" "DeedsError.__init__" (L2.inClass (bd 2) 0) f fd):∃f sf st fd,Xc.Xk K c f sf st fd:=by
 refine⟨f,"self",L2.inClass (bd 2) 0,fd,⟨bm,xc.1⟩,x3,x4,x5,x6,xc.2,x7,x8,⟨_,_,x9⟩,⟨by kernel_rfl,by kernel_rfl,by kernel_rfl,by decide +kernel,by kernel_rfl,by decide +kernel,by decide +kernel⟩,x9.binds ?_,by kernel_rfl,by kernel_rfl,⟨_,_,_,_,rfl⟩,by decide,by decide,by decide⟩;intro _ _ _ _ _ _ us hl;rcases us with _|⟨_,_|⟨_,_|_⟩⟩<;>first|rfl|cases hl
theorem LL{K:PySem.W.Frag}{C:Addr}(h:hasDictIn K n=true/\typeIn K (.ref n)=some (.type "type")/\subIn K (.ref C) (.ref n)=some false/\(C == n)=false):kitOne K (.ref C) (.ref n)=some false:=by
 obtain⟨h1,h2,h3,h4⟩:=h;unfold kitOne;rw[iN (by simpa using h4)];unfold kitCls;obtain⟨cd,hc,_⟩:=any_some h1;simp[hc,h2,h3]
theorem Ym{K:PySem.W.Frag}{C:Addr}(h3:subIn K (.ref C) (.type "ValueError")=some true):kitOne K (.ref C) (.type "ValueError")=some true:=by
 unfold kitOne;rw[iN (by simp)];unfold kitCls;have:PySem.W.kitMeta "ValueError"=true:=by decide +kernel
 simp[this,h3]
theorem QH{K:PySem.W.Frag}(h1:kitOne K t a=some false)(h2:kitOne K t b=some false)(h3:kitOne K t c=some false):kitAny K t [a,b,c]=some false:=by
 simp[kitAny,h1,h2,h3]
theorem all_mk{l:PySem.W.OpenLaw}{w:World}{K:PySem.W.Frag}{h:Heap}{mg:Str->Option Value}{fa c_0 c_1 c_2 c_3 c_4 c_5:Addr}{d0 d1 d2 d3 d4 d5 d6 d7 d8 d9 d10 d11 d12 d13 d14 d15 d16 d17 d18 d19 d20 d21 d22 d23 d24 d25 d26 d27 d28 d29 d30 d31 d32 d33 d34 d35 d36 d37 d38 d39 d40:FuncData}{cc34 cp34:Addr}{t0 t1 t2 t3:Tok}{fx Nx Ny:Addr}{nmx qx nmy qy:Str}{bsx bmx subx bsy bmy suby:List Value}{hdx abx hdy aby:Bool}{snx sny:List Str}{colx coly:Option Bool}{ddx ddy:Option Addr}{j0 j1 j2 j3 j5:Option Value}{dx:FuncData}(hlaw:∀ns:List Int,ns.length<=63->∃outs,A0 fns mt A1 98 23 [.b (.ro (ns.map .int))]= .ok (.p (.bl true)) outs)(X:K.In h)(G:h.Ns mainGlobals mg)(hfa:mg "law"=some (.ref fa))
 (ac0:nsIn K mainGlobals "DeedsError"=some (some (.ref c_0)))
 (ac1:nsIn K mainGlobals "NoProgram"=some (some (.ref c_1)))
 (ac2:nsIn K mainGlobals "Twice"=some (some (.ref c_2)))
 (ac3:nsIn K mainGlobals "NoSuch"=some (some (.ref c_3)))
 (ac4:nsIn K mainGlobals "NoWords"=some (some (.ref c_4)))
 (ac5:nsIn K mainGlobals "Reader"=some (some (.ref c_5)))
 (a0:nsIn K mainGlobals "_wall"=some (some (.ref f0)))(l0:BW K "_wall" "_wall" (st 0) f0 d0)
 (a1:nsIn K mainGlobals "is_name"=some (some (.ref f1)))(l1:BW K "is_name" "is_name" (st 1) f1 d1)
 (a2:nsIn K mainGlobals "is_whole"=some (some (.ref f2)))(l2:BW K "is_whole" "is_whole" (st 2) f2 d2)
 (a3:nsIn K mainGlobals "is_open_kind"=some (some (.ref f3)))(l3:BW K "is_open_kind" "is_open_kind" (st 3) f3 d3)
 (a4:nsIn K mainGlobals "has_made_form"=some (some (.ref f4)))(l4:BW K "has_made_form" "has_made_form" (st 4) f4 d4)
 (a5:nsIn K mainGlobals "is_kind"=some (some (.ref f5)))(l5:BW K "is_kind" "is_kind" (st 5) f5 d5)
 (a6:nsIn K mainGlobals "is_letter"=some (some (.ref f6)))(l6:BW K "is_letter" "is_letter" (st 6) f6 d6)
 (a7:nsIn K mainGlobals "is_figure"=some (some (.ref f7)))(l7:BW K "is_figure" "is_figure" (st 7) f7 d7)
 (a8:nsIn K mainGlobals "reader_of"=some (some (.ref f8)))(l8:BW K "reader_of" "reader_of" (st 8) f8 d8)
 (a9:nsIn K mainGlobals "read_kind"=some (some (.ref f9)))(l9:BW K "read_kind" "read_kind" (st 9) f9 d9)
 (a10:nsIn K mainGlobals "show_number"=some (some (.ref gr)))(l10:BW K "show_number" "show_number" (st 10) gr d10)
 (a11:nsIn K mainGlobals "in_brackets"=some (some (.ref gq)))(l11:BW K "in_brackets" "in_brackets" (st 11) gq d11)
 (a12:nsIn K mainGlobals "show_kind"=some (some (.ref aN)))(l12:BW K "show_kind" "show_kind" (st 12) aN d12)
 (a13:nsIn K mainGlobals "_law_cell_at"=some (some (.ref gp)))(l13:BW K "_law_cell_at" "_law_cell_at" (st 13) gp d13)
 (a14:nsIn K mainGlobals "_law_names"=some (some (.ref gn)))(l14:BW K "_law_names" "_law_names" (st 14) gn d14)
 (a15:nsIn K mainGlobals "_law_kind"=some (some (.ref gm)))(l15:BW K "_law_kind" "_law_kind" (st 15) gm d15)
 (a16:nsIn K mainGlobals "_law_same"=some (some (.ref gk)))(l16:BW K "_law_same" "_law_same" (st 16) gk d16)
 (a17:nsIn K mainGlobals "_law_put"=some (some (.ref dX)))(l17:BW K "_law_put" "_law_put" (st 17) dX d17)
 (a18:nsIn K mainGlobals "_law_kind_text"=some (some (.ref aM)))(l18:BW K "_law_kind_text" "_law_kind_text" (st 18) aM d18)
 (a19:nsIn K mainGlobals "_law_spoilt"=some (some (.ref aL)))(l19:BW K "_law_spoilt" "_law_spoilt" (st 19) aL d19)
 (a20:nsIn K mainGlobals "_law_read"=some (some (.ref gj)))(l20:BW K "_law_read" "_law_read" (st 20) gj d20)
 (a21:nsIn K mainGlobals "_law_is_kind"=some (some (.ref dW)))(l21:BW K "_law_is_kind" "_law_is_kind" (st 21) dW d21)
 (a22:nsIn K mainGlobals "_law_right"=some (some (.ref gh)))(l22:BW K "_law_right" "_law_right" (st 22) gh d22)
 (a23:nsIn K mainGlobals "law"=some (some (.ref dU)))(l23:BW K "law" "law" (st 23) dU d23)
 (a24:findIn K (.ref c_5) "__init__"=some (some (.ref dS)))(l24:BW K "__init__" "Reader.__init__" (st 24) dS d24)(n24:isFn K (.ref dS)=true)
 (a25:findIn K (.ref c_5) "is_before"=some (some (.ref dR)))(l25:BW K "is_before" "Reader.is_before" (st 25) dR d25)(n25:isFn K (.ref dR)=true)
 (a26:findIn K (.ref c_5) "takes"=some (some (.ref aK)))(l26:BW K "takes" "Reader.takes" (st 26) aK d26)(n26:isFn K (.ref aK)=true)
 (a27:findIn K (.ref c_5) "must_take"=some (some (.ref aJ)))(l27:BW K "must_take" "Reader.must_take" (st 27) aJ d27)(n27:isFn K (.ref aJ)=true)
 (a28:findIn K (.ref c_5) "must_end"=some (some (.ref aI)))(l28:BW K "must_end" "Reader.must_end" (st 28) aI d28)(n28:isFn K (.ref aI)=true)
 (a29:findIn K (.ref c_5) "take_all"=some (some (.ref dQ)))(l29:BW K "take_all" "Reader.take_all" (st 29) dQ d29)(n29:isFn K (.ref dQ)=true)
 (a30:findIn K (.ref c_5) "name"=some (some (.ref aH)))(l30:BW K "name" "Reader.name" (st 30) aH d30)(n30:isFn K (.ref aH)=true)
 (a31:findIn K (.ref c_5) "form_name"=some (some (.ref f31)))(l31:BW K "form_name" "Reader.form_name" (st 31) f31 d31)(n31:isFn K (.ref f31)=true)
 (a32:findIn K (.ref c_5) "number"=some (some (.ref Wv)))(l32:BW K "number" "Reader.number" (st 32) Wv d32)(n32:isFn K (.ref Wv)=true)
 (a33:findIn K (.ref c_5) "few"=some (some (.ref aG)))(l33:BW K "few" "Reader.few" (st 33) aG d33)(n33:isFn K (.ref aG)=true)
 (a34:findIn K (.ref c_5) "kind"=some (some (.ref OI)))(l34:BW K "kind" "Reader.kind" (st 34) OI d34)(n34:isFn K (.ref OI)=true)
 (k34:d34.code= .ref cc34)(h34:codeHdIn K cc34 cp34=true)(u34:K.lookup cp34=none)
 (a35:findIn K (.ref c_5) "kinds"=some (some (.ref f35)))(l35:BW K "kinds" "Reader.kinds" (st 35) f35 d35)(n35:isFn K (.ref f35)=true)
 (a36:findIn K (.ref c_5) "expression"=some (some (.ref f36)))(l36:BW K "expression" "Reader.expression" (st 36) f36 d36)(n36:isFn K (.ref f36)=true)
 (a37:findIn K (.ref c_5) "number_below"=some (some (.ref f37)))(l37:BW K "number_below" "Reader.number_below" (st 37) f37 d37)(n37:isFn K (.ref f37)=true)
 (a38:findIn K (.ref c_5) "args_here"=some (some (.ref f38)))(l38:BW K "args_here" "Reader.args_here" (st 38) f38 d38)(n38:isFn K (.ref f38)=true)
 (a39:findIn K (.ref c_5) "case"=some (some (.ref f39)))(l39:BW K "case" "Reader.case" (st 39) f39 d39)(n39:isFn K (.ref f39)=true)
 (a40:findIn K (.ref c_5) "arm"=some (some (.ref f40)))(l40:BW K "arm" "Reader.arm" (st 40) f40 d40)(n40:isFn K (.ref f40)=true)
 (x1:List.lookup c_4 K=some (je nmx qx c_4 Nx bsx bmx hdx snx subx abx colx ddx k0 k1 k2 k3 k5))(x2:V7 c_4 bmx=true)(x3:keepIn K (.ref c_4)=true)(x4:findIn K (.ref c_4) "__init__"=some (some (.ref fx)))(x5:isFn K (.ref fx)=true)
 (x6:findIn K (.ref c_4) "__setattr__"=some (some (.builtin "object.__setattr__")))(x7:takerIn K c_4 "place"=some none)(x8:hasDictIn K c_4=true)(x9:BW K "__init__" "DeedsError.__init__" (L2.inClass (bd 2) 0) fx dx)
 (w1:List.lookup c_0 K=some (je nmy qy c_0 Ny bsy bmy hdy sny suby aby coly ddy j0 j1 j2 j3 j5))(w2:V7 c_0 bmy=true)(w3:bmx.contains (.ref c_0)=true)
 (w4:findIn K (.ref c_4) "__getattribute__"=some (some (.builtin "BaseException.__getattribute__")))(w5:findIn K (.ref c_4) "__getattr__"=some none)(w6:mroIn K c_4 (.type "BaseException")=some true)(w7:findIn K (.ref c_4) "place"=some none)
 (w8:findIn K (.ref c_4) "__class__"=some (some (.builtin "object.__class__")))(w9:specialIn K (.builtin "object.__class__") "__get__"=some (some (.builtin "getset_descriptor.__get__")))(wa:takesIn K (.builtin "object.__class__")=some true)(wb:mroIn K c_4 (.type "object")=some true)(wc:subIn K (.ref c_4) (.type "ValueError")=some true)
 (v1:hasDictIn K c_1=true/\typeIn K (.ref c_1)=some (.type "type")/\subIn K (.ref c_4) (.ref c_1)=some false/\(c_4 == c_1)=false)
 (v3:hasDictIn K c_3=true/\typeIn K (.ref c_3)=some (.type "type")/\subIn K (.ref c_4) (.ref c_3)=some false/\(c_4 == c_3)=false)
 (v2:hasDictIn K c_2=true/\typeIn K (.ref c_2)=some (.type "type")/\subIn K (.ref c_4) (.ref c_2)=some false/\(c_4 == c_2)=false)
 (cl5:Df K c_5)(cm5:makesIn K c_5=true)(cp5:keepIn K (.ref c_5)=true)
 (e0:findIn K (.ref c_5) "text"=some none)
 (e1:findIn K (.ref c_5) "at"=some none)
 (z:Each (λx=>nsIn K mainGlobals x=some none) Jv)
 (y0:nsIn K mainGlobals "MOST_LETTERS"=some (some (.int 8 t0)))
 (y1:nsIn K mainGlobals "MOST_PARTS"=some (some (.int 3 t1)))
 (y2:nsIn K mainGlobals "MOST_SIZE"=some (some (.int 24 t2)))
 (y3:nsIn K mainGlobals "MOST_FIGURES"=some (some (.int 60 t3)))
 :(∀p∈([(cc34,cp34)]:List (Addr×Addr)),codeHdIn K p.1 p.2=true/\K.lookup p.2=none)/\∃fd:FuncData,(∀(s:Shared) (v:Value),BindsTo s fd ⟨[v],[]⟩ [("_law_script",v)])/\∀base:Heap,K.In base->base.Ns mainGlobals mg->(∀p∈([(cc34,cp34)]:List (Addr×Addr)),base.BuiltinsAt mg p.2/\mainGlobals≠p.2)->CD l.prog w K mg base (Xc.DI l.prog w) 200 fa fd ["_law_script"] (Ms 63 [(cc34,cp34)] K):=by
 refine⟨λp hp=>by simp only[mem_cons,not_mem_nil,or_false]at hp;rcases hp with rfl<;>exact⟨by assumption,by assumption⟩,?_⟩
 have e:dU=fa:=by
  have e:=(mg_of X G a23).symm.trans hfa;injection e with e
  injection e
 subst e
 let fl:List Addr:=[f0,f1,f2,f3,f4,f5,f6,f7,f8,f9,gr,gq,aN,gp,gn,gm,gk,dX,aM,aL,gj,dW,gh,dU,dS,dR,aK,aJ,aI,dQ,aH,f31,Wv,aG,OI,f35,f36,f37,f38,f39,f40]
 let cl:List Addr:=[c_0,c_1,c_2,c_3,c_4,c_5]
 let W₀:Wd:=⟨K,w,λc=>cl.getD (c%1000) 0,λf=>fl.getD f 0,λ_=>false,0,[(cp34,LF 34,(Str.ofString "Reader.kind"++(".<locals>.":Str))++("<lambda>":Str))],[]⟩
 have hl34:∀lp q,(dq 34).lookup lp=some q->fns[q.1]? =some q.2/\∃c P,d34.code= .ref c/\codeHdIn K c P=true/\(P,lp,(Str.ofString "Reader.kind"++(".<locals>.":Str))++("<lambda>":Str))∈W₀.tabs:=by
  intro lp q hq;rw[dt,lookup_cons]at hq;cases hb:lp == LF 34 with
  |true=>
    rw[hb]at hq;cases hq;rw[eq_of_beq hb];exact⟨dP,cc34,cp34,k34,h34,by simp[W₀]⟩
  |false=>rw[hb]at hq;cases hq
 have D0:∀f,∃fd:FuncData,∀fi,f < 41->fns[f]? =some fi->Hf K W₀ tg tf tc fns f fi fd ((OG.map Ee).getD f []):=by
  intro f;rcases f with _|_|_|_|_|_|_|_|_|_|_|_|_|_|_|_|_|_|_|_|_|_|_|_|_|_|_|_|_|_|_|_|_|_|_|_|_|_|_|_|_|f
  all_goals first
   |(exact⟨d0,λfi h=>absurd h (by omega)⟩)
   | (apply Exists.intro
      intro fi hlt h;cases h;refine UN (W:=W₀) (by assumption) ⟨by kernel_rfl,by kernel_rfl,by kernel_rfl,by decide +kernel,by kernel_rfl,by decide +kernel,by decide +kernel⟩ (by kernel_rfl) ?_ rfl rfl ?_
      .intro _ _ _ _ _ _ us hl;rcases us with _|⟨_,_|⟨_,_|⟨_,_|⟨_,_|_⟩⟩⟩⟩<;>first|rfl|cases hl
      .first
       |exact hl34
       |(intro lp q hq;exact absurd (show(none:Option (Nat×EC))=some q from hq) nofun))
 obtain⟨FD,D⟩:=Classical.skolem.mp D0
 have eL:FD 23=d23:=by
  obtain⟨x,qual,st,ct,F,_⟩:=(D 23 _ (by omega) rfl).ex;obtain⟨_,_,_,_,_,_,_,_,_,_,lk,_⟩:=F.ex;obtain⟨_,_,_,_,_,_,_,_,_,_,lk2,_⟩:=l23.ex;have lk:=lk.symm.trans lk2;injection lk with lk
  injection lk with _ _ lk _
  injection lk with lk
 have Gb:aU K mg W₀ mt 41 tg tf tc:=by
  refine⟨rfl,λx p h=>?g1,λx hx _ _ _=>PySem.W.mg_none_of X G (z.mem x hx),λx f h=>?g3,λx c h=>?g4,λc m f h=>?g5,λc f h=>?g6,λc h=>?xk,λc cd n1 n2 n3 h1 h2 h3 h4 h5=>?xh,λi h=>?g7,λx p h=>?g8⟩
  case xk=>cases (show some 4=some c from h);exact aV (M8 x1 x2) x3 x4 x5 x6 x7 x8 x9
  case xh=>
   cases (show some 4=some c from h1);cases (show some 0=some cd from h2);cases (show some 1=some n1 from h3);cases (show some 3=some n2 from h4);cases (show some 2=some n3 from h5);exact⟨bmx,bmy,(M8 x1 x2).1,(M8 w1 w2).1,w3,⟨w4,w5,w6⟩,x8,w7,w8,w9,wa,wb,Ym wc,QH (LL v1) (LL v3) (LL v2)⟩
  case g7=>
   have h:i < 24:=of_decide_eq_true h;have ha:(List.range 24).all (λi=>tf.lookup (tf.getD i ("",0)).1 == some i)=true:=by kernel_rfl
   exact⟨_,eq_of_beq (all_eq_true.mp ha i (mem_range.mpr h))⟩
  case g8=>refine Each.look (l:=tg) (R:=λq:Str×Iv.P=>noFn q.2=true) ?_ h;unfold tg;exact(.cons rfl (.cons rfl (.cons rfl (.cons rfl .nil))))
  case g1=>refine Each.look (l:=tg) (R:=λq:Str×Iv.P=>∃u v,mg q.1=some u/\RelV v u/\∀H,Aw _ H q.2 v) ?_ h;unfold tg;exact(.cons ⟨_,.int 8,mg_of X G y0,⟨_,rfl⟩,λH=>Ae.mpr rfl⟩ (.cons ⟨_,.int 3,mg_of X G y1,⟨_,rfl⟩,λH=>Ae.mpr rfl⟩ (.cons ⟨_,.int 24,mg_of X G y2,⟨_,rfl⟩,λH=>Ae.mpr rfl⟩ (.cons ⟨_,.int 60,mg_of X G y3,⟨_,rfl⟩,λH=>Ae.mpr rfl⟩ .nil))))
  case g3=>refine Each.look (l:=tf) (R:=λq:Str×Nat=>mg q.1=some (.ref (fl.getD q.2 0))/\keepIn K (.ref (fl.getD q.2 0))=true/\q.2 < 41) ?_ h;unfold tf;exact(.cons ⟨mg_of X G a0,l0.kp,Ag 0 (by decide)⟩ (.cons ⟨mg_of X G a1,l1.kp,Ag 1 (by decide)⟩ (.cons ⟨mg_of X G a2,l2.kp,Ag 2 (by decide)⟩ (.cons ⟨mg_of X G a3,l3.kp,Ag 3 (by decide)⟩ (.cons ⟨mg_of X G a4,l4.kp,Ag 4 (by decide)⟩ (.cons ⟨mg_of X G a5,l5.kp,Ag 5 (by decide)⟩ (.cons ⟨mg_of X G a6,l6.kp,Ag 6 (by decide)⟩ (.cons ⟨mg_of X G a7,l7.kp,Ag 7 (by decide)⟩ (.cons ⟨mg_of X G a8,l8.kp,Ag 8 (by decide)⟩ (.cons ⟨mg_of X G a9,l9.kp,Ag 9 (by decide)⟩ (.cons ⟨mg_of X G a10,l10.kp,Ag 10 (by decide)⟩ (.cons ⟨mg_of X G a11,l11.kp,Ag 11 (by decide)⟩ (.cons ⟨mg_of X G a12,l12.kp,Ag 12 (by decide)⟩ (.cons ⟨mg_of X G a13,l13.kp,Ag 13 (by decide)⟩ (.cons ⟨mg_of X G a14,l14.kp,Ag 14 (by decide)⟩ (.cons ⟨mg_of X G a15,l15.kp,Ag 15 (by decide)⟩ (.cons ⟨mg_of X G a16,l16.kp,Ag 16 (by decide)⟩ (.cons ⟨mg_of X G a17,l17.kp,Ag 17 (by decide)⟩ (.cons ⟨mg_of X G a18,l18.kp,Ag 18 (by decide)⟩ (.cons ⟨mg_of X G a19,l19.kp,Ag 19 (by decide)⟩ (.cons ⟨mg_of X G a20,l20.kp,Ag 20 (by decide)⟩ (.cons ⟨mg_of X G a21,l21.kp,Ag 21 (by decide)⟩ (.cons ⟨mg_of X G a22,l22.kp,Ag 22 (by decide)⟩ (.cons ⟨mg_of X G a23,l23.kp,Ag 23 (by decide)⟩ .nil))))))))))))))))))))))))
  case g4=>refine Each.look (l:=tc) (R:=λq:Str×Nat=>mg q.1=some (.ref (cl.getD (q.2%1000) 0))/\∀f,mt.m q.2 (Str.ofString "__init__")=some f->Mk K (cl.getD (q.2%1000) 0) (fl.getD f 0)) ?_ h;unfold tc;exact(.cons ⟨mg_of X G ac0,λf h=>absurd (show(none:Option Nat)=some f from h) nofun⟩ (.cons ⟨mg_of X G ac1,λf h=>absurd (show(none:Option Nat)=some f from h) nofun⟩ (.cons ⟨mg_of X G ac2,λf h=>absurd (show(none:Option Nat)=some f from h) nofun⟩ (.cons ⟨mg_of X G ac3,λf h=>absurd (show(none:Option Nat)=some f from h) nofun⟩ (.cons ⟨mg_of X G ac4,λf h=>absurd (show(none:Option Nat)=some f from h) nofun⟩ (.cons ⟨mg_of X G ac5,λf h=>by cases (show some 24=some f from h);exact⟨cm5,a24,n24,cp5⟩⟩ .nil))))))
  case g5=>refine Each.look (l:=tm) (R:=λq:(Nat×Str)×Nat=>Df K (cl.getD q.1.1 0)/\(q.1.2≠Str.ofString "__init__"->Meth K (cl.getD q.1.1 0) q.1.2 (fl.getD q.2 0))/\q.2 < 41) ?_ (show tm.lookup (c%1000,m)=some f from h);unfold tm;exact(.cons ⟨cl5,λ_=>⟨a24,n24,l24.kp⟩,Ag 24 (by decide)⟩ (.cons ⟨cl5,λ_=>⟨a25,n25,l25.kp⟩,Ag 25 (by decide)⟩ (.cons ⟨cl5,λ_=>⟨a26,n26,l26.kp⟩,Ag 26 (by decide)⟩ (.cons ⟨cl5,λ_=>⟨a27,n27,l27.kp⟩,Ag 27 (by decide)⟩ (.cons ⟨cl5,λ_=>⟨a28,n28,l28.kp⟩,Ag 28 (by decide)⟩ (.cons ⟨cl5,λ_=>⟨a29,n29,l29.kp⟩,Ag 29 (by decide)⟩ (.cons ⟨cl5,λ_=>⟨a30,n30,l30.kp⟩,Ag 30 (by decide)⟩ (.cons ⟨cl5,λ_=>⟨a31,n31,l31.kp⟩,Ag 31 (by decide)⟩ (.cons ⟨cl5,λ_=>⟨a32,n32,l32.kp⟩,Ag 32 (by decide)⟩ (.cons ⟨cl5,λ_=>⟨a33,n33,l33.kp⟩,Ag 33 (by decide)⟩ (.cons ⟨cl5,λ_=>⟨a34,n34,l34.kp⟩,Ag 34 (by decide)⟩ (.cons ⟨cl5,λ_=>⟨a35,n35,l35.kp⟩,Ag 35 (by decide)⟩ (.cons ⟨cl5,λ_=>⟨a36,n36,l36.kp⟩,Ag 36 (by decide)⟩ (.cons ⟨cl5,λ_=>⟨a37,n37,l37.kp⟩,Ag 37 (by decide)⟩ (.cons ⟨cl5,λ_=>⟨a38,n38,l38.kp⟩,Ag 38 (by decide)⟩ (.cons ⟨cl5,λ_=>⟨a39,n39,l39.kp⟩,Ag 39 (by decide)⟩ (.cons ⟨cl5,λ_=>⟨a40,n40,l40.kp⟩,Ag 40 (by decide)⟩ .nil)))))))))))))))))
  case g6=>refine Each.mem (l:=tl) (R:=λq:Nat×Str=>Bu K (cl.getD q.1 0) q.2) ?_ (c%1000,f) (by simpa using(show tl.contains (c%1000,f)=true from h));unfold tl;exact(.cons e0 (.cons e1 .nil))
 refine⟨FD 23,λs v=>?b,λbase _ _ hB=>((Ra (P:=l.prog) (w:=w) (mg:=mg) (W0:=W₀) rfl Gb (by decide) (by decide) ?ndt (λc=>?tagc) D 98 W₀ base ⟨⟨rfl,rfl,rfl,rfl,λ_ _=>rfl⟩,λn h1 h2=>(by cases h2),λq hq=>?blt⟩).1 23 (by decide)).1.imp λvs H Q E z=>Uj rfl ?tabs rfl hlaw vs H Q E z⟩
 case ndt=>
  show([cp34]:List Addr).Nodup;simp
 case tagc=>show cl.getD (tag c%1000) 0=cl.getD (c%1000) 0;unfold tag;split<;>simp[Nat.add_mod]
 case blt=>
  simp only[W₀,mem_cons,not_mem_nil,or_false]at hq;rcases hq with rfl
  all_goals first
   |exact hB (cc34,cp34) (by simp)
 case tabs=>
  intro q hq;simp only[W₀,mem_cons,not_mem_nil,or_false]at hq;rcases hq with rfl
  all_goals first
   |exact⟨(cc34,cp34),by simp,rfl⟩
 case b=>
  obtain⟨_,_,_,_,_,_,_,_,_,ed,_⟩:=l23.ex;rw[eL,ed];exact .of_eq rfl
end Lk50
namespace Iv
theorem Bo(c:Env->Res Bool)(b:Env->Res Fl)(ρ:Env):A1 c b ρ=(c ρ).bind λx ρ=>if x then(b ρ).bind λf ρ=>match f with
 |.nx=>A1 c b ρ
 |.cnt=>A1 c b ρ
 |.brk=>.ok .nx ρ
 |.ret r=>.ok (.ret r) ρ
 else .ok .nx ρ:=by
 have up:∀n,Al c b (n+1) ρ≠.stuck->A1 c b ρ=Al c b (n+1) ρ:=λn h=>OM h
 have dn:∀{n ρ'},Al c b n ρ'≠.stuck->A1 c b ρ'=Al c b n ρ':=λh=>OM h
 have st:∀ρ',A1 c b ρ'= .stuck->∀n,Al c b n ρ'= .stuck:=λρ' h n=>by
  by_cases hn:Al c b n ρ'= .stuck
  .exact hn
  .rw[dn hn]at h;exact absurd h hn
 by_cases hex:∃n,Al c b n ρ≠.stuck
 .obtain⟨n,hn⟩:=hex;have hn1:Al c b (n+1) ρ≠.stuck:=by rw[Cr n ρ hn];exact hn
  rw[up n hn1,AK];rw[AK]at hn1;cases ec:c ρ with
  |stuck=>rfl
  |err x p ρ'=>rfl
  |ok x ρ1=>
    rw[ec,Res.A2]at hn1;rw[Res.A2,Res.A2];cases x with
    |false=>rfl
    |true=>
      rw[iP rfl]at hn1;rw[iP rfl,iP rfl];cases eb:b ρ1 with
      |stuck=>rfl
      |err x p ρ'=>rfl
      |ok f ρ2=>
        rw[eb,Res.A2]at hn1;rw[Res.A2,Res.A2];cases f with
        |nx=>exact(dn hn1).symm
        |cnt=>exact(dn hn1).symm
        |brk=>rfl
        |ret r=>rfl
 .have hs : ∀n,Al c b n ρ= .stuck:=λn=>by
   by_cases hn:Al c b n ρ= .stuck
   .exact hn
   .exact absurd ⟨n,hn⟩ hex
  have hw:A1 c b ρ= .stuck:=by
   by_cases hw:A1 c b ρ= .stuck
   .exact hw
   .obtain⟨n,hn⟩:=Iq hw;rw[<-hn];exact hs n
  rw[hw];cases ec:c ρ with
  |stuck=>rfl
  |err x p ρ'=>
    have:=hs 1;rw[AK,ec]at this;cases this
  |ok x ρ1 =>
    rw[Res.A2];cases x with
    |false=>
      have:=hs 1;rw[AK,ec]at this;cases this
    |true=>
      rw[iP rfl];cases eb:b ρ1 with
      |stuck=>rfl
      |err x p ρ'=>
        have:=hs 1;rw[AK,ec,Res.A2,iP rfl,eb]at this;cases this
      |ok f ρ2=>
        rw[Res.A2];have hf:=λn=>hs (n+1)
        simp only[AK,ec,Res.A2,iP rfl,eb]at hf
        have again:(∀n,Al c b n ρ2= .stuck)->A1 c b ρ2= .stuck:=λh=>by
         by_cases hw:A1 c b ρ2= .stuck
         .exact hw
         .obtain⟨n,hn⟩:=Iq hw;rw[<-hn];exact h n
        cases f with
        |nx=>exact(again hf).symm
        |cnt=>exact(again hf).symm
        |brk=>exact absurd (hf 0) nofun
        |ret r=>exact absurd (hf 0) nofun
variable{wh:WH}{fi:EC}{args:List C}
theorem Rx{fns:List EC}{mt:MT}{k f:Nat}(hf:fns[f]? =some fi)(hl:args.length=fi.np)(e:execs (A0 fns mt wh k) mt wh fi.body (args.map some++List.replicate (fi.nl - fi.np) none)= .ok (.ret c) ρ):
 A0 fns mt wh (k+1) f args= .ok c (D7 fi ρ):=by
 show(match fns[f]? with|some fi=>D4 (A0 fns mt wh k) mt wh fi args|none=>.stuck)=_;rw[hf];show D4 (A0 fns mt wh k) mt wh fi args=_;unfold D4;rw[iP hl,e]
theorem UZ{fns:List EC}{mt:MT}{k f:Nat}(hf:fns[f]? =some fi)(hl:args.length=fi.np)(e:execs (A0 fns mt wh k) mt wh fi.body (args.map some++List.replicate (fi.nl - fi.np) none)= .ok .nx ρ):
 A0 fns mt wh (k+1) f args= .ok (.p .Ai) (D7 fi ρ):=by
 show(match fns[f]? with|some fi=>D4 (A0 fns mt wh k) mt wh fi args|none=>.stuck)=_;rw[hf];show D4 (A0 fns mt wh k) mt wh fi args=_;unfold D4;rw[iP hl,e]
end Iv
namespace Iv
open PySem
variable{cf:CF}{mt:MT}
theorem QZ(i:Nat)(f:Str)(v:Env->Res C)(ρ:Env):Bn (.fld i f) v ρ=if(Bi ρ i f).isSome then .ok (.fld i f) ρ else .stuck:=rfl
theorem SA{a:Option C}{r:Env}:A6 (a::r) 0=a:=rfl
theorem Wt{a b:Option C}{r:Env}:A6 (a::b::r) 1=b:=rfl
theorem k9{a b c:Option C}{r:Env}:A6 (a::b::c::r) 2=c:=rfl
theorem kQ{a b c d:Option C}{r:Env}:A6 (a::b::c::d::r) 3=d:=rfl
theorem kP{a b c d e:Option C}{r:Env}:A6 (a::b::c::d::e::r) 4=e:=rfl
theorem kL{a b c d e f:Option C}{r:Env}:A6 (a::b::c::d::e::f::r) 5=f:=rfl
theorem kK{a b c d e f g:Option C}{r:Env}:A6 (a::b::c::d::e::f::g::r) 6=g:=rfl
theorem kJ{a b c d e f g h:Option C}{r:Env}:A6 (a::b::c::d::e::f::g::h::r) 7=h:=rfl
theorem kI{a b c d e f g h i:Option C}{r:Env}:A6 (a::b::c::d::e::f::g::h::i::r) 8=i:=rfl
theorem kH{a b c d e f g h i j:Option C}{r:Env}:A6 (a::b::c::d::e::f::g::h::i::j::r) 9=j:=rfl
noncomputable def jS(cf:CF)(mt:MT)(ss:List S)(r:Res Fl):Res Fl:=r.bind λf ρ=>match f with
    |.nx=>execs cf mt A1 ss ρ
    |f=>.ok f ρ
def j6(i:Nat)(r:Res C):Res Fl:=r.bind λc ρ=>.ok .nx (ρ.set i (some c))
def iZ(r:Res C):Res Fl:=r.bind λ_ ρ=>.ok .nx ρ
def iV(r:Res C):Res Fl:=r.bind λc ρ=>.ok (.ret c) ρ
noncomputable def gd(cf:CF)(mt:MT)(a b:List S)(r:Res Bool):Res Fl:=r.bind λx ρ=>if x then execs cf mt A1 a ρ else execs cf mt A1 b ρ
noncomputable def k7(o:O)(b:Bool)(r:Res (List Hd)):Res C:=if b then r.bind λhs ρ=>Res.of ((A9 ρ hs).bind (As o)) ρ else .stuck
def jH(r:Res C):Res Hd:=r.bind λc ρ=>.ok (.AD c) ρ
def dA(r:Res C):Res Bool:=(jH r).bind λh ρ=>Res.of ((h.cont ρ).bind Cw) ρ
def iY(i:Nat)(ρ:Env)(o:Option C):Res Hd:=if o.isSome then .ok (.slot i) ρ else .stuck
noncomputable def jV(i:Nat)(ρ:Env)(o:Option C):Res C:=match o with
    |some c=>if c.cp then .ok c ρ else .ok c (ρ.set i none)
    |none=>.stuck
def k6(i:Nat)(ρ:Env)(o:Option C):Res Bool:=(iY i ρ o).bind λh ρ=>Res.of ((h.cont ρ).bind Cw) ρ
noncomputable def jA(cf:CF)(mt:MT)(ts:List T)(r:Res Hd):Res (List Hd):=r.bind λh ρ=>match h with
    |.fld i f=>if ts.all T.calm then(A8 cf mt ts ρ).bind λhs ρ=>.ok (.fld i f::hs) ρ else .stuck
    |h=>(A8 cf mt ts ρ).bind λhs ρ=>.ok (h::hs) ρ
def Yx(h:Hd)(r:Res (List Hd)):Res (List Hd):=r.bind λhs ρ=>.ok (h::hs) ρ
def jD(cf:CF)(mt:MT)(ts:List T)(r:Res C):Res (List P):=r.bind λc ρ=>Ky c (Bd cf mt ts) ρ
def j4(x:P)(r:Res (List P)):Res (List P):=r.bind λxs ρ=>.ok (x::xs) ρ
def fZ(r:Res (List P)):Res C:=r.bind λps ρ=>.ok (.p (.tup ps)) ρ
def g9(r:Res (List P)):Res C:=r.bind λps ρ=>.ok (.lst ps) ρ
noncomputable def Yw(cf:CF)(mt:MT)(b:T)(r:Res Bool):Res Bool:=r.bind λc ρ=>if c then tv cf mt b ρ else .ok false ρ
noncomputable def iW(cf:CF)(mt:MT)(b:T)(r:Res Bool):Res Bool:=r.bind λc ρ=>if c then .ok true ρ else tv cf mt b ρ
def Yv(r:Res Bool):Res Bool:=r.bind λb ρ=>.ok (!b) ρ
def QO(cf:CF)(mt:MT)(b:T)(r:Res C):Res C:=r.bind λc ρ=>Jx c (ev cf mt b) ρ
def Yu(cf:CF)(mt:MT)(b:T)(r:Res C):Res C:=r.bind λc ρ=>cI c (ev cf mt b) ρ
def Wm(r:Res C):Res C:=r.bind λc ρ=>O0 c ρ
noncomputable def iX(m:MO)(h:Hd)(a b c:Bool)(r:Res (List Hd)):Res C:=if a && b && c then r.bind λhs ρ=>IX m h hs ρ else .stuck
noncomputable def aC(i:Nat)(ρ:Env)(o:Option (C×B)):Res C:=match o with
    |some (c,b')=>(Res.of (setB ρ (.slot i) b') ρ).bind λρ' _=>.ok c ρ'
    |none=>.stuck
noncomputable def jM(m:MO)(h:Hd)(hs:List Hd)(ρ:Env)(x:Option C)(y:Option (List C)):Res C:=match x,y with
 | some (.b b),some cs=>if(Bw (h::hs) (.b b::cs)).Nodup then match E4 m b cs with
   |some (c,b')=>(Res.of (setB ρ h b') ρ).bind λρ' _=>.ok c ρ'
   |none=>.stuck
   else .stuck
 |_,_=>.stuck
def jC(r:Option (List C))(o:Option C):Option (List C):=o.bind λc=>r.map (c::·)
theorem Ar(s:S)(ss:List S)(ρ:Env):execs cf mt A1 (s::ss) ρ=jS cf mt ss (exec cf mt A1 s ρ):=rfl
theorem Vl(ρ:Env):execs cf mt A1 [] ρ= .ok .nx ρ:=rfl
theorem BD(ss:List S)(ρ:Env):jS cf mt ss (.ok .nx ρ)=execs cf mt A1 ss ρ:=rfl
theorem RX(ss:List S)(c:C)(ρ:Env):jS cf mt ss (.ok (.ret c) ρ)= .ok (.ret c) ρ:=rfl
theorem RZ(ss:List S)(ρ:Env):jS cf mt ss (.ok .brk ρ)= .ok .brk ρ:=rfl
theorem RY(ss:List S)(ρ:Env):jS cf mt ss (.ok .cnt ρ)= .ok .cnt ρ:=rfl
theorem Fg(i:Nat)(t:T)(ρ:Env):exec cf mt A1 (.asg (.nm i) t) ρ=j6 i (ev cf mt t ρ):=rfl
theorem S9(i:Nat)(c:C)(ρ:Env):j6 i (.ok c ρ)= .ok .nx (ρ.set i (some c)):=rfl
theorem Hb(t:T)(ρ:Env):exec cf mt A1 (.expr t) ρ=iZ (ev cf mt t ρ):=rfl
theorem S7(c:C)(ρ:Env):iZ (.ok c ρ)= .ok .nx ρ:=rfl
theorem RT(ρ:Env):exec cf mt A1 (.ret none) ρ= .ok (.ret (.p .Ai)) ρ:=rfl
theorem JB(t:T)(ρ:Env):exec cf mt A1 (.ret (some t)) ρ=iV (ev cf mt t ρ):=rfl
theorem S0(c:C)(ρ:Env):iV (.ok c ρ)= .ok (.ret c) ρ:=rfl
theorem G9(c:T)(a b:List S)(ρ:Env):exec cf mt A1 (.ifs c a b) ρ=gd cf mt a b (tv cf mt c ρ):=rfl
theorem Vr(a b:List S)(ρ:Env):gd cf mt a b (.ok true ρ)=execs cf mt A1 a ρ:=rfl
theorem Vs(a b:List S)(ρ:Env):gd cf mt a b (.ok false ρ)=execs cf mt A1 b ρ:=rfl
theorem RU(ρ:Env):exec cf mt A1 .pass ρ= .ok .nx ρ:=rfl
theorem Vn(ρ:Env):exec cf mt A1 .brk ρ= .ok .brk ρ:=rfl
theorem Vm(ρ:Env):exec cf mt A1 .cnt ρ= .ok .cnt ρ:=rfl
theorem VC(i:Nat)(ρ:Env):ev cf mt (.var i) ρ=jV i ρ (A6 ρ i):=rfl
theorem ZT(i:Nat)(ρ:Env)(x:P):jV i ρ (some (.b (.p x)))= .ok (.p x) ρ:=rfl
theorem ZU(i:Nat)(ρ:Env)(x:List P):jV i ρ (some (.b (.lst x)))= .ok (.lst x) (ρ.set i none):=rfl
theorem ZV(i:Nat)(ρ:Env)(x:List (P×P)):jV i ρ (some (.b (.D2 x)))= .ok (.D2 x) (ρ.set i none):=rfl
theorem ZS(i:Nat)(ρ:Env)(x:List P):jV i ρ (some (.b (.ro x)))= .ok (.b (.ro x)) ρ:=rfl
theorem ZW(i:Nat)(ρ:Env)(c:C):jV i ρ (some c)=if c.cp then .ok c ρ else .ok c (ρ.set i none):=rfl
theorem Ng(p:P)(ρ:Env):ev cf mt (.cst p) ρ= .ok (.p p) ρ:=rfl
theorem He(o:O)(ts:List T)(ρ:Env):ev cf mt (.prim o ts) ρ=k7 o o.ok (A8 cf mt ts ρ):=rfl
theorem S1(o:O)(hs:List Hd)(ρ:Env):k7 o true (.ok hs ρ)=Res.of ((A9 ρ hs).bind (As o)) ρ:=rfl
theorem ao(o:O)(ts:List T)(ρ:Env):tv cf mt (.prim o ts) ρ=dA (ev cf mt (.prim o ts) ρ):=rfl
theorem RV(c:C)(ρ:Env):dA (.ok c ρ)=Res.of (Cw c) ρ:=rfl
theorem KS(i:Nat)(ρ:Env):tv cf mt (.var i) ρ=k6 i ρ (A6 ρ i):=rfl
theorem Vo(i:Nat)(ρ:Env)(c:C):k6 i ρ (some c)=Res.of ((A6 ρ i).bind Cw) ρ:=rfl
theorem Vt(i:Nat)(ρ:Env)(c:C):iY i ρ (some c)= .ok (.slot i) ρ:=rfl
theorem JC(i:Nat)(v:Env->Res C)(ρ:Env):Bn (.var i) v ρ=iY i ρ (A6 ρ i):=rfl
theorem VB(p:P)(v:Env->Res C)(ρ:Env):Bn (.cst p) v ρ=jH (v ρ):=rfl
theorem Se(o:O)(ts:List T)(v:Env->Res C)(ρ:Env):Bn (.prim o ts) v ρ=jH (v ρ):=rfl
theorem Vw(ts:List T)(v:Env->Res C)(ρ:Env):Bn (.tup ts) v ρ=jH (v ρ):=rfl
theorem Vy(ts:List T)(v:Env->Res C)(ρ:Env):Bn (.lst ts) v ρ=jH (v ρ):=rfl
theorem Hc(f:Nat)(ts:List T)(v:Env->Res C)(ρ:Env):Bn (.call f ts) v ρ=jH (v ρ):=rfl
theorem Sf(f:Str)(o:T)(ts:List T)(v:Env->Res C)(ρ:Env):Bn (.Au f o ts) v ρ=jH (v ρ):=rfl
theorem Vx(m:MO)(o:T)(ts:List T)(v:Env->Res C)(ρ:Env):Bn (.CY m o ts) v ρ=jH (v ρ):=rfl
theorem Fh(g:Tg)(k:IK)(its cond:List T)(elt:T)(fr:List (Option Nat))(v:Env->Res C)(ρ:Env):Bn (.comp g k its cond elt fr) v ρ=jH (v ρ):=rfl
theorem Sg(o:T)(ts:List T)(v:Env->Res C)(ρ:Env):Bn (.YI o ts) v ρ=jH (v ρ):=rfl
theorem VA(a b:List T)(v:Env->Res C)(ρ:Env):Bn (.D2 a b) v ρ=jH (v ρ):=rfl
theorem Vu(c:C)(ρ:Env):jH (.ok c ρ)= .ok (.AD c) ρ:=rfl
theorem VI(ρ:Env):A8 cf mt [] ρ= .ok [] ρ:=rfl
theorem B9(t:T)(ts:List T)(ρ:Env):A8 cf mt (t::ts) ρ=jA cf mt ts (Bn t (ev cf mt t) ρ):=rfl
theorem ag(i:Nat)(ts:List T)(ρ:Env):jA cf mt ts (.ok (.slot i) ρ)=Yx (.slot i) (A8 cf mt ts ρ):=rfl
theorem af(c:C)(ts:List T)(ρ:Env):jA cf mt ts (.ok (.AD c) ρ)=Yx (.AD c) (A8 cf mt ts ρ):=rfl
theorem ah(i:Nat)(f:Str)(ts:List T)(ρ:Env):jA cf mt ts (.ok (.fld i f) ρ)=if ts.all T.calm then Yx (.fld i f) (A8 cf mt ts ρ)else .stuck:=rfl
theorem Sd(h:Hd)(hs:List Hd)(ρ:Env):Yx h (.ok hs ρ)= .ok (h::hs) ρ:=rfl
theorem KU(t:T)(ts:List T)(ρ:Env):Bd cf mt (t::ts) ρ=jD cf mt ts (ev cf mt t ρ):=rfl
theorem Vv(x:P)(ts:List T)(ρ:Env):jD cf mt ts (.ok (.b (.p x)) ρ)=j4 x (Bd cf mt ts ρ):=rfl
theorem S8(x:P)(xs:List P)(ρ:Env):j4 x (.ok xs ρ)= .ok (x::xs) ρ:=rfl
theorem Sk(a:T)(ρ:Env):ev cf mt (.tup [a]) ρ=fZ (Bd cf mt [a] ρ):=rfl
theorem Sj(a b:T)(ρ:Env):ev cf mt (.tup [a,b]) ρ=fZ (Bd cf mt [a,b] ρ):=rfl
theorem Sq(ρ:Env):ev cf mt (.lst []) ρ= .ok (.lst []) ρ:=rfl
theorem So(a:T)(ρ:Env):ev cf mt (.lst [a]) ρ=g9 (Bd cf mt [a] ρ):=rfl
theorem Sn(a b:T)(ρ:Env):ev cf mt (.lst [a,b]) ρ=g9 (Bd cf mt [a,b] ρ):=rfl
theorem RW(xs:List P)(ρ:Env):fZ (.ok xs ρ)= .ok (.p (.tup xs)) ρ:=rfl
theorem S6(xs:List P)(ρ:Env):g9 (.ok xs ρ)= .ok (.lst xs) ρ:=rfl
theorem Vk(a b:T)(ρ:Env):tv cf mt (.and a b) ρ=Yw cf mt b (tv cf mt a ρ):=rfl
theorem ZR(a b:T)(ρ:Env):tv cf mt (.or a b) ρ=iW cf mt b (tv cf mt a ρ):=rfl
theorem Ff(a:T)(ρ:Env):tv cf mt (.not a) ρ=Yv (tv cf mt a ρ):=rfl
theorem VG(a b:T)(ρ:Env):ev cf mt (.and a b) ρ=QO cf mt b (ev cf mt a ρ):=rfl
theorem aq(a b:T)(ρ:Env):ev cf mt (.or a b) ρ=Yu cf mt b (ev cf mt a ρ):=rfl
theorem VD(a:T)(ρ:Env):ev cf mt (.not a) ρ=Wm (ev cf mt a ρ):=rfl
theorem Sa(b:T)(ρ:Env):Yw cf mt b (.ok true ρ)=tv cf mt b ρ:=rfl
theorem Sb(b:T)(ρ:Env):Yw cf mt b (.ok false ρ)= .ok false ρ:=rfl
theorem Vp(b:T)(ρ:Env):iW cf mt b (.ok true ρ)= .ok true ρ:=rfl
theorem Vq(b:T)(ρ:Env):iW cf mt b (.ok false ρ)=tv cf mt b ρ:=rfl
theorem OC(b:Bool)(ρ:Env):Yv (.ok b ρ)= .ok (!b) ρ:=rfl
theorem OD(b:T)(ρ:Env):QO cf mt b (.ok (.b (.p (.bl true))) ρ)=ev cf mt b ρ:=rfl
theorem OE(b:T)(ρ:Env):QO cf mt b (.ok (.b (.p (.bl false))) ρ)= .ok (.p (.bl false)) ρ:=rfl
theorem S2(b:T)(ρ:Env):Yu cf mt b (.ok (.b (.p (.bl true))) ρ)= .ok (.p (.bl true)) ρ:=rfl
theorem S3(b:T)(ρ:Env):Yu cf mt b (.ok (.b (.p (.bl false))) ρ)=ev cf mt b ρ:=rfl
theorem Mi(b:Bool)(ρ:Env):Wm (.ok (.b (.p (.bl b))) ρ)= .ok (.p (.bl (!b))) ρ:=rfl
theorem VE(m:MO)(i:Nat)(ts:List T)(ρ:Env):ev cf mt (.CY m (.var i) ts) ρ=iX m (.slot i) m.ok (Wn (A6 ρ i)) true (A8 cf mt ts ρ):=rfl
theorem S4(m:MO)(h:Hd)(hs:List Hd)(ρ:Env):iX m h true true true (.ok hs ρ)=jM m h hs ρ (h.cont ρ) (A9 ρ hs):=rfl
theorem aa(m:MO)(i:Nat)(ρ:Env)(l:List P):jM m (.slot i) [] ρ (some (.b (.lst l))) (some [])=aC i ρ (E4 m (.lst l) []):=rfl
theorem ZX(m:MO)(i:Nat)(ρ:Env)(l:List P)(d:C)(x:P):jM m (.slot i) [.AD d] ρ (some (.b (.lst l))) (some [.b (.p x)])=aC i ρ (E4 m (.lst l) [.p x]):=rfl
theorem ZZ(m:MO)(i:Nat)(ρ:Env)(l:List P)(d:C)(x:List P):jM m (.slot i) [.AD d] ρ (some (.b (.lst l))) (some [.b (.lst x)])=aC i ρ (E4 m (.lst l) [.lst x]):=rfl
theorem ZY(m:MO)(i j:Nat)(ρ:Env)(l:List P)(x:P):jM m (.slot i) [.slot j] ρ (some (.b (.lst l))) (some [.b (.p x)])=aC i ρ (E4 m (.lst l) [.p x]):=rfl
theorem S5(i:Nat)(ρ:Env)(c:C)(b:B):aC i ρ (some (c,b))= .ok c (ρ.set i (some (.b b))):=rfl
theorem Ss(ρ:Env)(h:Hd)(hs:List Hd):A9 ρ (h::hs)=jC (A9 ρ hs) (h.cont ρ):=rfl
theorem VH(ρ:Env):A9 ρ []=some []:=rfl
theorem ae(c:C)(cs:List C):jC (some cs) (some c)=some (c::cs):=rfl
theorem aj(ρ:Env)(i:Nat):(Hd.slot i).cont ρ=A6 ρ i:=rfl
theorem ai(ρ:Env)(c:C):(Hd.AD c).cont ρ=some c:=rfl
theorem ak(ρ:Env)(i:Nat)(f:Str):(Hd.fld i f).cont ρ=Bi ρ i f:=rfl
theorem Vj(b:Bool):Cw (.b (.p (.bl b)))=some b:=rfl
theorem Vi(l:List P):Cw (.b (.lst l))=some (!l.isEmpty):=rfl
theorem Mh(m:Str)(o:T)(ts:List T)(ρ:Env):tv cf mt (.Au m o ts) ρ=dA (ev cf mt (.Au m o ts) ρ):=rfl
theorem jI(f:Nat)(ts:List T)(ρ:Env):tv cf mt (.call f ts) ρ=dA (ev cf mt (.call f ts) ρ):=rfl
theorem Vz(i:Nat)(f:Str)(v:Env->Res C)(ρ:Env):Bn (.fld i f) v ρ=if(Bi ρ i f).isSome then .ok (.fld i f) ρ else .stuck:=rfl
theorem VF(i:Nat)(f:Str)(ρ:Env):ev cf mt (.fld i f) ρ=match Bi ρ i f with|some c=>if c.cp then .ok c ρ else .stuck|none=>.stuck:=rfl
theorem RS(i:Nat)(f:Str)(v:T)(ρ:Env):exec cf mt A1 (.Gn i f v) ρ=(ev cf mt v ρ).bind λv ρ=>Hx mt i f v ρ:=rfl
theorem JA(c:T)(b:List S)(ρ:Env):exec cf mt A1 (.Mj c b) ρ=A1 (tv cf mt c) (execs cf mt A1 b) ρ:=rfl
theorem Si(a b c:T)(ρ:Env):ev cf mt (.tup [a,b,c]) ρ=fZ (Bd cf mt [a,b,c] ρ):=rfl
theorem Sl(a b c d:T)(ρ:Env):ev cf mt (.lst [a,b,c,d]) ρ=g9 (Bd cf mt [a,b,c,d] ρ):=rfl
theorem Sr(i:Nat)(ts:List T)(ρ:Env):ev cf mt (.FX i ts) ρ=match A6 ρ i with
 |some (.b (.p (.fn n)))=>if mt.tf n then(A8 cf mt ts ρ).bind λhs ρ=>Aq cf n hs ρ else .stuck
 |_=>.stuck:=rfl
theorem Sh(i:Nat)(ts:List T)(v:Env->Res C)(ρ:Env):Bn (.FX i ts) v ρ=jH (v ρ):=rfl
theorem OF(i:Nat)(v:Env->Res C)(ρ:Env):Bn (.BH i) v ρ=jH (v ρ):=rfl
theorem BV(f:Nat)(ts:List T)(ρ:Env):ev cf mt (.call f ts) ρ=(A8 cf mt ts ρ).bind λhs ρ=>Aq cf f hs ρ:=rfl
theorem bX(a b:C):As .add [a,b]=Ha a b:=rfl
theorem Xt(i j:Int):Ha (.b (.p (.int i))) (.b (.p (.int j)))=some (.p (.int (i+j))):=rfl
theorem Xf(i j:Int):As .sub [.b (.p (.int i)),.b (.p (.int j))]=some (.p (.int (i-j))):=rfl
theorem bM(a b:C):As .mul [a,b]=mulC a b:=rfl
theorem Xm(i j:Int):As .mod [.b (.p (.int i)),.b (.p (.int j))]=(O5 i j).map λk=>.p (.int k):=rfl
theorem T7(i j:Int):As .fdiv [.b (.p (.int i)),.b (.p (.int j))]=(HU i j).map λk=>.p (.int k):=rfl
theorem bL(a b:C):As .pow [a,b]=Dy NN a b:=rfl
theorem Xl(i:Int):As .neg [.b (.p (.int i))]=some (.p (.int (-i))):=rfl
theorem T8(o1 o2:O)(a b c:C):As (.chain o1 o2) [a,b,c]=Dd o1 o2 a b c:=rfl
theorem bR(a b:C):As .idx [a,b]=Dj a b:=rfl
theorem Xh(a:C)(j:Int):As (.Cy false true) [a,.b (.p (.int j))]=D3 a none (some j):=rfl
theorem Xg(a:C)(j:Int):As (.Cy true false) [a,.b (.p (.int j))]=D3 a (some j) none:=rfl
theorem Xi(a:C)(i j:Int):As (.Cy true true) [a,.b (.p (.int i)),.b (.p (.int j))]=D3 a (some i) (some j):=rfl
theorem bN(a:C):As .len [a]=J5 a:=rfl
theorem Xn(l:List P):J5 (.b (.p (.tup l)))=some (.p (.int l.length)):=rfl
theorem Xo(l:List P):J5 (.b (.lst l))=some (.p (.int l.length)):=rfl
theorem bP(t:Ty)(c:C):As (.Ft t) [c]=(Dx t c).map λb=>.p (.bl b):=rfl
theorem Xe(l:List P):As (.tuple .op) [.b (.lst l)]=some (.p (.tup l)):=rfl
theorem bW(c:C):As .all [c]=Md c:=rfl
theorem bI(a:C):As .str [a]=Jg P5 a:=rfl
theorem bQ(a:C):As .int [a]=QS a:=rfl
theorem Py(i j:Int):As .min [.b (.p (.int i)),.b (.p (.int j))]=some (.p (.int (if j < i then j else i))):=rfl
theorem Xp(x:Str)(a:C):As (.join x) [a]=FO x a:=rfl
theorem hG(x:P):As .id [.b (.p x)]=some (.p x):=rfl
theorem gV(a b c:C):As .sw [a,b,c]=az a b c:=rfl
theorem s_eq(a b:C):As .eq [a,b]=(SD a b).map λx=>.p (.bl x):=rfl
theorem gW(a b:C):As .ne [a,b]=(SD a b).map λx=>.p (.bl (!x)):=by
 show((SD a b).map _).map _=_;rw[Option.map_map];rfl
theorem bT(a b:P):SD (.b (.p a)) (.b (.p b))=GV a b:=rfl
theorem gX(i j:Int):As .lt [.b (.p (.int i)),.b (.p (.int j))]=some (.p (.bl (decide (i < j)))):=rfl
theorem hU(i j:Int):As .gt [.b (.p (.int i)),.b (.p (.int j))]=some (.p (.bl (decide (j < i)))):=rfl
theorem gY(i j:Int):As .le [.b (.p (.int i)),.b (.p (.int j))]=some (.p (.bl (decide (i<=j)))):=rfl
theorem hV(i j:Int):As .ge [.b (.p (.int i)),.b (.p (.int j))]=some (.p (.bl (decide (j<=i)))):=rfl
theorem gF(x:Str):Dx .str (.b (.p (.str x)))=some true:=rfl
theorem gG(x:Int):Dx .str (.b (.p (.int x)))=some false:=rfl
theorem gE(x:List P):Dx .str (.b (.p (.tup x)))=some false:=rfl
theorem gB(x:List P):Dx .tuple (.b (.p (.tup x)))=some true:=rfl
theorem gC(x:Str):Dx .tuple (.b (.p (.str x)))=some false:=rfl
theorem gD(x:Int):Dx .tuple (.b (.p (.int x)))=some false:=rfl
theorem gI(x:Int):Dx .int (.b (.p (.int x)))=some true:=rfl
theorem gJ(x:Int):Dx .bool (.b (.p (.int x)))=some false:=rfl
theorem fH(l:List P)(cs:List C):E4 .append (.lst l) cs=DS l cs:=rfl
theorem fG(l:List P)(cs:List C):E4 .extend (.lst l) cs=EW l cs:=rfl
theorem fF(l:List P)(cs:List C):E4 .pop (.lst l) cs=Qy l cs:=rfl
theorem LO{n k:Nat}(h:k < n):JD n (k:Int)=some k:=by
 unfold JD;rw[iP (Int.natCast_nonneg k),iP (by omega)];rfl
theorem MV{l:List P}{k:Nat}{p:P}(h:l[k]? =some p):Dj (.b (.p (.tup l))) (.b (.p (.int (k:Int))))=some (.p p):=by
 show((JD l.length (k:Int)).bind λk=>(l[k]?).map λx=>C.p x)=_;rw[LO (List.getElem?_eq_some_iff.mp h).1];show(l[k]?).map _=_;rw[h];rfl
theorem QU{l:List P}{k:Nat}{p:P}(h:l[k]? =some p):Dj (.b (.lst l)) (.b (.p (.int (k:Int))))=some (.p p):=by
 show((JD l.length (k:Int)).bind λk=>(l[k]?).map λx=>C.p x)=_;rw[LO (List.getElem?_eq_some_iff.mp h).1];show(l[k]?).map _=_;rw[h];rfl
theorem Ji(a:P)(l:List P):Dj (.b (.p (.tup (a::l)))) (.b (.p (.int 0)))=some (.p a):=MV (k:=0) rfl
theorem jb(a b:P)(l:List P):Dj (.b (.p (.tup (a::b::l)))) (.b (.p (.int 1)))=some (.p b):=MV (k:=1) rfl
theorem ja(a b c:P)(l:List P):Dj (.b (.p (.tup (a::b::c::l)))) (.b (.p (.int 2)))=some (.p c):=MV (k:=2) rfl
theorem fK(ss:List S)(x:Nat)(p:P)(ρ:Env):jS cf mt ss (.err x p ρ)= .err x p ρ:=rfl
theorem ZQ(i x:Nat)(p:P)(ρ:Env):j6 i (.err x p ρ)= .err x p ρ:=rfl
theorem ZP(x:Nat)(p:P)(ρ:Env):iZ (.err x p ρ)= .err x p ρ:=rfl
theorem ZM(x:Nat)(p:P)(ρ:Env):iV (.err x p ρ)= .err x p ρ:=rfl
theorem ZO(a b:List S)(x:Nat)(p:P)(ρ:Env):gd cf mt a b (.err x p ρ)= .err x p ρ:=rfl
theorem fL(x:Nat)(p:P)(ρ:Env):jH (.err x p ρ)= .err x p ρ:=rfl
theorem fM(ts:List T)(x:Nat)(p:P)(ρ:Env):jA cf mt ts (.err x p ρ)= .err x p ρ:=rfl
theorem ZN(m:MO)(h:Hd)(x:Nat)(p:P)(ρ:Env):iX m h true true true (.err x p ρ)= .err x p ρ:=rfl
theorem OB(x:Nat)(ρ:Env):exec cf mt A1 (.raise x) ρ=if mt.rs then .err x .Ai ρ else .stuck:=rfl
theorem bO(a:C):As .Sz [a,.b (.p .Ai)]=some (.p (.bl (!decide (a= .p .Ai)))):=rfl
theorem gH(x:List P):Dx .int (.b (.p (.tup x)))=some false:=rfl
end Iv
local macro_rules
|`(tactic|simp! [$xs,*])=>`(tactic|simp [↓Iv.Ar,Iv.fK,Iv.ZQ,Iv.ZP,Iv.ZM,Iv.ZO,Iv.fL,Iv.fM,Iv.ZN,Iv.OB,Iv.bO,Iv.gH,Iv.Vl,Iv.BD,Iv.RX,Iv.RZ,Iv.RY,Iv.Fg,Iv.S9,Iv.Hb,Iv.S7,Iv.RT,Iv.JB,Iv.S0,Iv.G9,Iv.Vr,Iv.Vs,Iv.RU,Iv.Vn,Iv.Vm,Iv.VC,Iv.ZT,Iv.ZU,Iv.ZV,Iv.ZS,Iv.ZW,Iv.Ng,Iv.He,Iv.S1,↓Iv.ao,Iv.RV,↓Iv.KS,Iv.Vo,Iv.Vt,↓Iv.JC,↓Iv.VB,↓Iv.Se,↓Iv.Vw,↓Iv.Vy,↓Iv.Hc,↓Iv.Sf,↓Iv.Vx,↓Iv.Fh,↓Iv.Sg,↓Iv.VA,Iv.Vu,Iv.VI,↓Iv.B9,Iv.ag,Iv.af,Iv.ah,Iv.Sd,Iv.KU,Iv.Vv,Iv.S8,Iv.Sk,Iv.Sj,Iv.Sq,Iv.So,Iv.Sn,Iv.RW,Iv.S6,Iv.Vk,Iv.ZR,Iv.Ff,Iv.VG,Iv.aq,Iv.VD,Iv.Sa,Iv.Sb,Iv.Vp,Iv.Vq,Iv.OC,Iv.OD,Iv.OE,Iv.S2,Iv.S3,Iv.Mi,Iv.VE,Iv.S4,Iv.aa,Iv.ZX,Iv.ZZ,Iv.ZY,Iv.S5,Iv.Ss,Iv.VH,Iv.ae,Iv.aj,Iv.ai,Iv.ak,Iv.Vj,Iv.Vi,Iv.DC,Iv.QZ,Iv.Rj,Iv.GS,Iv.SA,Iv.Wt,Iv.k9,Iv.kQ,Iv.kP,Iv.kL,Iv.kK,Iv.kJ,Iv.kI,Iv.kH,Iv.Mh,Iv.jI,↓Iv.Vz,Iv.VF,Iv.RS,Iv.Si,Iv.Sl,Iv.Sh,Iv.OF,Iv.bX,Iv.Xt,Iv.Xf,Iv.bM,Iv.Xm,Iv.T7,Iv.bL,Iv.Xl,Iv.T8,Iv.bR,Iv.Xh,Iv.Xg,Iv.Xi,Iv.bN,Iv.Xn,Iv.Xo,Iv.bP,Iv.Xe,Iv.bW,Iv.bI,Iv.bQ,Iv.Py,Iv.Xp,Iv.hG,Iv.gV,Iv.s_eq,Iv.gW,Iv.bT,Iv.gX,Iv.hU,Iv.gY,Iv.hV,Iv.gF,Iv.gG,Iv.gE,Iv.gB,Iv.gC,Iv.gD,Iv.gI,Iv.gJ,Iv.fH,Iv.fG,Iv.fF,Iv.Ji,Iv.jb,Iv.ja,Iv.O.ok,Iv.MO.ok,Iv.Wn,Iv.dD,Iv.Hd.F0,Iv.T.calm,Iv.placeOf,Iv.Bw,Iv.setB,Iv.C.cp,Iv.C.nf,Iv.Cp,$xs,*])
namespace Lk50
open Iv PySem
noncomputable def b1:List S:=[.ifs (.not (.prim (.Ft .str) [.var 0])) [.ret (some (.cst (.bl false)))] [],.ifs (.or (.prim .lt [.prim .len [.var 0],.cst (.int 1)]) (.prim .gt [.prim .len [.var 0],.cst (.int 8)])) [.ret (some (.cst (.bl false)))] [],.ret (some (.prim .all [.comp (.nm 1) .op [.var 0] [] (.prim (.chain .le .le) [.cst (.str ⟨#[97]⟩),.var 1,.cst (.str ⟨#[122]⟩)]) [none,none]]))]
theorem f1:fns[1]? =some ⟨1,1,b1⟩:=by kernel_rfl
def b2:List S:=[.ret (some (.and (.prim (.Ft .int) [.var 0]) (.not (.prim (.Ft .bool) [.var 0]))))]
theorem f2:fns[2]? =some ⟨1,1,b2⟩:=by kernel_rfl
def b3:List S:=[.ret (some (.and (.call 2 [.var 0]) (.prim .ge [.var 0,.cst (.int 0)])))]
theorem f3:fns[3]? =some ⟨1,1,b3⟩:=by kernel_rfl
noncomputable def b4:List S:=[.ifs (.not (.prim (.Ft .tuple) [.var 0])) [.ret (some (.cst (.bl false)))] [],.ifs (.or (.prim .lt [.prim .len [.var 0],.cst (.int 1)]) (.prim .gt [.prim .len [.var 0],.prim .add [.cst (.int 1),.cst (.int 3)]])) [.ret (some (.cst (.bl false)))] [],.ret (some (.call 1 [.prim .idx [.var 0,.cst (.int 0)]]))]
theorem f4:fns[4]? =some ⟨1,1,b4⟩:=by kernel_rfl
noncomputable def b5:List S:=[.asg (.nm 1) (.lst [.var 0]),.asg (.nm 2) (.cst (.int 0)),.Mj (.var 1) [.asg (.nm 2) (.prim .add [.var 2,.cst (.int 1)]),.ifs (.prim .gt [.var 2,.cst (.int 24)]) [.ret (some (.cst (.bl false)))] [],.asg (.nm 3) (.CY .pop (.var 1) []),.ifs (.call 4 [.var 3]) [.expr (.CY .extend (.var 1) [.prim (.Cy true false) [.var 3,.cst (.int 1)]])] [.ifs (.not (.call 3 [.var 3])) [.ret (some (.cst (.bl false)))] []]],.ret (some (.cst (.bl true)))]
theorem f5:fns[5]? =some ⟨1,4,b5⟩:=by kernel_rfl
noncomputable def b6:List S:=[.ret (some (.or (.prim (.chain .le .le) [.cst (.str ⟨#[97]⟩),.var 0,.cst (.str ⟨#[122]⟩)]) (.prim (.chain .le .le) [.cst (.str ⟨#[65]⟩),.var 0,.cst (.str ⟨#[90]⟩)])))]
theorem f6:fns[6]? =some ⟨1,1,b6⟩:=by kernel_rfl
noncomputable def b7:List S:=[.ret (some (.prim (.chain .le .le) [.cst (.str ⟨#[48]⟩),.var 0,.cst (.str ⟨#[57]⟩)]))]
theorem f7:fns[7]? =some ⟨1,1,b7⟩:=by kernel_rfl
noncomputable def b8:List S:=[.ifs (.not (.prim (.Ft .str) [.var 0])) [.raise 4] [],.ret (some (.make 5 [.var 0]))]
theorem f8:fns[8]? =some ⟨1,1,b8⟩:=by kernel_rfl
noncomputable def b9:List S:=[.asg (.nm 1) (.call 8 [.var 0]),.asg (.nm 2) (.Au ⟨#[107,105,110,100]⟩ (.var 1) [.cst (.int 0)]),.expr (.Au ⟨#[109,117,115,116,95,101,110,100]⟩ (.var 1) []),.ifs (.not (.call 5 [.var 2])) [.raise 4] [],.ret (some (.var 2))]
theorem f9:fns[9]? =some ⟨1,3,b9⟩:=by kernel_rfl
noncomputable def jy:List S:=[.ifs (.prim .lt [.var 0,.cst (.int 0)]) [.ret (some (.prim .add [.cst (.str ⟨#[45]⟩),.call 10 [.prim .neg [.var 0]]]))] [],.asg (.nm 1) (.cst (.str ⟨#[]⟩)),.Mj (.prim .ge [.var 0,.prim .pow [.cst (.int 10),.cst (.int 60)]]) [.asg (.nm 1) (.prim .add [.prim .YA [],.var 1]),.asg (.nm 0) (.prim .fdiv [.var 0,.prim .pow [.cst (.int 10),.cst (.int 60)]])],.ret (some (.prim .add [.prim .str [.var 0],.var 1]))]
theorem gr:fns[10]? =some ⟨1,2,jy⟩:=by kernel_rfl
noncomputable def jx:List S:=[.ret (some (.prim .add [.prim .add [.cst (.str ⟨#[40]⟩),.prim (.join ⟨#[44,32]⟩) [.var 0]],.cst (.str ⟨#[41]⟩)]))]
theorem gq:fns[11]? =some ⟨1,1,jx⟩:=by kernel_rfl
noncomputable def ZA:List S:=[.ifs (.prim (.Ft .int) [.var 0]) [.ret (some (.call 10 [.var 0]))] [],.ifs (.prim .eq [.prim .len [.var 0],.cst (.int 1)]) [.ret (some (.prim .idx [.var 0,.cst (.int 0)]))] [],.ret (some (.prim .add [.prim .idx [.var 0,.cst (.int 0)],.call 11 [.comp (.nm 1) .op [.prim (.Cy true false) [.var 0,.cst (.int 1)]] [] (.call 12 [.var 1]) [none,none]]]))]
theorem aN:fns[12]? =some ⟨1,1,ZA⟩:=by kernel_rfl
noncomputable def gx:List S:=[.ifs (.prim .lt [.var 1,.prim .len [.var 0]]) [.ret (some (.prim .mod [.prim .idx [.var 0,.var 1],.prim .pow [.cst (.int 10),.cst (.int 30)]]))] [],.ret (some (.cst (.int 0)))]
theorem gp:fns[13]? =some ⟨2,2,gx⟩:=by kernel_rfl
noncomputable def jw:List S:=[.asg (.nm 1) (.cst (.str ⟨#[97,98,99,100,101,102,103,104,105,106,107,108,109,110,111,112,113,114,115,116,117,118,119,120,121,122]⟩)),.asg (.nm 2) (.cst (.str ⟨#[]⟩)),.Ca (.nm 3) .BZ [.prim .mod [.var 0,.cst (.int 8)]] [.asg (.nm 2) (.prim .add [.var 2,.prim .idx [.var 1,.prim .mod [.prim .fdiv [.var 0,.prim .add [.cst (.int 8),.prim .mul [.cst (.int 3),.var 3]]],.cst (.int 26)]]])],.asg (.nm 4) (.prim .mod [.prim .fdiv [.var 0,.cst (.int 64)],.prim .add [.prim .len [.var 2],.cst (.int 1)]]),.ret (some (.comp (.nm 1) .BZ [.cst (.int 6)] [] (.prim .add [.prim .add [.prim (.Cy false true) [.var 5,.var 2],.prim .idx [.var 4,.prim .mod [.prim .add [.prim .fdiv [.var 3,.cst (.int 512)],.var 1],.cst (.int 26)]]],.prim (.Cy true false) [.var 5,.var 2]]) [none,none,some 4,some 0,some 1,some 2]))]
theorem gn:fns[14]? =some ⟨1,5,jw⟩:=by kernel_rfl
noncomputable def jv:List S:=[.asg (.nm 3) (.lst []),.asg (.nm 4) (.prim .sub [.var 2,.cst (.int 1)]),.asg (.nm 5) (.cst (.int 1)),.Ca (.nm 6) .op [.var 0] [.ifs (.prim .gt [.var 5,.cst (.int 0)]) [.asg (.nm 7) (.prim .min [.var 4,.prim .mod [.prim .mod [.var 6,.cst (.int 5)],.cst (.int 4)]]),.ifs (.prim .eq [.prim .mod [.var 6,.cst (.int 7)],.cst (.int 6)]) [.asg (.nm 7) (.cst (.int 0))] [],.expr (.CY .append (.var 3) [.tup [.var 7,.var 6]]),.asg (.nm 4) (.prim .sub [.var 4,.var 7]),.asg (.nm 5) (.prim .add [.prim .sub [.var 5,.cst (.int 1)],.var 7])] []],.asg (.nm 3) (.prim .add [.var 3,.comp (.nm 1) .BZ [.var 5] [] (.tup [.cst (.int 0),.prim .add [.cst (.int 6),.prim .mul [.cst (.int 42),.var 1]]]) [none,none]]),.asg (.nm 8) (.lst []),.Ca (.tup [7,6]) .rev [.var 3] [.ifs (.and (.prim .eq [.var 7,.cst (.int 0)]) (.prim .gt [.prim .mod [.var 6,.cst (.int 7)],.cst (.int 2)])) [.expr (.CY .append (.var 8) [.prim .mod [.prim .fdiv [.var 6,.cst (.int 7)],.cst (.int 9)]])] [.asg (.nm 9) (.comp (.nm 1) .BZ [.var 7] [] (.CY .pop (.var 2) []) [none,none,some 8]),.expr (.CY .append (.var 8) [.prim (.tuple .op) [.prim .add [.lst [.prim .idx [.var 1,.prim .add [.prim .mod [.prim .fdiv [.var 6,.cst (.int 35)],.cst (.int 2)],.prim .mul [.cst (.int 2),.prim .min [.var 7,.cst (.int 2)]]]]],.var 9]]])]],.ret (some (.prim .idx [.var 8,.cst (.int 0)]))]
theorem gm:fns[15]? =some ⟨3,10,jv⟩:=by kernel_rfl
noncomputable def fo:List S:=[.ifs (.prim (.Ft .tuple) [.var 1]) [.ifs (.or (.not (.prim (.Ft .tuple) [.var 0])) (.prim .ne [.prim .len [.var 0],.prim .len [.var 1]])) [.ret (some (.cst (.bl false)))] [],.ret (some (.prim .all [.comp (.nm 1) .BZ [.prim .len [.var 1]] [] (.call 16 [.prim .idx [.var 3,.var 1],.prim .idx [.var 2,.var 1]]) [none,none,some 1,some 0]]))] [],.ifs (.prim (.Ft .str) [.var 1]) [.ret (some (.and (.prim (.Ft .str) [.var 0]) (.prim .eq [.var 0,.var 1])))] [],.ret (some (.and (.prim (.Ft .int) [.var 0]) (.and (.not (.prim (.Ft .bool) [.var 0])) (.prim .eq [.var 0,.var 1]))))]
theorem gk:fns[16]? =some ⟨2,2,fo⟩:=by kernel_rfl
noncomputable def fm:List S:=[.ifs (.prim (.Ft .tuple) [.var 0]) [.ret (some (.prim (.tuple .op) [.prim .add [.lst [.prim .idx [.var 0,.cst (.int 0)]],.comp (.nm 1) .op [.prim (.Cy true false) [.var 0,.cst (.int 1)]] [] (.call 17 [.var 1,.var 2]) [none,none,some 1]]]))] [],.ret (some (.prim .Ot [.var 1,.var 0,.var 0]))]
theorem dX:fns[17]? =some ⟨2,2,fm⟩:=by kernel_rfl
noncomputable def Zx:List S:=[.ifs (.not (.prim (.Ft .tuple) [.var 0])) [.ret (some (.prim .str [.var 0]))] [],.ifs (.prim .eq [.prim .len [.var 0],.cst (.int 1)]) [.ret (some (.prim .idx [.var 0,.cst (.int 0)]))] [],.ret (some (.prim .add [.prim .add [.prim .add [.prim .idx [.var 0,.cst (.int 0)],.cst (.str ⟨#[40]⟩)],.prim (.join ⟨#[44,32]⟩) [.comp (.nm 1) .op [.prim (.Cy true false) [.var 0,.cst (.int 1)]] [] (.call 18 [.var 1]) [none,none]]],.cst (.str ⟨#[41]⟩)]))]
theorem aM:fns[18]? =some ⟨1,1,Zx⟩:=by kernel_rfl
noncomputable def Zw:List S:=[.asg (.nm 2) (.cst (.str ⟨#[40,41,44,32,59,58,91,93,45,48,49,50,97,98,122,65,89,90,32,61,9]⟩)),.asg (.nm 3) (.prim .mod [.prim .fdiv [.var 1,.cst (.int 3)],.prim .add [.prim .len [.var 0],.cst (.int 1)]]),.asg (.nm 4) (.prim .idx [.var 2,.prim .mod [.prim .fdiv [.var 1,.cst (.int 3000)],.cst (.int 21)]]),.ifs (.prim .eq [.prim .mod [.var 1,.cst (.int 3)],.cst (.int 0)]) [.ret (some (.prim .add [.prim (.Cy false true) [.var 0,.var 3],.prim (.Cy true false) [.var 0,.prim .add [.var 3,.cst (.int 1)]]]))] [],.ifs (.prim .eq [.prim .mod [.var 1,.cst (.int 3)],.cst (.int 1)]) [.ret (some (.prim .add [.prim .add [.prim (.Cy false true) [.var 0,.var 3],.var 4],.prim (.Cy true false) [.var 0,.var 3]]))] [],.ret (some (.prim .add [.prim .add [.prim (.Cy false true) [.var 0,.var 3],.var 4],.prim (.Cy true false) [.var 0,.prim .add [.var 3,.cst (.int 1)]]]))]
theorem aL:fns[19]? =some ⟨2,5,Zw⟩:=by kernel_rfl
noncomputable def ju:List S:=[.asg (.nm 1) (.cst (.Ai)),.asg (.nm 2) (.cst (.bl true)),.SG 1 9 [.var 0] 4 2 3,.ret (some (.tup [.var 2,.var 1]))]
theorem gj:fns[20]? =some ⟨1,4,ju⟩:=by kernel_rfl
noncomputable def fk:List S:=[.ifs (.prim (.Ft .tuple) [.var 0]) [.ifs (.or (.not (.prim (.chain .le .le) [.cst (.int 1),.prim .len [.var 0],.cst (.int 4)])) (.or (.not (.prim (.Ft .str) [.prim .idx [.var 0,.cst (.int 0)]])) (.not (.prim (.chain .le .le) [.cst (.int 1),.prim .len [.prim .idx [.var 0,.cst (.int 0)]],.cst (.int 8)])))) [.ret (some (.cst (.bl false)))] [],.ifs (.not (.prim .all [.comp (.nm 1) .op [.prim .idx [.var 0,.cst (.int 0)]] [] (.prim (.chain .le .le) [.cst (.str ⟨#[97]⟩),.var 1,.cst (.str ⟨#[122]⟩)]) [none,none]])) [.ret (some (.cst (.bl false)))] [],.ret (some (.prim .all [.comp (.nm 1) .op [.prim (.Cy true false) [.var 0,.cst (.int 1)]] [] (.call 21 [.var 1]) [none,none]]))] [],.ret (some (.and (.prim (.Ft .int) [.var 0]) (.and (.not (.prim (.Ft .bool) [.var 0])) (.prim .ge [.var 0,.cst (.int 0)]))))]
theorem dW:fns[21]? =some ⟨1,1,fk⟩:=by kernel_rfl
noncomputable def jt:List S:=[.asg (.nm 2) (.call 18 [.var 0]),.asg (.nm 3) (.call 12 [.var 0]),.ifs (.or (.not (.prim (.Ft .str) [.var 3])) (.or (.prim .ne [.var 3,.var 2]) (.not (.call 16 [.call 9 [.var 2],.var 0])))) [.ret (some (.cst (.bl false)))] [],.Ca (.nm 4) .op [.var 1] [.asg (.nm 5) (.call 19 [.var 2,.var 4]),.asg (.tup [6,7]) (.call 20 [.var 5]),.ifs (.or (.not (.var 6)) (.and (.prim .Sz [.var 7,.cst (.Ai)]) (.or (.not (.call 21 [.var 7])) (.prim .ne [.call 18 [.var 7],.var 5])))) [.ret (some (.cst (.bl false)))] []],.ret (some (.call 16 [.call 9 [.var 2],.var 0]))]
theorem gh:fns[22]? =some ⟨2,8,jt⟩:=by kernel_rfl
noncomputable def jr:List S:=[.asg (.nm 1) (.call 14 [.call 13 [.var 0,.cst (.int 0)]]),.Ca (.nm 2) .BZ [.cst (.int 0),.prim .add [.cst (.int 1),.prim .min [.prim .len [.var 0],.cst (.int 48)]],.cst (.int 16)] [.asg (.nm 3) (.call 15 [.comp (.nm 1) .BZ [.cst (.int 16)] [] (.call 13 [.var 3,.prim .add [.var 2,.var 1]]) [none,none,some 2,some 0],.var 1,.cst (.int 24)]),.ifs (.prim .eq [.prim .mod [.call 13 [.var 0,.prim .add [.var 2,.cst (.int 2)]],.cst (.int 3)],.cst (.int 0)]) [.asg (.nm 3) (.call 17 [.var 3,.OJ 1 5 [.prim .add [.cst (.int 10),.prim .mod [.call 13 [.var 0,.prim .add [.var 2,.cst (.int 3)]],.cst (.int 90)]],.cst (.int 99)]])] [],.ifs (.not (.call 22 [.var 3,.comp (.nm 1) .BZ [.cst (.int 3)] [] (.call 13 [.var 3,.prim .add [.prim .add [.var 2,.cst (.int 4)],.var 1]]) [none,none,some 2,some 0]])) [.ret (some (.cst (.bl false)))] []],.asg (.nm 4) (.lst [.cst (.str ⟨#[]⟩),.cst (.str ⟨#[32]⟩),.cst (.str ⟨#[48,48]⟩),.cst (.str ⟨#[48,49]⟩),.cst (.str ⟨#[45,49]⟩),.cst (.str ⟨#[97,40,41]⟩),.cst (.str ⟨#[97,40,48]⟩),.cst (.str ⟨#[97,40,48,41,41]⟩),.cst (.str ⟨#[97,40,48,44,49,41]⟩),.cst (.str ⟨#[97,40,48,44,32,32,49,41]⟩),.cst (.str ⟨#[40,48,41]⟩),.cst (.str ⟨#[65]⟩),.cst (.str ⟨#[97,32,98]⟩),.cst (.str ⟨#[97,40,48,44,32,49,44,32,50,44,32,51,41]⟩)]),.Ca (.nm 5) .op [.prim .add [.var 4,.lst [.cst (.str ⟨#[97,98,99,100,101,102,103,104,105]⟩),.cst (.str ⟨#[97,40,44,32,48,41]⟩),.cst (.str ⟨#[97,40,48,44,32,41]⟩),.cst (.Ai),.cst (.int 7),.tup [.cst (.str ⟨#[97]⟩)],.Dl [.cst (.str ⟨#[97]⟩)],.cst (.int 0)]]] [.asg (.tup [6,7]) (.call 20 [.var 5]),.ifs (.or (.not (.var 6)) (.prim .Sz [.var 7,.cst (.Ai)])) [.ret (some (.cst (.bl false)))] []],.ret (some (.cst (.bl true)))]
theorem dU:fns[23]? =some ⟨1,8,jr⟩:=by kernel_rfl
def jq:List S:=[.Gn 0 ⟨#[116,101,120,116]⟩ (.var 1),.Gn 0 ⟨#[97,116]⟩ (.cst (.int 0))]
theorem dS:fns[24]? =some ⟨2,2,jq⟩:=by kernel_rfl
noncomputable def jo:List S:=[.ret (some (.and (.prim .lt [.prim .id [.fld 0 ⟨#[97,116]⟩],.prim .len [.fld 0 ⟨#[116,101,120,116]⟩]]) (.FX 1 [.prim .idx [.fld 0 ⟨#[116,101,120,116]⟩,.fld 0 ⟨#[97,116]⟩]])))]
theorem dR:fns[25]? =some ⟨2,2,jo⟩:=by kernel_rfl
noncomputable def fj:List S:=[.ifs (.not (.prim .sw [.fld 0 ⟨#[116,101,120,116]⟩,.var 1,.fld 0 ⟨#[97,116]⟩])) [.ret (some (.cst (.bl false)))] [],.Gn 0 ⟨#[97,116]⟩ (.prim .add [.prim .id [.fld 0 ⟨#[97,116]⟩],.prim .len [.var 1]]),.ret (some (.cst (.bl true)))]
theorem aK:fns[26]? =some ⟨2,2,fj⟩:=by kernel_rfl
def fh:List S:=[.ifs (.not (.Au ⟨#[116,97,107,101,115]⟩ (.var 0) [.var 1])) [.raise 4] []]
theorem aJ:fns[27]? =some ⟨2,2,fh⟩:=by kernel_rfl
noncomputable def fg:List S:=[.ifs (.prim .ne [.prim .id [.fld 0 ⟨#[97,116]⟩],.prim .len [.fld 0 ⟨#[116,101,120,116]⟩]]) [.raise 4] []]
theorem aI:fns[28]? =some ⟨1,1,fg⟩:=by kernel_rfl
noncomputable def jm:List S:=[.asg (.nm 2) (.fld 0 ⟨#[97,116]⟩),.Mj (.Au ⟨#[105,115,95,98,101,102,111,114,101]⟩ (.var 0) [.var 1]) [.Gn 0 ⟨#[97,116]⟩ (.prim .add [.fld 0 ⟨#[97,116]⟩,.cst (.int 1)])],.ret (some (.prim (.Cy true true) [.fld 0 ⟨#[116,101,120,116]⟩,.var 2,.fld 0 ⟨#[97,116]⟩]))]
theorem dQ:fns[29]? =some ⟨2,3,jm⟩:=by kernel_rfl
noncomputable def fe:List S:=[.asg (.nm 1) (.Au ⟨#[116,97,107,101,95,97,108,108]⟩ (.var 0) [.cst (.fn 6)]),.ifs (.not (.call 1 [.var 1])) [.raise 4] [],.ret (some (.var 1))]
theorem aH:fns[30]? =some ⟨1,2,fe⟩:=by kernel_rfl
noncomputable def Va:List S:=[.asg (.nm 1) (.Au ⟨#[116,97,107,101,95,97,108,108]⟩ (.var 0) [.cst (.fn 7)]),.ifs (.or (.prim .lt [.prim .len [.var 1],.cst (.int 1)]) (.prim .gt [.prim .len [.var 1],.cst (.int 60)])) [.raise 4] [],.ifs (.and (.prim .eq [.prim .idx [.var 1,.cst (.int 0)],.cst (.str ⟨#[48]⟩)]) (.prim .gt [.prim .len [.var 1],.cst (.int 1)])) [.raise 4] [],.ret (some (.prim .int [.var 1]))]
theorem Wv:fns[32]? =some ⟨1,2,Va⟩:=by kernel_rfl
noncomputable def gw:List S:=[.asg (.nm 2) (.lst []),.Mj (.not (.Au ⟨#[116,97,107,101,115]⟩ (.var 0) [.cst (.str ⟨#[41]⟩)])) [.ifs (.prim .eq [.prim .len [.var 2],.cst (.int 3)]) [.raise 4] [],.ifs (.var 2) [.expr (.Au ⟨#[109,117,115,116,95,116,97,107,101]⟩ (.var 0) [.cst (.str ⟨#[44,32]⟩)])] [],.expr (.CY .append (.var 2) [.BH 1])],.ret (some (.prim (.tuple .op) [.var 2]))]
theorem aG:fns[33]? =some ⟨2,3,gw⟩:=by kernel_rfl
noncomputable def V9:List S:=[.ifs (.prim .eq [.var 1,.cst (.int 24)]) [.raise 4] [],.ifs (.Au ⟨#[105,115,95,98,101,102,111,114,101]⟩ (.var 0) [.cst (.fn 7)]) [.ret (some (.Au ⟨#[110,117,109,98,101,114]⟩ (.var 0) []))] [],.asg (.nm 2) (.Au ⟨#[110,97,109,101]⟩ (.var 0) []),.ifs (.not (.Au ⟨#[116,97,107,101,115]⟩ (.var 0) [.cst (.str ⟨#[40]⟩)])) [.ret (some (.tup [.var 2]))] [],.asg (.nm 3) (.C4 ⟨#[102,101,119]⟩ 0 41 (some 1)),.ifs (.not (.var 3)) [.raise 4] [],.ret (some (.prim .add [.tup [.var 2],.var 3]))]
theorem OI:fns[34]? =some ⟨2,4,V9⟩:=by kernel_rfl
noncomputable def fc:List S:=[.ret (some (.Au ⟨#[107,105,110,100]⟩ (.var 0) [.prim .add [.var 1,.cst (.int 1)]]))]
theorem ka:fns[41]? =some ⟨2,2,fc⟩:=by kernel_rfl
end Lk50
namespace Iv
open PySem
variable{cf:CF}{mt:MT}
theorem di{r:Env}{c:Nat}{fs:List (Str×B)}{f:Nat}(hm:mt.m c m=some f)(hl:fs.lookup m=none)(e:cf f [.obj c fs]= .ok z [some o]):ev cf mt (.Au m (.var 0) []) (some (.obj c fs)::r)= .ok z (some o::r):=by
 rw[BM,SA];dsimp only;rw[hl,hm];show Aq cf f [.slot 0] (some (.obj c fs)::r)=_;unfold Aq;have ec:A9 (some (.obj c fs)::r) [.slot 0]=some [.obj c fs]:=rfl;rw[ec];dsimp only;rw[iP ⟨by show([0]:List Nat).Nodup;decide,rfl⟩,e];rfl
theorem Yh{r:Env}{c:Nat}{fs:List (Str×B)}{f:Nat}{t:T}{h:Hd}{y:Option C}(hm:mt.m c m=some f)(hl:fs.lookup m=none)(ha:A8 cf mt [t] (some (.obj c fs)::r)= .ok [h] (some (.obj c fs)::r))(hc:h.cont (some (.obj c fs)::r)=some (.p p))(e:cf f [.obj c fs,.p p]= .ok z [some o,y]):ev cf mt (.Au m (.var 0) [t]) (some (.obj c fs)::r)= .ok z (some o::r):=by
 rw[BM,SA];dsimp only;rw[hl,hm];dsimp only;rw[ha];show Aq cf f [.slot 0,h] (some (.obj c fs)::r)=_;unfold Aq
 have ec:A9 (some (.obj c fs)::r) [.slot 0,h]=some [.obj c fs,.p p]:=by
  show((h.cont _).bind λc=>_).map _=_;rw[hc];rfl
 rw[ec];have hle:Bw [.slot 0,h] [.obj c fs,.p p]=[0]:=by cases h<;>rfl
 have hg:An [.slot 0,h] [.obj c fs,.p p]=true:=by cases h<;>rfl
 dsimp only;rw[iP ⟨by rw[hle];decide,hg⟩,e];dsimp only
 have hb:back (lend (some (.obj c fs)::r) [.slot 0,h] [.obj c fs,.p p]) [.slot 0,h] [.obj c fs,.p p] [some o,y]=some (some o::r):=by
  unfold lend;rw[hle];cases h<;>rfl
 rw[hb];rfl
theorem K8{r:Env}{c:Nat}{fs:List (Str×B)}{f:Nat}{y:Option C}(hm:mt.m c m=some f)(hl:fs.lookup m=none)(e:cf f [.obj c fs,.p p]= .ok z [some o,y]):ev cf mt (.Au m (.var 0) [.cst p]) (some (.obj c fs)::r)= .ok z (some o::r):=Yh (h:=.AD (.p p)) hm hl rfl rfl e
theorem U9{r:Env}{c:Nat}{fs:List (Str×B)}{f:Nat}{y:Option C}(hm:mt.m c m=some f)(hl:fs.lookup m=none)(e:cf f [.obj c fs,.p p]= .ok z [some o,y]):ev cf mt (.Au m (.var 0) [.var 1]) (some (.obj c fs)::some (.p p)::r)= .ok z (some o::some (.p p)::r):=Yh (h:=.slot 1) hm hl rfl rfl e
end Iv
namespace Lk50
open Iv PySem
variable{cf:CF}
variable{np nl:Nat}{body:List S}{args:List C}{ρ0:Iv.Env}{outs:List (Option C)}
theorem Ad{k f:Nat}(hf:fns[f]? =some ⟨np,nl,body⟩)(hl:args.length=np)(h0:args.map some++List.replicate (nl - np) none=ρ0)(e:execs (A0 fns mt A1 k) mt A1 body ρ0= .ok (.ret c) ρ)(ho:D7 ⟨np,nl,body⟩ ρ=outs):A0 fns mt A1 (k + 1) f args= .ok c outs:=by
 subst h0 ho;exact Rx hf hl e
theorem Qo{k f:Nat}(hf:fns[f]? =some ⟨np,nl,body⟩)(hl:args.length=np)(h0:args.map some++List.replicate (nl - np) none=ρ0)(e:execs (A0 fns mt A1 k) mt A1 body ρ0= .ok .nx ρ)(ho:D7 ⟨np,nl,body⟩ ρ=outs):A0 fns mt A1 (k + 1) f args= .ok (.p .Ai) outs:=by
 subst h0 ho;exact UZ hf hl e
noncomputable def rd(x:Str)(n:Int):List (Str×B):=[(⟨#[116,101,120,116]⟩,.p (.str x)),(⟨#[97,116]⟩,.p (.int n))]
theorem J0{c:Nat}(hc:c % 1000=5){m:Str}{f:Nat}(h:tm.lookup (5,m)=some f):mt.m c m=some f:=by
 show tm.lookup (c%1000,m)=_;rw[hc];exact h
theorem Kp{c:Nat}{r:Iv.Env}:Bi (some (.obj c (rd x n))::r) 0 ⟨#[116,101,120,116]⟩=some (.p (.str x)):=rfl
theorem Jj{c:Nat}{r:Iv.Env}:Bi (some (.obj c (rd x n))::r) 0 ⟨#[97,116]⟩=some (.p (.int n)):=rfl
theorem VY{c:Nat}(hc:c % 1000=5){r:Iv.Env}:Hx mt 0 ⟨#[97,116]⟩ (.p (.int m)) (some (.obj c (rd x n))::r)= .ok .nx (some (.obj c (rd x m))::r):=by
 have:mt.f c ⟨#[97,116]⟩=true:=by show tl.contains (c%1000,_)=true;rw[hc];rfl
 show(if(mt.f c ⟨#[97,116]⟩ && decide ((rd x n).length < 900))=true then _ else _)=_;rw[this];rfl
theorem JJ{k c:Nat}(hc:c % 1000=5){y:Str}{b:Bool}(hs:az (.p (.str x)) (.p (.str y)) (.p (.int n))=some (.p (.bl b)))(hy:y.length<=big):
 A0 fns mt A1 (k+1) 26 [.obj c (rd x n),.p (.str y)]= .ok (.p (.bl b)) [some (.obj c (rd x (if b then n+y.length else n))),sP (.str y)]:=by
 have hl:J5 (.p (.str y))=some (.p (.int y.length)):=by
  show(if y.length<=big then _ else _)=_;rw[iP hy]
 cases b with
 |false=>
   have e:execs (A0 fns mt A1 k) mt A1 fj [some (.obj c (rd x n)),sP (.str y)]= .ok (.ret (.p (.bl false))) [some (.obj c (rd x n)),sP (.str y)]:=by
    unfold fj;simp! [Kp,Jj,hs]
   exact Ad aK rfl rfl e (by kernel_rfl)
 |true=>
   have e:execs (A0 fns mt A1 k) mt A1 fj [some (.obj c (rd x n)),sP (.str y)]= .ok (.ret (.p (.bl true))) [some (.obj c (rd x (n + y.length))),sP (.str y)]:=by
    unfold fj;simp! [Kp,Jj,hs,hl,VY hc]
   exact Ad aK rfl rfl e (by kernel_rfl)
end Lk50
namespace Iv
open PySem
variable{cf:CF}{mt:MT}
theorem DF{f:Nat}{hs:List Hd}{cs:List C}{c:C}{outs:List (Option C)}(ec:A9 ρ hs=some cs)(hc:∀c∈cs,c.cp=true)(e:cf f cs= .ok c outs)(ho:outs.length=cs.length):Aq cf f hs ρ= .ok c ρ:=by
 have hl:∀{hs:List Hd} {cs:List C},(∀c∈cs,c.cp=true)->Bw hs cs=[]:=by
  intro hs
  induction hs with
  |nil=>intro cs _;rfl
  |cons h hs ih=>
    intro cs hc;cases cs with
    |nil=>rfl
    |cons c cs=>
      rw[DU,hc c mS,ih λc hc'=>hc c (mC hc')];rfl
 have hg:∀{hs:List Hd} {cs:List C},(∀c∈cs,c.cp=true)->An hs cs=true:=by
  intro hs cs hc;unfold An;rw[all_eq_true];intro q hq;rw[hc q.2 (of_mem_zip hq).2];rfl
 have hb:∀{hs:List Hd} {cs:List C} {outs:List (Option C)} {ρ' ρ0:Env},A9 ρ0 hs=some cs->(∀c∈cs,c.cp=true)->outs.length=cs.length->back ρ' hs cs outs=some ρ':=by
  intro hs
  induction hs with
  |nil=>intro cs outs ρ' ρ0 ec _ _;cases ec;unfold back;rfl
  |cons h hs ih=>
    intro cs outs ρ' ρ0 ec hc ho;unfold A9 at ec;obtain⟨c,e1,e2⟩:=oB ec;obtain⟨ds,e3,rfl⟩:=oM e2;cases outs with
    |nil=>cases ho
    |cons o outs=>
      have h1:=hc c mS;have r:=ih (ρ':=ρ') e3 (λc hc'=>hc c (mC hc')) (by simpa using ho);cases h with
      |AD d=>unfold back;exact r
      |slot i=>unfold back;rw[h1];exact r
      |fld i f=>unfold back;rw[h1];exact r
 unfold Aq;rw[ec];dsimp only;have hle:lend ρ hs cs=ρ:=by unfold lend;rw[hl hc];rfl
 rw[hl hc,hg hc,iP ⟨List.nodup_nil,rfl⟩,e,hle];dsimp only;rw[hb ec hc ho];rfl
variable{F:P->P}
theorem Ia{cond:Env->Res Bool}{elt:Env->Res C}{β:P->Env}(hset:∀x,EM g x β0=some (β x))(hset2:∀y x,EM g x (β y)=some (β x))(hc:∀ρ,cond ρ= .ok true ρ):
 ∀(xs acc:List P),(∀x∈xs,elt (β x)= .ok (.p (F x)) (β x))->∀β1,(β1=β0\/∃y,β1=β y)->∃β2,(β2=β0\/∃y,β2=β y)/\BG g [] cond elt xs acc β1= .ok (acc++xs.map F) β2
 |[],acc,_,β1,h=>⟨β1,h,by rw[map_nil,append_nil];rfl⟩
 | x ::xs,acc,he,β1,h=>by
   obtain⟨β2,q1,q2⟩:=Ia hset hset2 hc xs (acc++[F x]) (λy hy=>he y (mC hy)) (β x) (.inr ⟨x,rfl⟩);refine⟨β2,q1,?_⟩
   have hs:EM g x β1=some (β x):=by
    rcases h with rfl|⟨y,rfl⟩
    .exact hset x
    .exact hset2 y x
   show(if holds [] β1 then(Res.of (EM g x β1) β1).bind λβ1 _=>(cond β1).bind λb β2=>if b then(elt β2).bind λc β3=>match c with
    |.p y=>BG g [] cond elt xs (acc++[y]) β3
    |_=>.stuck
   else BG g [] cond elt xs acc β2
   else .stuck)=_
   rw[hs]
   show((cond (β x)).bind λb β2=>if b then(elt β2).bind λc β3=>match c with
    |.p y=>BG g [] cond elt xs (acc++[y]) β3
    |_=>.stuck
   else BG g [] cond elt xs acc β2)=_
   rw[hc,Res.A2,iP rfl,he x mS,Res.A2];show BG g [] cond elt xs (acc++[F x]) (β x)=_;rw[q2,map_cons,append_assoc];rfl
theorem eq_int(i j:Int):GV (.int i) (.int j)=some (decide (i=j)):=rfl
theorem eq_str(i j:Str):GV (.str i) (.str j)=some (decide (i=j)):=rfl
theorem Ho{f:Nat}{t:T}{h:Hd}{y:Option C}(ha:A8 cf mt [t] ρ= .ok [h] ρ)(hc:h.cont ρ=some (.p p))(e:cf f [.p p]= .ok z [y]):ev cf mt (.call f [t]) ρ= .ok z ρ:=by
 rw[BV,ha];exact DF (cs:=[.p p]) (by show((h.cont ρ).bind λc=>_)=_;rw[hc];rfl) (λc hc=>by rw[mE hc];rfl) e rfl
theorem KG{f:Nat}{y:Option C}{r:Env}(e:cf f [.p p]= .ok z [y]):ev cf mt (.call f [.var 0]) (some (.p p)::r)= .ok z (some (.p p)::r):=Ho (h:=.slot 0) rfl rfl e
theorem WD{f:Nat}{y:Option C}{a:Option C}{r:Env}(e:cf f [.p p]= .ok z [y]):ev cf mt (.call f [.var 1]) (a::some (.p p)::r)= .ok z (a::some (.p p)::r):=Ho (h:=.slot 1) rfl rfl e
theorem WC{f:Nat}{y:Option C}{a b:Option C}{r:Env}(e:cf f [.p p]= .ok z [y]):ev cf mt (.call f [.var 2]) (a::b::some (.p p)::r)= .ok z (a::b::some (.p p)::r):=Ho (h:=.slot 2) rfl rfl e
theorem jj{f:Nat}{ts:List T}{y:Option C}(ht:ev cf mt (.prim o ts) ρ= .ok (.p p) ρ)(e:cf f [.p p]= .ok z [y]):ev cf mt (.call f [.prim o ts]) ρ= .ok z ρ:=
 Ho (h:=.AD (.p p)) (by show(Bn (.prim o ts) (ev cf mt (.prim o ts)) ρ).bind _=_;rw[show Bn (.prim o ts) (ev cf mt (.prim o ts)) ρ=jH (ev cf mt (.prim o ts) ρ)from rfl,ht];rfl) rfl e
theorem Ex{kd:IK}{t elt:T}{h:Hd}{c:C}{xs:List P}{r:Env}{fr:List (Option Nat)}(hk:kd.ok=true)(ha:A8 cf mt [t] ρ= .ok [h] ρ)(hc:h.cont ρ=some c)(hgf:An [h] [c]=true)(hgu:guards [h] [c]=[])(hs:Ap kd [c]=some xs)(hl:xs.length<=big)(Ak:Fb (.nm 1) fr=true)(hbi:BB fr ρ=none::none::r)(hout:∀y,AN (CH fr ρ) fr (none::y::r)=ρ)
 (he:∀q∈xs,ev cf mt elt (none::some (.p q)::r)= .ok (.p (F q)) (none::some (.p q)::r)):
 ev cf mt (.comp (.nm 1) kd [t] [] elt fr) ρ= .ok (.lst (xs.map F)) ρ:=by
 rw[Jl];show(if kd.ok=true then(A8 cf mt [t] ρ).bind _ else _)=_;rw[iP hk,ha,Res.A2];obtain⟨β2,q1,q2⟩:=Ia (g:=.nm 1) (cond:=Ew cf mt []) (elt:=ev cf mt elt) (F:=F) (β:=λq=>none::some (.p q)::r) (β0:=none::none::r) (λ_=>rfl) (λ_ _=>rfl) GW xs [] he (none::none::r) (.inl rfl);have hco:A9 ρ [h]=some [c]:=by show((h.cont ρ).bind λc=>_)=_;rw[hc];rfl
 unfold Ib;rw[hco];dsimp only;rw[hs];dsimp only;have hbg:BO fr [h] [c]=[]:=by unfold BO;rw[hgu];rfl
 rw[hgf,Ak,decide_eq_true hl,hbg,hbi,q2,nil_append];rcases q1 with rfl|⟨y,rfl⟩
 .exact congrArg (Res.ok _) (hout none)
 .exact congrArg (Res.ok _) (hout _)
theorem Ru{t elt:T}{h:Hd}{c:C}{xs:List P}(ha:A8 cf mt [t] ρ= .ok [h] ρ)(hc:h.cont ρ=some c)(hcp:c.cp=true)(hs:Pw c=some xs)(hl:xs.length<=big)(he:∀q∈xs,ev cf mt elt [none,sP q]= .ok (.p (F q)) [none,sP q]):
 ev cf mt (.comp (.nm 1) .op [t] [] elt [none,none]) ρ= .ok (.lst (xs.map F)) ρ:=Ex rfl ha hc (by unfold An;simp[hcp]) (by unfold guards;simp[hcp]) hs hl rfl rfl (λ_=>rfl) he
theorem KP{F:P->Bool}:∀{xs:List P},EB (xs.map λq=>.bl (F q))=some (xs.map F)
 |[]=>rfl
 | x::xs=>by
   show(EB (xs.map λq=>.bl (F q))).map _=_;rw[KP];rfl
theorem all_map{xs:List P}{F:P->Bool}:Md (.b (.lst (xs.map λq=>.bl (F q))))=some (.p (.bl (xs.all F))):=by
 show(EB (xs.map λq=>.bl (F q))).map _=_;rw[KP (xs:=xs)];show some (C.p (.bl ((xs.map F).all id)))=_;rw[List.all_map];rfl
abbrev tx(l:List Nat):Str:=⟨l.toArray⟩
theorem AY(l:List Nat):(tx l).length=l.length:=by show l.toArray.size=_;simp
theorem Dv{l:List Nat}(h:l.length<=big):J5 (.b (.p (.str (tx l))))=some (.p (.int l.length)):=by
 show(if(tx l).length<=big then some (C.p (.int ((tx l).length:Nat)))else none)=_;rw[AY,iP h]
theorem WR(a b:List Nat):tx a++tx b=tx (a++b):=by
 show(⟨a.toArray++b.toArray⟩:Str)=_;simp
theorem BC{a b:List Nat}(h:a.length + b.length<=big):Ha (.b (.p (.str (tx a)))) (.b (.p (.str (tx b))))=some (.p (.str (tx (a++b)))):=by
 show(if(tx a).length+(tx b).length<=big then some (C.p (.str (tx a++tx b)))else none)=_;rw[AY,AY,iP h,WR]
theorem We(a b:Nat):du (.str (tx [a])) (.str (tx [b]))=some (decide (a<=b)):=by
 show some (decide ([a].toArray.toList<=[b].toArray.toList))=_;refine congrArg some (decide_eq_decide.mpr ?_);show[a]<=[b]↔_;rw[List.cons_le_cons_iff];simp
 lia
theorem between(a b c:Nat):Dd .le .le (.b (.p (.str (tx [a])))) (.b (.p (.str (tx [c])))) (.b (.p (.str (tx [b]))))=some (.p (.bl (decide (a<=c) && decide (c<=b)))):=by
 show(du (.str (tx [a])) (.str (tx [c]))).bind _=_;rw[We];show(if decide (a<=c)=true then(du (.str (tx [c])) (.str (tx [b]))).map _ else _)=_;rw[We];cases decide (a<=c)<;>rfl
theorem KL(a b c:Int):Dd .le .le (.b (.p (.int a))) (.b (.p (.int c))) (.b (.p (.int b)))=some (.p (.bl (decide (a<=c) && decide (c<=b)))):=by
 have e1:∀x y:Int,CS .le (.b (.p (.int x))) (.b (.p (.int y)))=some (decide (x<=y)):=λ_ _=>rfl
 unfold Dd;rw[e1,e1];cases decide (a<=c)<;>rfl
end Iv
namespace Lk50
open Iv PySem
variable{k:Nat}
def low(c:Nat):Bool:=decide (97<=c) && decide (c<=122)
def CU(c:Nat):Bool:=decide (65<=c) && decide (c<=90)
def D1(c:Nat):Bool:=decide (48<=c) && decide (c<=57)
def Hg(c:Nat):Bool:=low c || CU c
theorem Jf{c:Nat}:A0 fns mt A1 (k + 1) 6 [.p (sign c)]= .ok (.p (.bl (Hg c))) [sP (sign c)]:=by
 have e:execs (A0 fns mt A1 k) mt A1 b6 [sP (sign c)]= .ok (.ret (.p (.bl (Hg c)))) [sP (sign c)]:=by
  have h1:=between 97 122 c;have h2:=between 65 90 c;unfold b6 sign Hg low CU;cases hl:(decide (97<=c) && decide (c<=122))with
  |true=>rw[hl]at h1;simp! [h1,cI]
  |false=>rw[hl]at h1;simp! [h1,h2,cI]
 exact Ad f6 rfl rfl e (by kernel_rfl)
theorem EZ{c:Nat}:A0 fns mt A1 (k + 1) 7 [.p (sign c)]= .ok (.p (.bl (D1 c))) [sP (sign c)]:=by
 have e:execs (A0 fns mt A1 k) mt A1 b7 [sP (sign c)]= .ok (.ret (.p (.bl (D1 c)))) [sP (sign c)]:=by
  have h1:=between 48 57 c;unfold b7 sign D1;simp! [h1]
 exact Ad f7 rfl rfl e (by kernel_rfl)
theorem Ii{cf:CF}{t:T}{h:Hd}{l:List Nat}(ha:A8 cf mt [t] ρ= .ok [h] ρ)(hc:h.cont ρ=some (.p (.str (tx l))))(hl:l.length<=big)(h7:∀c∈l,c < 128):
 ev cf mt (.prim .all [.comp (.nm 1) .op [t] [] (.prim (.chain .le .le) [.cst (.str ⟨#[97]⟩),.var 1,.cst (.str ⟨#[122]⟩)]) [none,none]]) ρ= .ok (.p (.bl (l.all low))) ρ:=by
 have hq:Pw (.p (.str (tx l)))=some (l.map sign):=by
  show(if(tx l).length<=big/\l.toArray.all (λc=>decide (c < 128))=true then some (l.map sign)else none)=_;rw[AY,iP ⟨hl,by simp;exact h7⟩]
 have hm:=Ru (cf:=cf) (mt:=mt) (elt:=.prim (.chain .le .le) [.cst (.str ⟨#[97]⟩),.var 1,.cst (.str ⟨#[122]⟩)]) (F:=λq=>match q with| .str x=>.bl (low (x.cps.toList.headD 0))|q=>.bl false) ha hc rfl hq (by simpa using hl) (λq hq=>by
  obtain⟨c,_,rfl⟩:=mem_map.mp hq;have h1:=between 97 122 c;show ev cf mt _ [none,sP (sign c)]= .ok (.p (.bl (low c))) [none,sP (sign c)];unfold sign low
  simp! [h1])
 have hmm:(l.map sign).map (λq=>match q with| .str x=>Iv.P.bl (low (x.cps.toList.headD 0))|q=>.bl false)=(l.map sign).map λq=>.bl ((λq=>match q with| .str x=>low (x.cps.toList.headD 0)|q=>false) q):=by
  rw[map_map,map_map];rfl
 rw[hmm]at hm;rw[He,B9,Fh,hm];show Res.of (Md (.b (.lst _))) ρ=_;rw[all_map,List.all_map];rfl
def IU(l:List Nat):Bool:=decide (1<=l.length) && decide (l.length<=8) && l.all low
theorem GK{l:List Nat}(h7:∀c∈l,c < 128)(hb:l.length<=big):A0 fns mt A1 (k + 1) 1 [.p (.str (tx l))]= .ok (.p (.bl (IU l))) [sP (.str (tx l))]:=by
 have e:execs (A0 fns mt A1 k) mt A1 b1 [sP (.str (tx l))]= .ok (.ret (.p (.bl (IU l)))) [sP (.str (tx l))]:=by
  have hl:=Dv hb;have hbl:=Ii (cf:=A0 fns mt A1 k) (t:=.var 0) (h:=.slot 0) (ρ:=[sP (.str (tx l))]) rfl rfl hb h7;unfold b1 IU
  by_cases h1:(l.length:Int) < 1
  .have:¬1<=l.length:=by lia
   simp! [hl,h1,this]
  .have h1':1<=l.length:=by lia
   by_cases h2:(8:Int) < l.length
   .have:¬l.length<=8:=by lia
    simp! [hl,h1,h2,h1',this]
   .have h2':l.length<=8:=by lia
    simp! [hl,h1,h2,h1',h2',↓hbl]
 exact Ad f1 rfl rfl e (by kernel_rfl)
end Lk50
namespace Iv
open PySem
theorem Uv{l:List Nat}{k c:Nat}(h:l[k]? =some c)(hl:l.length<=big):Dj (.b (.p (.str (tx l)))) (.b (.p (.int (k:Int))))=some (.p (sign c)):=by
 show(if(tx l).length<=big then(JD (tx l).length (k:Int)).bind λk=>((tx l).cps.toList[k]?).map λc=>C.p (sign c)else none)=_;rw[AY,iP hl,LO (List.getElem?_eq_some_iff.mp h).1];show(l[k]?).map _=_;rw[h];rfl
theorem cA:Dy NN (.b (.p (.int 10))) (.b (.p (.int 60)))=some (.p (.int (10 ^ 60))):=rfl
theorem cB:Dy NN (.b (.p (.int 10))) (.b (.p (.int 30)))=some (.p (.int (10 ^ 30))):=rfl
end Iv
namespace Lk50
open Iv PySem
variable{k:Nat}
theorem Km :A0 fns mt A1 (k + 1) 2 [.p (.int i)]= .ok (.p (.bl true)) [sP (.int i)]:=by
 have e:execs (A0 fns mt A1 k) mt A1 b2 [sP (.int i)]= .ok (.ret (.p (.bl true))) [sP (.int i)]:=by
  unfold b2;simp! [Jx,O0]
 exact Ad f2 rfl rfl e (by kernel_rfl)
abbrev AJ(ls:List (List Nat)):List Iv.P:=ls.map λl=>.str (tx l)
theorem Gg:∀ls:List (List Nat),strsOf (AJ ls)=some (ls.map tx)
 |[]=>rfl
 | l::ls=>by
   show(strsOf (AJ ls)).map _=_;rw[Gg ls];rfl
theorem WQ{a b:List Nat}(h:tx a=tx b):a=b:=by
 injection h with h
 exact List.toArray_inj h
end Lk50
namespace Iv
open PySem
def dg(n:Nat):List Nat:=(Nat.toDigits 10 n).map Char.toNat
variable{n:Nat}
theorem N4(h:n < 10):dg n=[48 + n]:=by
 unfold dg;rw[Nat.toDigits_of_lt_base h];show[n.digitChar.toNat]=_;have:∀m < 10,m.digitChar.toNat=48+m:=by decide
 rw[this n h]
theorem N5(h:10<=n):dg n=dg (n / 10)++[48 + n % 10]:=by
 unfold dg;rw[Nat.toDigits_of_base_le (by decide) h,List.map_append];show _++[(n%10).digitChar.toNat]=_;have:∀m < 10,m.digitChar.toNat=48+m:=by decide
 rw[this _ (Nat.mod_lt _ (by decide))]
theorem M5{m:Nat}(hm:0 < m)(h:n < 10 ^ m):(dg n).length<=m:=by
 unfold dg;rw[lM];exact(Nat.length_toDigits_le_iff (by decide) hm).mpr h
theorem M6(n:Nat):∀c∈dg n,48<=c/\c<=57:=by
 induction n using Nat.strongRecOn with
 |ind n ih=>
   intro c hc
   by_cases h:n < 10
   .rw[N4 h]at hc;rw[mE hc]
    lia
   .rw[N5 (by lia)]at hc;rcases mem_append.mp hc with z|z
    .exact ih (n/10) (by lia) c z
    .rw[mE z];have:=Nat.mod_lt n (show 10 > 0 by decide)
     lia
theorem Fv(l:List Nat)(c:Nat):Bf (l++[c])=Bf l * 10 + (c - 48):=by
 unfold Bf;rw[foldl_append];rfl
theorem Z0(n:Nat):Bf (dg n)=n:=by
 induction n using Nat.strongRecOn with
 |ind n ih=>
   by_cases h:n < 10
   .rw[N4 h];show 0*10+(48+n-48)=n
    lia
   .rw[N5 (by lia),Fv,ih (n/10) (by lia)];have:=Nat.mod_lt n (show 10 > 0 by decide)
    lia
theorem Jm(n:Nat):∃c r,dg n=c::r/\(c=48->n=0/\r=[]):=by
 induction n using Nat.strongRecOn with
 |ind n ih=>
   by_cases h:n < 10
   .exact⟨48+n,[],N4 h,λz=>⟨by lia,rfl⟩⟩
   .obtain⟨c,r,e,hc⟩:=ih (n/10) (by lia);refine⟨c,r++[48+n%10],by rw[N5 (by lia),e];rfl,λz=>?_⟩;have:=(hc z).1
    lia
def Sy(i:Int):List Nat:=if i < 0 then 45::dg i.natAbs else dg i.natAbs
theorem Mr(n:Nat):Str.ofString (toString n)=tx (dg n):=by
 rw[Str.ofString_eq_toList];show(⟨_⟩:Str)=⟨_⟩;unfold dg;rw[show(toString n:String)=n.repr from rfl,Nat.toList_repr]
theorem str_int(i:Int):Str.ofString (toString i)=tx (Sy i):=by
 unfold Sy;cases i with
 |ofNat n=>
   rw[iN (by exact Int.not_lt.mpr (Int.natCast_nonneg n))];exact Mr n
 |negSucc n=>
   rw[iP (Int.negSucc_lt_zero n)];show Str.ofString ("-"++toString (n+1))=tx (45::dg (n+1));have:=Mr (n+1);rw[Str.ofString_eq_toList]at this ⊢;rw[String.toList_append,List.map_append]
   have h2:((toString (n + 1)).toList.map Char.toNat)=dg (n + 1):=by
    injection this with this
    exact List.toArray_inj this
   rw[h2];rfl
theorem P4{i:Int}(h:i.natAbs < 10 ^ 60):Jg P5 (.b (.p (.int i)))=some (.p (.str (tx (Sy i)))):=by
 show(if i.natAbs.log2 < 1920 then some (P.str (Str.ofString (toString i)))else none).map (λk=>C.p k)=_
 have h2 :i.natAbs.log2 < 1920:=by
  by_cases h0:i.natAbs=0
  .rw[h0];decide
  .rw [Nat.log2_lt h0]
   exact Nat.lt_of_lt_of_le h (by
    calc (10:Nat) ^ 60<=16 ^ 60:=Nat.pow_le_pow_left (by decide) 60
     _=2 ^ 240:=by rw[show(16:Nat)=2 ^ 4 from rfl,<-Nat.pow_mul]
     _<=2 ^ 1920:=Nat.pow_le_pow_right (by decide) (by decide))
 rw[iP h2,str_int];rfl
end Iv
namespace Lk50
open Iv PySem
variable{k:Nat}
theorem Pr{n:Nat}(h:n < 10 ^ 60):A0 fns mt A1 (k + 1) 10 [.p (.int n)]= .ok (.p (.str (tx (dg n)))) [none]:=by
 have hi:((n:Int)).natAbs < 10 ^ 60:=by simpa using h
 have h1:=P4 hi;have h2:Sy (n:Int)=dg n:=by unfold Sy;rw[iN (by lia)];simp
 rw[h2]at h1;have h3:¬(n:Int) < 0:=by lia
 have h4:¬(10 ^ 60:Int)<=(n:Int):=by lia
 have h5:=BC (a:=dg n) (b:=[]) (by have:=M5 (by decide) h;unfold big;simp;lia);rw[append_nil]at h5
 have e:execs (A0 fns mt A1 k) mt A1 jy [sP (.int n),none]= .ok (.ret (.p (.str (tx (dg n))))) [sP (.int n),sP (.str (tx []))]:=by
  have hc:tv (A0 fns mt A1 k) mt (.prim .ge [.var 0,.prim .pow [.cst (.int 10),.cst (.int 60)]]) [sP (.int n),sP (.str (tx []))]= .ok false [sP (.int n),sP (.str (tx []))]:=by
   simp! [cA]
   lia
  have hw:∀b,A1 (tv (A0 fns mt A1 k) mt (.prim .ge [.var 0,.prim .pow [.cst (.int 10),.cst (.int 60)]])) b [sP (.int n),sP (.str (tx []))]= .ok .nx [sP (.int n),sP (.str (tx []))]:=λb=>by
   rw[Bo,hc];rfl
  unfold jy;simp! [JA,hw,h1,h3,h5]
 exact Ad gr rfl rfl e (by kernel_rfl)
end Lk50
namespace Iv
open PySem
def jn(sep:List Nat):List (List Nat)->List Nat
 |[]=>[]
 |x::r=>x++(r.map λy=>sep++y).flatten
theorem HJ(sep:List Nat):∀(xs:List (List Nat)) (a:List Nat),(xs.map tx).foldl (λacc (p:Str)=>acc++(tx sep).cps++p.cps) a.toArray=(a++(xs.map λy=>sep++y).flatten).toArray
 |[],a=>by simp
 | x::xs,a=>by
   rw[map_cons,foldl_cons];have:a.toArray++(tx sep).cps++(tx x).cps=(a++sep++x).toArray:=by simp
   rw[this,HJ sep xs (a++sep++x),map_cons,List.flatten_cons];simp
theorem QN(sep:List Nat)(ls:List (List Nat)):Kl (tx sep) (ls.map tx)=tx (jn sep ls):=by
 cases ls with
 |nil=>rfl
 |cons x r=>
   show(⟨(r.map tx).foldl (λacc p=>acc++(tx sep).cps++p.cps) (tx x).cps⟩:Str)=_;have:=HJ sep r x;exact congrArg Str.mk this
theorem sum_bound{m:Nat}:∀{ls:List (List Nat)},(∀l∈ls,l.length<=m)->(ls.map List.length).sum<=ls.length * m
 |[],_=>by simp
 | l::ls,h=>by
   have h1:=h l mS;have h2:=sum_bound λx hx=>h x (mC hx)
   rw[map_cons,List.sum_cons,lC,Nat.add_mul]
   lia
theorem Yt{sep:List Nat}{m:Nat}{ls:List (List Nat)}(h:∀l∈ls,l.length<=m):(jn sep ls).length<=ls.length * (m + sep.length):=by
 cases ls with
 |nil=>simp[jn]
 |cons x r=>
   have h1:=h x mS
   have h2:((r.map λy=>sep++y).flatten).length<=r.length * (m + sep.length):=by
    rw[List.length_flatten,map_map];have:(List.map (List.length ∘ λy=>sep++y) r).sum=((r.map λy=>sep++y).map List.length).sum:=by rw[map_map]
    rw[this]
    have:=sum_bound (m:=m + sep.length) (ls:=r.map λy=>sep++y) (λl hl=>by
     obtain⟨y,hy,rfl⟩:=mem_map.mp hl;have:=h y (mC hy)
     rw[lA];lia)
    rw[lM]at this;exact this
   unfold jn;rw[lA,lC,Nat.add_mul]
   lia
theorem LB(ls:List (List Nat)):(ls.map tx).map (·.length)=ls.map List.length:=by
 rw[map_map];exact map_congr_left λl _=>AY l
end Iv
namespace Lk50
open Iv PySem
theorem Cs{sep:List Nat}{m:Nat}{ls:List (List Nat)}(h:∀l∈ls,l.length<=m)(hb:ls.length * (m + sep.length)<=big):FO (tx sep) (.b (.lst (AJ ls)))=some (.p (.str (tx (jn sep ls))))/\FO (tx sep) (.b (.p (.tup (AJ ls))))=some (.p (.str (tx (jn sep ls)))):=by
 have key:(some (AJ ls)).bind (λx=>strsOf x)=some (ls.map tx):=Gg ls;have h2:=sum_bound h
 have hc:((ls.map tx).map (·.length)).sum + (ls.map tx).length * (tx sep).length<=big:=by
  rw[LB,lM,AY];rw[Nat.mul_add]at hb
  lia
 have fin:(if((ls.map tx).map (·.length)).sum + (ls.map tx).length * (tx sep).length<=big then some (C.p (.str (Kl (tx sep) (ls.map tx))))else none)=some (.p (.str (tx (jn sep ls)))):=by
  rw[iP hc,QN]
 refine⟨?_,?_⟩
 .show((some (AJ ls)).bind strsOf).bind _=_;rw[key];exact fin
 .show((some (AJ ls)).bind strsOf).bind _=_;rw[key];exact fin
end Lk50
namespace Iv
open PySem
variable{cf:CF}{mt:MT}
theorem ji{f:Nat}{t:T}{y:Option C}(ha:A8 cf mt [t] ρ= .ok [.AD c] ρ)(e:cf f [c]= .ok z [y]):ev cf mt (.call f [t]) ρ= .ok z ρ:=by
 rw[BV,ha];show Aq cf f [.AD c] ρ=_;unfold Aq;have hl:Bw [.AD c] [c]=[]:=by unfold Bw;cases hc:c.cp<;>simp[hc]
 have hg:An [.AD c] [c]=true:=by unfold An;simp
 rw[show A9 ρ [.AD c]=some [c]from rfl];dsimp only;rw[iP ⟨by rw[hl];exact .nil,hg⟩,e];dsimp only;unfold lend;rw[hl];rfl
end Iv
namespace Lk50
open Iv PySem
variable{k:Nat}
theorem KI{m:Nat}{ls:List (List Nat)}{c:C}(hc:c= .lst (AJ ls)\/c= .p (.tup (AJ ls)))(h:∀l∈ls,l.length<=m)(hb:ls.length * (m + 2)<=99000):∃y,A0 fns mt A1 (k + 1) 11 [c]= .ok (.p (.str (tx ([40]++jn [44,32] ls++[41])))) [y]:=by
 obtain⟨j1,j2⟩:=Cs (sep:=[44,32]) (m:=m) h (by unfold big;exact Nat.le_trans hb (by decide));have hl:=Yt (sep:=[44,32]) h;have hl:(jn [44,32] ls).length<=99000:=Nat.le_trans hl hb;have hj:FO (tx [44,32]) c=some (.p (.str (tx (jn [44,32] ls)))):=by rcases hc with rfl|rfl;(· exact j1);(· exact j2)
 have a1:=BC (a:=[40]) (b:=jn [44,32] ls) (by unfold big;simp;lia);have a2:=BC (a:=[40]++jn [44,32] ls) (b:=[41]) (by unfold big;simp;lia);refine⟨some c,?_⟩;generalize hJ:jn [44,32] ls=J at hj a1 a2 ⊢;generalize hX:[40]++J=X1 at a1 a2 ⊢
 have e:execs (A0 fns mt A1 k) mt A1 jx [some c]= .ok (.ret (.p (.str (tx (X1++[41]))))) [some c]:=by
  unfold jx;simp! [hj,a1,a2]
 exact Ad gq rfl rfl e (by kernel_rfl)
variable{c:Nat}{a r:List Nat}
abbrev St(c:Nat)(a r:List Nat):C:=.obj c (rd (tx (a++r)) a.length)
theorem VU{s:List Nat}:az (.p (.str (tx (a++r)))) (.p (.str (tx s))) (.p (.int a.length))=some (.p (.bl (decide (r.take s.length=s)))):=by
 show(if(0:Int)<=(a.length:Int)/\(a.length:Int)<=((tx (a++r)).length:Nat)then some (C.p (.bl (decide (((tx (a++r)).cps.toList.drop (a.length:Int).toNat).take (tx s).length=(tx s).cps.toList))))else none)=_;rw[iP ⟨by lia,by rw[AY,lA];lia⟩,AY];show some (C.p (.bl (decide (((a++r).drop a.length).take s.length=s))))=_;rw[List.drop_left]
theorem RQ{s:List Nat}:C.obj c (rd (tx (a++(s++r))) ((a.length:Int) + (tx s).length))=St c (a++s) r:=by
 have h1:a++(s++r)=a++s++r:=by simp
 have h2:(a.length:Int)+(tx s).length=((a++s).length:Nat):=by rw[AY,lA];lia
 rw[h1,h2]
theorem Iz(hc:c % 1000=5){s:List Nat}(hs:s.length<=1000):A0 fns mt A1 (k + 1) 26 [St c a (s++r),.p (.str (tx s))]= .ok (.p (.bl true)) [some (St c (a++s) r),sP (.str (tx s))]:=by
 have h:=JJ (k:=k) hc (x:=tx (a++(s++r))) (y:=tx s) (n:=a.length) (b:=true) (by rw[VU,List.take_left,decide_eq_true rfl]) (by rw[AY];unfold big;lia);rw[iP rfl,RQ]at h;exact h
theorem IA(hc:c % 1000=5){s:List Nat}(hs:s.length<=1000)(hn:r.take s.length≠s):A0 fns mt A1 (k + 1) 26 [St c a r,.p (.str (tx s))]= .ok (.p (.bl false)) [some (St c a r),sP (.str (tx s))]:=
 JJ (k:=k) hc (b:=false) (by rw[VU,dF hn]) (by rw[AY];unfold big;lia)
variable{ch:Nat}
theorem JK(h:∀d r',r=d::r'->d≠ch):r.take 1≠[ch]:=by
 cases r with
 |nil=>intro z;cases z
 |cons d r'=>intro z;have:=h d r' rfl;simp at z;exact this z
theorem DR(hc:c%1000=5):mt.m c ⟨#[116,97,107,101,115]⟩=some 26:=J0 hc (by kernel_rfl)
theorem GD(hc:c%1000=5):mt.m c ⟨#[105,115,95,98,101,102,111,114,101]⟩=some 25:=J0 hc (by kernel_rfl)
theorem Wb(hc:c%1000=5):mt.m c ⟨#[116,97,107,101,95,97,108,108]⟩=some 29:=J0 hc (by kernel_rfl)
theorem Qx(hc:c%1000=5):mt.m c ⟨#[109,117,115,116,95,116,97,107,101]⟩=some 27:=J0 hc (by kernel_rfl)
theorem U6(hc:c % 1000=5){s:List Nat}(hs:s.length<=1000):A0 fns mt A1 (k + 2) 27 [St c a (s++r),.p (.str (tx s))]= .ok (.p .Ai) [some (St c (a++s) r),sP (.str (tx s))]:=by
 have h1:=U9 (cf:=A0 fns mt A1 (k+1)) (mt:=mt) (r:=[]) (DR hc) rfl (Iz (k:=k) (a:=a) (r:=r) hc hs)
 have e:execs (A0 fns mt A1 (k + 1)) mt A1 fh [some (St c a (s++r)),sP (.str (tx s))]= .ok .nx [some (St c (a++s) r),sP (.str (tx s))]:=by
  unfold fh;simp! [↓h1]
 exact Qo aJ rfl rfl e (by kernel_rfl)
theorem K4(hb:a.length<=big):A0 fns mt A1 (k + 1) 28 [St c a []]= .ok (.p .Ai) [some (St c a [])]:=by
 have hl:=Dv (l:=a++[]) (by simpa using hb);have e0:(a++[]).length=a.length:=by simp
 rw[e0]at hl
 have e:execs (A0 fns mt A1 k) mt A1 fg [some (St c a [])]= .ok .nx [some (St c a [])]:=by
  unfold fg St;generalize tx (a++[])=x at hl ⊢;simp! [Kp,Jj,hl,eq_int]
 exact Qo aI rfl rfl e (by kernel_rfl)
def ahead(pred:Nat->Bool):List Nat->Bool
 |[]=>false
 |ch::_=>pred ch
variable{pred:Nat->Bool}
theorem FC{f:Nat}(hf:f < 24)(hp:∀ch,A0 fns mt A1 (k + 1) f [.p (sign ch)]= .ok (.p (.bl (pred ch))) [sP (sign ch)])(hb:a.length + r.length<=70000):A0 fns mt A1 (k + 2) 25 [St c a r,.p (.fn f)]= .ok (.p (.bl (ahead pred r))) [some (St c a r),sP (.fn f)]:=by
 have hbl:(a++r).length<=big:=by rw[lA];unfold big;lia
 have hl:=Dv hbl;rw[lA]at hl
 have e:execs (A0 fns mt A1 (k + 1)) mt A1 jo [some (St c a r),sP (.fn f)]= .ok (.ret (.p (.bl (ahead pred r)))) [some (St c a r),sP (.fn f)]:=by
  unfold jo St;cases r with
  |nil=>
    have h0:¬(a.length:Int) < ((a.length+([]:List Nat).length:Nat):Int):=by simp
    generalize tx (a++[])=x at hl ⊢;show _=Res.ok (Fl.ret (.p (.bl false))) _;simp! [Kp,Jj,hl,h0,Jx]
  |cons ch r'=>
    have h0:(a.length:Int) < ((a.length+(ch::r').length:Nat):Int):=by rw[lC];lia
    have hi:=Uv (l:=a++ch::r') (k:=a.length) (c:=ch) (by rw[List.getElem?_append_right (lR)];simp) hbl;have htf:mt.tf f=true:=decide_eq_true hf;show _=Res.ok (Fl.ret (.p (.bl (pred ch)))) _;generalize hX:tx (a++ch::r')=x at hl hi ⊢;have ha:A8 (A0 fns mt A1 (k+1)) mt [.prim .idx [.fld 0 ⟨#[116,101,120,116]⟩,.fld 0 ⟨#[97,116]⟩]] [some (.obj c (rd x a.length)),sP (.fn f)]= .ok [.AD (.p (sign ch))] [some (.obj c (rd x a.length)),sP (.fn f)]:=by simp! [Kp,Jj,hi]
    have hap:ev (A0 fns mt A1 (k + 1)) mt (.FX 1 [.prim .idx [.fld 0 ⟨#[116,101,120,116]⟩,.fld 0 ⟨#[97,116]⟩]]) [some (.obj c (rd x a.length)),sP (.fn f)]= .ok (.p (.bl (pred ch))) [some (.obj c (rd x a.length)),sP (.fn f)]:=by
     rw[Sr,Wt];show(if mt.tf f=true then(A8 _ _ _ _).bind _ else _)=_;rw[iP htf,ha,Res.A2];exact DF (hs:=[.AD (.p (sign ch))]) (cs:=[.p (sign ch)]) rfl (λc hc=>by rw[mE hc];rfl) (hp ch) rfl
    generalize a.length+(ch::r').length=m at hl h0;simp! [Kp,Jj,hl,h0,Jx,↓hap]
 exact Ad dR rfl rfl e (by kernel_rfl)
def fO:List S:=[.Gn 0 ⟨#[97,116]⟩ (.prim .add [.fld 0 ⟨#[97,116]⟩,.cst (.int 1)])]
def VT:T:=.Au ⟨#[105,115,95,98,101,102,111,114,101]⟩ (.var 0) [.var 1]
theorem Zt:jm=[.asg (.nm 2) (.fld 0 ⟨#[97,116]⟩),.Mj VT fO,.ret (some (.prim (.Cy true true) [.fld 0 ⟨#[116,101,120,116]⟩,.var 2,.fld 0 ⟨#[97,116]⟩]))]:=rfl
theorem ZK:C.obj c (rd (tx (a++ch::r)) ((a.length:Int) + 1))=St c (a++[ch]) r:=by
 have h:=RQ (c:=c) (a:=a) (r:=r) (s:=[ch]);rw[AY]at h;exact h
theorem KQ{f:Nat}{y:Option C}(hc:c % 1000=5)(hf:f < 24)(hp:∀ch,A0 fns mt A1 (k + 1) f [.p (sign ch)]= .ok (.p (.bl (pred ch))) [sP (sign ch)])(hr:ahead pred r=false):∀(w a:List Nat),(∀ch∈w,pred ch=true)->a.length + (w++r).length<=70000->
 A1 (tv (A0 fns mt A1 (k+2)) mt VT) (execs (A0 fns mt A1 (k+2)) mt A1 fO) [some (St c a (w++r)),sP (.fn f),y]= .ok .nx [some (St c (a++w) r),sP (.fn f),y]
 | [],a,_,hb=>by
   have h:=FC (k:=k) (c:=c) (a:=a) (r:=r) hf hp hb;rw[hr]at h;have h1:ev (A0 fns mt A1 (k+2)) mt VT [some (St c a r),sP (.fn f),y]=_:=U9 (GD hc) rfl h;rw[append_nil];show A1 _ _ [some (St c a r),sP (.fn f),y]=_;rw[Bo]
   have h2:tv (A0 fns mt A1 (k + 2)) mt VT [some (St c a r),sP (.fn f),y]= .ok false [some (St c a r),sP (.fn f),y]:=by
    unfold VT at h1 ⊢;rw[Mh,h1];rfl
   rw[h2];rfl
 | ch::w,a,hw,hb=>by
   have h:=FC (k:=k) (c:=c) (a:=a) (r:=ch::w++r) hf hp hb;have e0:ahead pred (ch::w++r)=true:=hw ch mS;rw[e0]at h;have h1:ev (A0 fns mt A1 (k+2)) mt VT [some (St c a (ch::w++r)),sP (.fn f),y]=_:=U9 (GD hc) rfl h
   have h2:tv (A0 fns mt A1 (k + 2)) mt VT [some (St c a (ch::w++r)),sP (.fn f),y]= .ok true [some (St c a (ch::w++r)),sP (.fn f),y]:=by
    unfold VT at h1 ⊢;rw[Mh,h1];rfl
   have h3:execs (A0 fns mt A1 (k + 2)) mt A1 fO [some (St c a (ch::w++r)),sP (.fn f),y]= .ok .nx [some (St c (a++[ch]) (w++r)),sP (.fn f),y]:=by
    rw[<-ZK];show execs _ _ _ _ [some (.obj c (rd (tx (a++ch::(w++r))) a.length)),sP (.fn f),y]=_;generalize tx (a++ch::(w++r))=x;unfold fO;simp! [Jj,VY hc,Fd]
   rw[Bo,h2,Res.A2,iP rfl,h3,Res.A2];have ih:=KQ (y:=y) hc hf hp hr w (a++[ch]) (λd hd=>hw d (mC hd)) (by rw[lA,lS];rw[List.cons_append,lC]at hb;lia);rw[append_assoc]at ih;exact ih
theorem UQ{w:List Nat}(hb:(a++w++r).length<=big):D3 (.b (.p (.str (tx (a++w++r))))) (some (a.length:Int)) (some ((a++w).length:Nat))=some (.p (.str (tx w))):=by
 show(BY (tx (a++w++r)) (some (a.length:Int)) (some ((a++w).length:Nat))).map _=_;unfold BY;dsimp only;rw[iP ⟨by lia,by rw[lA];lia,by rw[AY,show(a++w++r).length=(a++w).length+r.length from lA];lia,by rw[AY];exact hb⟩];show some (C.p (.str ⟨(((a++w++r).drop a.length).take ((((a++w).length:Nat):Int)-(a.length:Int)).toNat).toArray⟩))=_;have h1:((((a++w).length:Nat):Int)-(a.length:Int)).toNat=w.length:=by rw[lA];lia
 rw[h1,append_assoc,List.drop_left,List.take_left]
theorem RN{f:Nat}{w:List Nat}(hc:c % 1000=5)(hf:f < 24)(hp:∀ch,A0 fns mt A1 (k + 1) f [.p (sign ch)]= .ok (.p (.bl (pred ch))) [sP (sign ch)])(hr:ahead pred r=false)(hw:∀ch∈w,pred ch=true)(hb:a.length + (w++r).length<=70000):
 A0 fns mt A1 (k+3) 29 [St c a (w++r),.p (.fn f)]= .ok (.p (.str (tx w))) [some (St c (a++w) r),sP (.fn f)]:=by
 have h1:=KQ (k:=k) (y:=some (.p (.int a.length))) hc hf hp hr w a hw hb;have h2:=UQ (a:=a) (w:=w) (r:=r) (by rw[append_assoc,lA];unfold big;lia)
 have e:execs (A0 fns mt A1 (k + 2)) mt A1 jm [some (St c a (w++r)),sP (.fn f),none]= .ok (.ret (.p (.str (tx w)))) [some (St c (a++w) r),sP (.fn f),sP (.int a.length)]:=by
  rw[Zt];have e1:exec (A0 fns mt A1 (k+2)) mt A1 (.asg (.nm 2) (.fld 0 ⟨#[97,116]⟩)) [some (St c a (w++r)),sP (.fn f),none]= .ok .nx [some (St c a (w++r)),sP (.fn f),sP (.int a.length)]:=rfl
  have e2:exec (A0 fns mt A1 (k + 2)) mt A1 (.ret (some (.prim (.Cy true true) [.fld 0 ⟨#[116,101,120,116]⟩,.var 2,.fld 0 ⟨#[97,116]⟩]))) [some (St c (a++w) r),sP (.fn f),sP (.int a.length)]= .ok (.ret (.p (.str (tx w)))) [some (St c (a++w) r),sP (.fn f),sP (.int a.length)]:=by
   show exec _ _ _ _ [some (.obj c (rd (tx (a++w++r)) ((a++w).length:Nat))),sP (.fn f),sP (.int a.length)]= .ok _ [some (.obj c (rd (tx (a++w++r)) ((a++w).length:Nat))),sP (.fn f),sP (.int a.length)];generalize hX:tx (a++w++r)=x at h2 ⊢;generalize (a++w).length=m at h2 ⊢;simp! [Kp,Jj,h2]
  rw[Ar,e1,BD,Ar,JA,h1,BD,Ar,e2];rfl
 exact Ad dQ rfl rfl e (by kernel_rfl)
theorem LA{w:List Nat}(hc:c % 1000=5)(hr:ahead Hg r=false)(hw:∀ch∈w,Hg ch=true)(hb:a.length + (w++r).length<=70000):
 A0 fns mt A1 (k+3) 29 [St c a (w++r),.p (.fn 6)]= .ok (.p (.str (tx w))) [some (St c (a++w) r),sP (.fn 6)]:=RN hc (by decide) (λch=>Jf) hr hw hb
theorem M0{w:List Nat}(hc:c % 1000=5)(hr:ahead D1 r=false)(hw:∀ch∈w,D1 ch=true)(hb:a.length + (w++r).length<=70000):
 A0 fns mt A1 (k+3) 29 [St c a (w++r),.p (.fn 7)]= .ok (.p (.str (tx w))) [some (St c (a++w) r),sP (.fn 7)]:=RN hc (by decide) (λch=>EZ) hr hw hb
end Lk50
namespace Iv
open PySem
variable{cf:CF}{mt:MT}
theorem cX{r:Env}{c:Nat}{fs:List (Str×B)}{f x:Nat}(hm:mt.m c m=some f)(hl:fs.lookup m=none)(e:cf f [.obj c fs]= .err x p):ev cf mt (.Au m (.var 0) []) (some (.obj c fs)::r)= .err x p (none::r):=by
 rw[BM,SA];dsimp only;rw[hl,hm];show Aq cf f [.slot 0] (some (.obj c fs)::r)=_;unfold Aq;rw[show A9 (some (.obj c fs)::r) [.slot 0]=some [.obj c fs]from rfl];dsimp only;rw[iP ⟨by show([0]:List Nat).Nodup;decide,rfl⟩,e];rfl
theorem iJ{r:Env}{c:Nat}{fs:List (Str×B)}{f x:Nat}(hm:mt.m c m=some f)(hl:fs.lookup m=none)(e:cf f [.obj c fs,.p q]= .err x p):ev cf mt (.Au m (.var 0) [.cst q]) (some (.obj c fs)::r)= .err x p (none::r):=by
 rw[BM,SA];dsimp only;rw[hl,hm];show Aq cf f [.slot 0,.AD (.p q)] (some (.obj c fs)::r)=_;unfold Aq;rw[show A9 (some (.obj c fs)::r) [.slot 0,.AD (.p q)]=some [.obj c fs,.p q]from rfl];dsimp only;rw[iP ⟨by show([0]:List Nat).Nodup;decide,rfl⟩,e];rfl
theorem iK{l c f y:Nat}{CU cv:Option Nat}{fs:List (Str×B)}{r:Env}(hcap:Ie (some (.obj c fs)::r) CU=some cv)(hl:fs.lookup m=none)(hm:mt.m c m=some f)(hp:Bs fs=true)(e:cf f [.obj (tag c) fs,.p (.fn (Ey l cv))]= .err y p):
 ev cf mt (.C4 m 0 l CU) (some (.obj c fs)::r)= .err y p (none::r):=by
 rw[GR];unfold Fp;rw[SA,hcap];dsimp only;rw[hl,hm];dsimp only;rw[iP hp,e];rfl
end Iv
namespace Lk50
open Iv PySem
variable{k c:Nat}{a r:List Nat}
theorem Bg{k f np nl x:Nat}{body:List S}{args:List C}{ρ0:Iv.Env}(hf:fns[f]? =some ⟨np,nl,body⟩)(hl:args.length=np)(h0:args.map some++List.replicate (nl - np) none=ρ0)(e:execs (A0 fns mt A1 k) mt A1 body ρ0= .err x p ρ):A0 fns mt A1 (k + 1) f args= .err x p:=by
 subst h0;show(match fns[f]? with|some fi=>D4 (A0 fns mt A1 k) mt A1 fi args|none=>.stuck)=_;rw[hf];show D4 (A0 fns mt A1 k) mt A1 ⟨np,nl,body⟩ args=_;unfold D4;rw[iP hl,e];rfl
theorem Sx:mt.rs=true:=rfl
theorem Jp(pred:Nat->Bool):∀r:List Nat,(∀ch∈r.takeWhile pred,pred ch=true)/\ahead pred (r.dropWhile pred)=false/\r.takeWhile pred++r.dropWhile pred=r
 |[]=>⟨(λ_ h=>by cases h),rfl,rfl⟩
 | x::r=>by
   obtain⟨h1,h2,h3⟩:=Jp pred r;rw[List.takeWhile_cons,List.dropWhile_cons];cases hx:pred x with
   |true=>exact⟨λch hch=>(mK hch).elim (λz=>z▸hx) (h1 ch),h2,by simp only[if_true];exact congrArg (x::·) h3⟩
   |false=>exact⟨(λch hch=>by cases hch),hx,rfl⟩
noncomputable def JT(r:List Nat):Option (List Nat×List Nat):=if IU (r.takeWhile Hg)then some (r.takeWhile Hg,r.dropWhile Hg)else none
theorem Qz{ch:Nat}(h:Hg ch=true):ch < 128:=by
 unfold Hg low CU at h;simp only[Bool.or_eq_true,bA,decide_eq_true_eq]at h
 lia
theorem Qw(hc:c%1000=5):mt.m c ⟨#[110,97,109,101]⟩=some 30:=J0 hc (by kernel_rfl)
theorem K9(hc:c%1000=5):mt.m c ⟨#[110,117,109,98,101,114]⟩=some 32:=J0 hc (by kernel_rfl)
theorem Wa(hc:c%1000=5):mt.m c ⟨#[102,101,119]⟩=some 33:=J0 hc (by kernel_rfl)
theorem J1(hc:c%1000=5):mt.m c ⟨#[107,105,110,100]⟩=some 34:=J0 hc (by kernel_rfl)
theorem U4{w:List Nat}(hc:c % 1000=5)(hw:∀ch∈w,Hg ch=true)(hr:ahead Hg r=false)(hb:a.length + (w++r).length<=70000):
 A0 fns mt A1 (k+4) 30 [St c a (w++r)]=if IU w then .ok (.p (.str (tx w))) [some (St c (a++w) r)]else .err 4 .Ai:=by
 have h1:=K8 (cf:=A0 fns mt A1 (k+3)) (mt:=mt) (r:=[none]) (Wb hc) rfl (LA (k:=k) (a:=a) hc hr hw hb);have h2:=WD (cf:=A0 fns mt A1 (k+3)) (mt:=mt) (a:=some (St c (a++w) r)) (r:=[]) (GK (k:=k+2) (l:=w) (λch hch=>Qz (hw ch hch)) (by rw[lA]at hb;unfold big;lia));cases hn:IU w with
 |true=>
   rw[hn]at h2
   have e:execs (A0 fns mt A1 (k + 3)) mt A1 fe [some (St c a (w++r)),none]= .ok (.ret (.p (.str (tx w)))) [some (St c (a++w) r),sP (.str (tx w))]:=by
    unfold fe;simp! [↓h1,↓h2]
   exact Ad aH rfl rfl e (by kernel_rfl)
 |false=>
   rw[hn]at h2
   have e:execs (A0 fns mt A1 (k + 3)) mt A1 fe [some (St c a (w++r)),none]= .err 4 .Ai [some (St c (a++w) r),sP (.str (tx w))]:=by
    unfold fe;simp! [↓h1,↓h2,Sx]
   exact Bg aH rfl rfl e
noncomputable def okN(w:List Nat):Bool:=decide (1<=w.length) && decide (w.length<=60) && !(decide (w.head? =some 48) && decide (1 < w.length))
noncomputable def NK(r:List Nat):Option (Iv.P×List Nat×List Nat):=if okN (r.takeWhile D1)then some (.int (Bf (r.takeWhile D1):Nat),r.takeWhile D1,r.dropWhile D1)else none
theorem ei(a b:List Nat):GV (.str (tx a)) (.str (tx b))=some (decide (a=b)):=by
 rw[eq_str];exact congrArg some (decide_eq_decide.mpr ⟨λh=>WQ h,λh=>by rw[h]⟩)
theorem NZ{w:List Nat}(hc:c % 1000=5)(hw:∀ch∈w,D1 ch=true)(hr:ahead D1 r=false)(hb:a.length + (w++r).length<=70000):
 A0 fns mt A1 (k+4) 32 [St c a (w++r)]=if okN w then .ok (.p (.int (Bf w:Nat))) [some (St c (a++w) r)]else .err 4 .Ai:=by
 have h1:=K8 (cf:=A0 fns mt A1 (k+3)) (mt:=mt) (r:=[none]) (Wb hc) rfl (M0 (k:=k) (a:=a) hc hr hw hb);have hwb:w.length<=big:=by rw[lA]at hb;unfold big;lia
 have hlen:=Dv (l:=w) hwb
 by_cases hl:1<=w.length/\w.length<=60
 .obtain⟨d,s,e0⟩:∃d s,w=d::s:=by
   cases w with
   |nil=>exact absurd hl.1 (by decide)
   |cons d s=>exact⟨d,s,rfl⟩
  have hi:=Uv (l:=w) (k:=0) (c:=d) (by rw[e0];rfl) hwb;have hi:Dj (.b (.p (.str (tx w)))) (.b (.p (.int 0)))=some (.p (.str (tx [d]))):=hi
  have m1:GV (.str (tx [d])) (.str (tx [48]))=some (decide (d=48)):=by
   rw[ei];exact congrArg some (decide_eq_decide.mpr (by simp))
  have hint:QS (.b (.p (.str (tx w))))=some (.p (.int (Bf w:Nat))):=by
   show(if(w.toArray.toList.all (λc=>decide (48<=c/\c<=57)) && decide (0 < (tx w).length/\(tx w).length<=640))=true then some (C.p (.int (Bf w.toArray.toList:Nat)))else none)=_
   rw[AY,iP (by
     rw[bA]
     refine⟨all_eq_true.mpr λc hc=>decide_eq_true (by have:=hw c hc;unfold D1 at this;simpa using this),decide_eq_true ⟨by lia,by lia⟩⟩)]
  have g1:¬(w.length:Int) < 1:=by lia
  have g2:¬(60:Int) < (w.length:Nat):=by lia
  have Ak:okN w= !(decide (d=48) && decide (1 < w.length)):=by
   unfold okN;rw[decide_eq_true hl.1,decide_eq_true hl.2,e0];simp
  rw[Ak]
  by_cases hd:d=48
  .rw [decide_eq_true hd]at m1 ⊢
   by_cases h3:1 < w.length
   .have g3:(1:Int) < (w.length:Nat):=by lia
    rw[decide_eq_true h3]
    have e:execs (A0 fns mt A1 (k + 3)) mt A1 Va [some (St c a (w++r)),none]= .err 4 .Ai [some (St c (a++w) r),sP (.str (tx w))]:=by
     unfold Va;generalize w.length=m at hlen g1 g2 g3;generalize tx w=x at h1 hlen hi hint ⊢;simp! [↓h1,hlen,g1,g2,g3,hi,m1,hint,Sx]
    exact Bg Wv rfl rfl e
   .have g3:¬(1:Int) < (w.length:Nat):=by lia
    rw[dF h3]
    have e:execs (A0 fns mt A1 (k + 3)) mt A1 Va [some (St c a (w++r)),none]= .ok (.ret (.p (.int (Bf w:Nat)))) [some (St c (a++w) r),sP (.str (tx w))]:=by
     unfold Va;generalize w.length=m at hlen g1 g2 g3;generalize (Bf w:Nat)=v at hint ⊢;generalize tx w=x at h1 hlen hi hint ⊢;simp! [↓h1,hlen,g1,g2,g3,hi,m1,hint]
    exact Ad Wv rfl rfl e (by kernel_rfl)
  .rw[dF hd]at m1 ⊢
   have e:execs (A0 fns mt A1 (k + 3)) mt A1 Va [some (St c a (w++r)),none]= .ok (.ret (.p (.int (Bf w:Nat)))) [some (St c (a++w) r),sP (.str (tx w))]:=by
    unfold Va;generalize w.length=m at hlen g1 g2;generalize (Bf w:Nat)=v at hint ⊢;generalize tx w=x at h1 hlen hi hint ⊢;simp! [↓h1,hlen,g1,g2,hi,m1,hint]
   exact Ad Wv rfl rfl e (by kernel_rfl)
 .have Ak:okN w=false:=by
   unfold okN
   by_cases h1:1<=w.length
   .rw[dF (λz=>hl ⟨h1,z⟩)];simp
   .rw[dF h1];rfl
  rw[Ak]
  have e:execs (A0 fns mt A1 (k + 3)) mt A1 Va [some (St c a (w++r)),none]= .err 4 .Ai [some (St c (a++w) r),sP (.str (tx w))]:=by
   unfold Va
   by_cases h1':1<=w.length
   .have g1:¬(w.length:Int) < 1:=by lia
    have g2:(60:Int) < (w.length:Nat):=by lia
    generalize w.length=m at hlen g1 g2;generalize tx w=x at h1 hlen ⊢;simp! [↓h1,hlen,g1,g2,Sx]
   .have g1:(w.length:Int) < 1:=by lia
    generalize w.length=m at hlen g1;generalize tx w=x at h1 hlen ⊢;simp! [↓h1,hlen,g1,Sx]
  exact Bg Wv rfl rfl e
end Lk50
namespace Iv
open PySem
variable{cf:CF}{mt:MT}
def Hn(n:Nat):List C:=match n / 1048576 with
 |0=>[]
 |v+1=>[.p (.int v)]
def Rv(n:Nat):List (Option C):=(Hn n).map some
variable{n:Nat}
theorem Rw(h:n/1048576=0):Hn n=[]/\Js n=[]:=by unfold Hn Js;rw[h];exact⟨rfl,rfl⟩
theorem Ma{v:Nat}(h:n/1048576=v+1):Hn n=[.p (.int v)]/\Js n=[.AD (.p (.int v))]:=by unfold Hn Js;rw[h];exact⟨rfl,rfl⟩
theorem jB{c:Nat}{fs:List (Str×B)}{r:Env}(hn:Co<=n)(hc:1000<=c)(e:cf (Ez n) (.obj c fs::Hn n)= .ok z (some o::Rv n)):ev cf mt (.BH 1) (some (.obj c fs)::some (.p (.fn n))::r)= .ok z (some o::some (.p (.fn n))::r):=by
 rw[GU,Wt,SA];dsimp only;rw[iN (by lia)];unfold Aq;cases hm:n/1048576 with
 |zero=>
   obtain⟨h1,h2⟩:=Rw hm;unfold Rv at e;rw[h1]at e;rw[h2,show A9 (some (.obj c fs)::some (.p (.fn n))::r) [.slot 0]=some [.obj c fs]from rfl];dsimp only;rw[iP ⟨by show([0]:List Nat).Nodup;decide,rfl⟩,e];rfl
 |succ v=>
   obtain⟨h1,h2⟩:=Ma hm;unfold Rv at e;rw[h1]at e;rw[h2,show A9 (some (.obj c fs)::some (.p (.fn n))::r) [.slot 0,.AD (.p (.int v))]=some [.obj c fs,.p (.int v)]from rfl];dsimp only;rw[iP ⟨by show([0]:List Nat).Nodup;decide,rfl⟩,e];rfl
end Iv
namespace Iv
open PySem
variable{cf:CF}{mt:MT}
theorem dc{l c f:Nat}{CU cv:Option Nat}{fs fs':List (Str×B)}{r:Env}{rest:List (Option C)}(hcap:Ie (some (.obj c fs)::r) CU=some cv)(hl:fs.lookup m=none)(hm:mt.m c m=some f)(hp:Bs fs=true)(e:cf f [.obj (tag c) fs,.p (.fn (Ey l cv))]= .ok (.p x) (some (.obj (tag c) fs')::rest))(hx:noFn x=true)(hp':Bs fs'=true):
 ev cf mt (.C4 m 0 l CU) (some (.obj c fs)::r)= .ok (.p x) (some (.obj c fs')::r):=by
 rw[GR];unfold Fp;rw[SA,hcap];dsimp only;rw[hl,hm];dsimp only;rw[iP hp,e];dsimp only;rw[iP ⟨rfl,hx,hp'⟩];rfl
end Iv
namespace Lk50
open Iv PySem
variable{k c:Nat}{a r:List Nat}
theorem X4{c:Nat}(hc:c % 1000=5):tag c % 1000=5/\1000<=tag c:=by
 unfold tag;split
 .refine⟨?_,?_⟩<;>lia
 .exact⟨hc,by lia⟩
theorem K3:∀{ps:List Iv.P},(∀q∈ps,noFn q=true)->Dg ps=true
 |[],_=>rfl
 | p::ps,h=>by
   show(noFn p && Dg ps)=true;rw[h p mS,K3 λq hq=>h q (mC hq)];rfl
theorem Nb{l v:Nat}(h:l < 1000):Hn (Ey l (some v))=[.p (.int v)]:=(Ma (by rw[Jr];lia)).1
end Lk50
namespace Iv
open PySem
variable{cf:CF}{mt:MT}
theorem jz{n c x:Nat}{fs:List (Str×B)}{r:Env}(hn:Co<=n)(hc:1000<=c)(e:cf (Ez n) (.obj c fs::Hn n)= .err x p):ev cf mt (.BH 1) (some (.obj c fs)::some (.p (.fn n))::r)= .err x p (none::some (.p (.fn n))::r):=by
 rw[GU,Wt,SA];dsimp only;rw[iN (by lia)];unfold Aq;cases hm:n/1048576 with
 |zero=>
   obtain⟨h1,h2⟩:=Rw hm;rw[h1]at e;rw[h2,show A9 (some (.obj c fs)::some (.p (.fn n))::r) [.slot 0]=some [.obj c fs]from rfl];dsimp only;rw[iP ⟨by show([0]:List Nat).Nodup;decide,rfl⟩,e];rfl
 |succ v=>
   obtain⟨h1,h2⟩:=Ma hm;rw[h1]at e;rw[h2,show A9 (some (.obj c fs)::some (.p (.fn n))::r) [.slot 0,.AD (.p (.int v))]=some [.obj c fs,.p (.int v)]from rfl];dsimp only;rw[iP ⟨by show([0]:List Nat).Nodup;decide,rfl⟩,e];rfl
end Iv
namespace Lk50
open Iv PySem
variable{k c:Nat}{a r:List Nat}
abbrev Rr:=Option (Iv.P×List Nat×List Nat)
noncomputable def Le(j:Nat)(r:List Nat):Option (List Nat×List Nat):=if j=2 then some ([],r)else if r.take 2=[44,32]then some ([44,32],r.drop 2)else none
noncomputable def rF(g:List Nat->Rr):Nat->List Nat->Option (List Iv.P×List Nat×List Nat)
 |0,r=>if r.head? =some 41 then some ([],[41],r.tail)else none
 |j+1,r=>if r.head? =some 41 then some ([],[41],r.tail)else(Le j r).bind λq=>(g q.2).bind λs=>(rF g j s.2.2).map λu=>(s.1::u.1,q.1++s.2.1++u.2.1,u.2.2)
def FT(cf:CF)(c n:Nat)(g:List Nat->Rr):Prop:=∀a r,a.length + r.length<=70000->match g r with
 |some (p,w,r')=>r=w++r'/\noFn p=true/\cf (Ez n) (St c a r::Hn n)= .ok (.p p) (some (St c (a++w) r')::Rv n)
 |none=>cf (Ez n) (St c a r::Hn n)= .err 4 .Ai
noncomputable def OP:List S:=[.ifs (.prim .eq [.prim .len [.var 2],.cst (.int 3)]) [.raise 4] [],.ifs (.var 2) [.expr (.Au ⟨#[109,117,115,116,95,116,97,107,101]⟩ (.var 0) [.cst (.str ⟨#[44,32]⟩)])] [],.expr (.CY .append (.var 2) [.BH 1])]
def P1:T:=.not (.Au ⟨#[116,97,107,101,115]⟩ (.var 0) [.cst (.str ⟨#[41]⟩)])
theorem Zs:gw=[.asg (.nm 2) (.lst []),.Mj P1 OP,.ret (some (.prim (.tuple .op) [.var 2]))]:=rfl
variable{n:Nat}
theorem bC{y:Option C}(hc:c % 1000=5):tv (A0 fns mt A1 (k + 2)) mt P1 [some (St c a (41::r)),sP (.fn n),y]= .ok false [some (St c (a++[41]) r),sP (.fn n),y]:=by
 have h:=K8 (cf:=A0 fns mt A1 (k+2)) (mt:=mt) (r:=[sP (.fn n),y]) (DR hc) rfl (Iz (k:=k+1) (a:=a) (r:=r) (s:=[41]) hc (by decide));unfold P1;rw[Ff,Mh];show Yv (dA (ev _ _ _ [some (St c a ([41]++r)),sP (.fn n),y]))=_;rw[h];rfl
theorem Mq{y:Option C}(hc:c % 1000=5)(hr:r.head?≠some 41):tv (A0 fns mt A1 (k + 2)) mt P1 [some (St c a r),sP (.fn n),y]= .ok true [some (St c a r),sP (.fn n),y]:=by
 have h:=K8 (cf:=A0 fns mt A1 (k+2)) (mt:=mt) (r:=[sP (.fn n),y]) (DR hc) rfl (IA (k:=k+1) (a:=a) (r:=r) (s:=[41]) hc (by decide) (JK λd r' e z=>hr (by rw[e,z];rfl)));unfold P1;rw[Ff,Mh,h];rfl
theorem Yc(hc:c % 1000=5){s:List Nat}(hs:s.length<=1000)(hn:r.take s.length≠s):A0 fns mt A1 (k + 2) 27 [St c a r,.p (.str (tx s))]= .err 4 .Ai:=by
 have h1:=U9 (cf:=A0 fns mt A1 (k+1)) (mt:=mt) (r:=[]) (DR hc) rfl (IA (k:=k) (a:=a) (r:=r) hc hs hn)
 have e:execs (A0 fns mt A1 (k + 1)) mt A1 fh [some (St c a r),sP (.str (tx s))]= .err 4 .Ai [some (St c a r),sP (.str (tx s))]:=by
  unfold fh;simp! [↓h1,Sx]
 exact Bg aJ rfl rfl e
theorem Xd{ps:List Iv.P}{j:Nat}(hc:c % 1000=5)(hj:ps.length + j=2):(match Le j r with
 |some (s,r1)=>r=s++r1/\exec (A0 fns mt A1 (k+2)) mt A1 (.ifs (.var 2) [.expr (.Au ⟨#[109,117,115,116,95,116,97,107,101]⟩ (.var 0) [.cst (.str ⟨#[44,32]⟩)])] []) [some (St c a r),sP (.fn n),sL ps]= .ok .nx [some (St c (a++s) r1),sP (.fn n),sL ps]
 |none=>exec (A0 fns mt A1 (k+2)) mt A1 (.ifs (.var 2) [.expr (.Au ⟨#[109,117,115,116,95,116,97,107,101]⟩ (.var 0) [.cst (.str ⟨#[44,32]⟩)])] []) [some (St c a r),sP (.fn n),sL ps]= .err 4 .Ai [none,sP (.fn n),sL ps]):=by
 unfold Le
 by_cases h2:j=2
 .have hp:ps=[]:=by cases ps with|nil=>rfl|cons _ _=>rw[lC]at hj;lia
  subst hp;rw[iP h2];refine⟨rfl,?_⟩;rw[append_nil];rfl
 .rw[iN h2];obtain⟨p,ps',rfl⟩:∃p ps',ps=p::ps':=by cases ps with|nil=>rw[length_nil]at hj;lia|cons p ps'=>exact⟨p,ps',rfl⟩
  by_cases ht:r.take 2=[44,32]
  .rw[iP ht];have e:r=[44,32]++r.drop 2:=by rw[<-ht];exact(List.take_append_drop 2 r).symm
   refine⟨e,?_⟩;have h:=K8 (cf:=A0 fns mt A1 (k+2)) (mt:=mt) (r:=[sP (.fn n),sL (p::ps')]) (Qx hc) rfl (U6 (k:=k) (a:=a) (r:=r.drop 2) (s:=[44,32]) hc (by decide));rw[<-e]at h;rw[G9,KS,k9];show execs _ _ _ [.expr _] _=_;rw[Ar,Hb,h];rfl
  .rw[iN ht];have h:=iJ (cf:=A0 fns mt A1 (k+2)) (mt:=mt) (r:=[sP (.fn n),sL (p::ps')]) (Qx hc) rfl (Yc (k:=k) (a:=a) (r:=r) (s:=[44,32]) hc (by decide) ht);show execs _ _ _ [.expr _] _=_;rw[Ar,Hb,h];rfl
theorem N2{ps:List Iv.P}(hc:c % 1000=5):A1 (tv (A0 fns mt A1 (k + 2)) mt P1) (execs (A0 fns mt A1 (k + 2)) mt A1 OP) [some (St c a (41::r)),sP (.fn n),sL ps]= .ok .nx [some (St c (a++[41]) r),sP (.fn n),sL ps]:=by
 rw[Bo,bC hc];rfl
theorem QW{r:List Nat}(h:r.head? =some 41):r=41::r.tail:=by
 cases r with
 |nil=>cases h
 |cons x r=>cases h;rfl
theorem HF:∀{ps:List Iv.P},Dg ps=true->∀q∈ps,noFn q=true
 |[],_,q,hq=>by cases hq
 | p::ps,h,q,hq=>by
   unfold Dg at h;rw[bA]at h;rcases mK hq with z|z
   .rw[z];exact h.1
   .exact HF h.2 q z
theorem Rb{g:List Nat->Rr}(hc:c % 1000=5)(hc2:1000<=c)(hn:Co<=n)(hg:FT (A0 fns mt A1 (k + 2)) c n g):∀(j:Nat) (ps:List Iv.P) (a r:List Nat),ps.length + j=3->a.length + r.length<=70000->Dg ps=true->
 match rF g j r with
 |some (qs,w,r')=>r=w++r'/\Dg (ps++qs)=true/\A1 (tv (A0 fns mt A1 (k+2)) mt P1) (execs (A0 fns mt A1 (k+2)) mt A1 OP) [some (St c a r),sP (.fn n),sL ps]= .ok .nx [some (St c (a++w) r'),sP (.fn n),sL (ps++qs)]
 |none=>∃ρ,A1 (tv (A0 fns mt A1 (k+2)) mt P1) (execs (A0 fns mt A1 (k+2)) mt A1 OP) [some (St c a r),sP (.fn n),sL ps]= .err 4 .Ai ρ:=by
 intro j
 induction j with
 |zero=>
   intro ps a r hl hb hf;unfold rF
   by_cases h:r.head? =some 41
   .rw[iP h];have e:=QW h;refine⟨e,by rw[append_nil];exact hf,?_⟩;rw[append_nil]
    conv=>lhs;rw[e]
    exact N2 hc
   .rw[iN h];have h3:GV (.int (ps.length:Int)) (.int 3)=some true:=by rw[eq_int];exact congrArg some (decide_eq_true (by lia))
    refine⟨[some (St c a r),sP (.fn n),sL ps],?_⟩;rw[Bo,Mq hc h,Res.A2,iP rfl]
    have e:execs (A0 fns mt A1 (k + 2)) mt A1 OP [some (St c a r),sP (.fn n),sL ps]= .err 4 .Ai [some (St c a r),sP (.fn n),sL ps]:=by
     unfold OP;generalize St c a r=o;simp! [h3,Sx]
    rw[e];rfl
 |succ j ih=>
   intro ps a r hl hb hf;unfold rF
   by_cases h:r.head? =some 41
   .rw[iP h];have e:=QW h;refine⟨e,by rw[append_nil];exact hf,?_⟩;rw[append_nil]
    conv=>lhs;rw[e]
    exact N2 hc
   .rw [iN h];have h3:GV (.int (ps.length:Int)) (.int 3)=some false:=by rw[eq_int];exact congrArg some (dF (by lia))
    have hs:=Xd (k:=k) (a:=a) (r:=r) (n:=n) (ps:=ps) (j:=j) hc (by lia)
    have e0:∀ρ,exec (A0 fns mt A1 (k + 2)) mt A1 (.ifs (.prim .eq [.prim .len [.var 2],.cst (.int 3)]) [.raise 4] []) [some (St c a r),sP (.fn n),sL ps]=ρ->ρ= .ok .nx [some (St c a r),sP (.fn n),sL ps]:=λρ e=>by
     rw[<-e];generalize St c a r=o;simp! [h3]
    have e0:=e0 _ rfl
    have turn:execs (A0 fns mt A1 (k + 2)) mt A1 OP [some (St c a r),sP (.fn n),sL ps]=jS (A0 fns mt A1 (k + 2)) mt [.expr (.CY .append (.var 2) [.BH 1])] (exec (A0 fns mt A1 (k + 2)) mt A1 (.ifs (.var 2) [.expr (.Au ⟨#[109,117,115,116,95,116,97,107,101]⟩ (.var 0) [.cst (.str ⟨#[44,32]⟩)])] []) [some (St c a r),sP (.fn n),sL ps]):=by
     unfold OP;rw[Ar,e0,BD,Ar]
    cases es:Le j r with
    |none=>
      rw[es]at hs;refine⟨[none,sP (.fn n),sL ps],?_⟩;rw[Bo,Mq hc h,Res.A2,iP rfl,turn,hs];rfl
    |some q=>
      obtain⟨s,r1⟩:=q;rw[es]at hs;obtain⟨er,hs⟩:=hs;have hb1:(a++s).length+r1.length<=70000:=by rw[er]at hb;simp only[lA]at hb ⊢;lia
      have hl1:=hg (a++s) r1 hb1;rw[Option.bind_some];dsimp only;cases eg:g r1 with
      |none=>
        rw[eg]at hl1;have hx:ev (A0 fns mt A1 (k+2)) mt (.BH 1) [some (St c (a++s) r1),sP (.fn n),sL ps]= .err 4 .Ai [none,sP (.fn n),sL ps]:=jz (mt:=mt) (r:=[sL ps]) hn hc2 hl1;refine⟨[none,sP (.fn n),sL ps],?_⟩;rw[Bo,Mq hc h,Res.A2,iP rfl,turn,hs,BD]
        have e:execs (A0 fns mt A1 (k + 2)) mt A1 [.expr (.CY .append (.var 2) [.BH 1])] [some (St c (a++s) r1),sP (.fn n),sL ps]= .err 4 .Ai [none,sP (.fn n),sL ps]:=by
         generalize St c (a++s) r1=o at hx ⊢;simp! [↓hx]
        rw[e];rfl
      |some u=>
        obtain⟨p,w,r2⟩:=u;rw[eg]at hl1;obtain⟨er1,hp,hl1⟩:=hl1;have hx:ev (A0 fns mt A1 (k+2)) mt (.BH 1) [some (St c (a++s) r1),sP (.fn n),sL ps]= .ok (.p p) [some (St c (a++s++w) r2),sP (.fn n),sL ps]:=jB (mt:=mt) (r:=[sL ps]) hn hc2 hl1;have h0:ps.length < big:=by unfold big;lia
        have e:execs (A0 fns mt A1 (k + 2)) mt A1 [.expr (.CY .append (.var 2) [.BH 1])] [some (St c (a++s) r1),sP (.fn n),sL ps]= .ok .nx [some (St c (a++s++w) r2),sP (.fn n),sL (ps++[p])]:=by
         generalize St c (a++s) r1=o at hx ⊢;generalize St c (a++s++w) r2=o2 at hx ⊢;simp! [↓hx,DS,h0]
        have hb2:(a++s++w).length+r2.length<=70000:=by rw[er1]at hb1;simp only[lA]at hb1 ⊢;lia
        have hf2:Dg (ps++[p])=true:=K3 λq hq=>by
         rcases mem_append.mp hq with z|z
         .exact HF hf q z
         .rw[mE z];exact hp
        have ih:=ih (ps++[p]) (a++s++w) r2 (by rw[lA,lS];lia) hb2 hf2
        have st:A1 (tv (A0 fns mt A1 (k + 2)) mt P1) (execs (A0 fns mt A1 (k + 2)) mt A1 OP) [some (St c a r),sP (.fn n),sL ps]=A1 (tv (A0 fns mt A1 (k + 2)) mt P1) (execs (A0 fns mt A1 (k + 2)) mt A1 OP) [some (St c (a++s++w) r2),sP (.fn n),sL (ps++[p])]:=by
         conv=>lhs;rw[Bo,Mq hc h,Res.A2,iP rfl,turn,hs,BD,e,Res.A2]
        rw[Option.bind_some];dsimp only;cases ef:rF g j r2 with
        |none=>
          rw[ef]at ih;obtain⟨ρ,ih⟩:=ih;exact⟨ρ,st.trans ih⟩
        |some v=>
          obtain⟨qs,w2,r3⟩:=v;rw[ef]at ih;obtain⟨er2,i1,i2⟩:=ih;refine⟨by rw[er,er1,er2];simp,by rw[append_assoc]at i1;exact i1,?_⟩;rw[st,i2];simp
theorem YL{g:List Nat->Rr}(hc:c % 1000=5)(hc2:1000<=c)(hn:Co<=n)(hg:FT (A0 fns mt A1 (k + 2)) c n g)(hb:a.length + r.length<=70000):match rF g 3 r with
 |some (qs,w,r')=>r=w++r'/\Dg qs=true/\A0 fns mt A1 (k+3) 33 [St c a r,.p (.fn n)]= .ok (.p (.tup qs)) [some (St c (a++w) r'),sP (.fn n)]
 |none=>A0 fns mt A1 (k+3) 33 [St c a r,.p (.fn n)]= .err 4 .Ai:=by
 have h:=Rb (k:=k) hc hc2 hn hg 3 [] a r rfl hb rfl
 have e0:∀R,A1 (tv (A0 fns mt A1 (k + 2)) mt P1) (execs (A0 fns mt A1 (k + 2)) mt A1 OP) [some (St c a r),sP (.fn n),sL []]=R->execs (A0 fns mt A1 (k + 2)) mt A1 gw [some (St c a r),sP (.fn n),none]=jS (A0 fns mt A1 (k + 2)) mt [.ret (some (.prim (.tuple .op) [.var 2]))] R:=λR e=>by
  rw[Zs,Ar];show jS _ _ _ (.ok .nx [some (St c a r),sP (.fn n),sL []])=_;rw[BD,Ar,JA,e]
 cases ef:rF g 3 r with
 |none=>
   rw[ef]at h;obtain⟨ρ,h⟩:=h;exact Bg aG rfl rfl (e0 _ h)
 |some v=>
   obtain⟨qs,w,r'⟩:=v;rw[ef]at h;obtain⟨h1,h2,h3⟩:=h;refine⟨h1,h2,?_⟩
   have e:execs (A0 fns mt A1 (k + 2)) mt A1 gw [some (St c a r),sP (.fn n),none]= .ok (.ret (.p (.tup qs))) [some (St c (a++w) r'),sP (.fn n),sL qs]:=by
    rw[e0 _ h3,BD,nil_append];generalize St c (a++w) r'=o;simp! []
   exact Ad aG rfl rfl e (by kernel_rfl)
noncomputable def rK:Nat->List Nat->Rr
 |0,_=>none
 |n+1,r=>if ahead D1 r then NK r else(JT r).bind λq=>if q.2.head? =some 40 then(rF (rK n) 3 q.2.tail).bind λu=>if u.1.isEmpty then none else some (.tup (.str (tx q.1)::u.1),q.1++40::u.2.1,u.2.2)else some (.tup [.str (tx q.1)],q.1,q.2)
def fJ(k n:Nat):Prop:=∀(c above:Nat) (a r:List Nat),c % 1000=5->above + n=24->a.length + r.length<=70000->match rK n r with
 |some (p,w,r')=>r=w++r'/\noFn p=true/\A0 fns mt A1 k 34 [St c a r,.p (.int above)]= .ok (.p p) [some (St c (a++w) r'),sP (.int above)]
 |none=>A0 fns mt A1 k 34 [St c a r,.p (.int above)]= .err 4 .Ai
theorem YF{r:List Nat}(h:r.head? =some 40):r=40::r.tail:=by
 cases r with
 |nil=>cases h
 |cons x r=>cases h;rfl
theorem Yl{above:Nat}(ih:fJ (k + 1) n)(hc:c % 1000=5)(ha:above + 1 + n=24):FT (A0 fns mt A1 (k + 2)) c (Ey 41 (some above)) (rK n):=by
 intro a r hb;rw[Wz (by decide),Nb (by decide)];unfold Rv;rw[Nb (by decide)];have h:=ih c (above+1) a r hc ha hb;have ea:((above:Int)+1)=((above+1:Nat):Int):=by lia
 have hd:A8 (A0 fns mt A1 (k + 1)) mt [.prim .add [.var 1,.cst (.int 1)]] [some (St c a r),sP (.int above)]= .ok [.AD (.p (.int ((above:Int) + 1)))] [some (St c a r),sP (.int above)]:=by
  generalize St c a r=o;simp! []
 cases e:rK n r with
 |none=>
   rw[e]at h;have h:A0 fns mt A1 (k+1) 34 [St c a r,.p (.int ((above:Int)+1))]= .err 4 .Ai:=by rw[ea];exact h
   have hx:ev (A0 fns mt A1 (k + 1)) mt (.Au ⟨#[107,105,110,100]⟩ (.var 0) [.prim .add [.var 1,.cst (.int 1)]]) [some (St c a r),sP (.int above)]= .err 4 .Ai [none,sP (.int above)]:=by
    rw[BM,SA];dsimp only;rw[show(rd (tx (a++r)) (a.length:Int)).lookup ⟨#[107,105,110,100]⟩=none from rfl,J1 hc];dsimp only;rw[hd];show Aq _ 34 [.slot 0,.AD (.p (.int ((above:Int)+1)))] [some (St c a r),sP (.int above)]=_;unfold Aq;rw[show A9 [some (St c a r),sP (.int above)] [.slot 0,.AD (.p (.int ((above:Int)+1)))]=some [St c a r,.p (.int ((above:Int)+1))]from rfl];dsimp only;rw[iP ⟨by show([0]:List Nat).Nodup;decide,rfl⟩,h];rfl
   have e2:execs (A0 fns mt A1 (k + 1)) mt A1 fc [some (St c a r),sP (.int above)]= .err 4 .Ai [none,sP (.int above)]:=by
    unfold fc;rw[Ar,JB,hx];rfl
   exact Bg ka rfl rfl e2
 |some v=>
   obtain⟨p,w,r'⟩:=v;rw[e]at h;obtain⟨h1,h2,h3⟩:=h;refine⟨h1,h2,?_⟩;have h3:A0 fns mt A1 (k+1) 34 [St c a r,.p (.int ((above:Int)+1))]= .ok (.p p) [some (St c (a++w) r'),sP (.int ((above:Int)+1))]:=by rw[ea];exact h3
   have hx:=Yh (cf:=A0 fns mt A1 (k+1)) (mt:=mt) (r:=[sP (.int above)]) (h:=.AD (.p (.int ((above:Int)+1)))) (J1 hc) rfl hd rfl h3
   have e2:execs (A0 fns mt A1 (k + 1)) mt A1 fc [some (St c a r),sP (.int above)]= .ok (.ret (.p p)) [some (St c (a++w) r'),sP (.int above)]:=by
    unfold fc;rw[Ar,JB,hx];rfl
   exact Ad ka rfl rfl e2 (by kernel_rfl)
abbrev CP:List S:=[.asg (.nm 2) (.Au ⟨#[110,97,109,101]⟩ (.var 0) []),.ifs (.not (.Au ⟨#[116,97,107,101,115]⟩ (.var 0) [.cst (.str ⟨#[40]⟩)])) [.ret (some (.tup [.var 2]))] [],.asg (.nm 3) (.C4 ⟨#[102,101,119]⟩ 0 41 (some 1)),.ifs (.not (.var 3)) [.raise 4] [],.ret (some (.prim .add [.tup [.var 2],.var 3]))]
theorem MA{g:List Nat->Rr}:∀{j:Nat} {r:List Nat} {qs:List Iv.P} {w r':List Nat},rF g j r=some (qs,w,r')->qs.length<=j
 | 0,r,qs,w,r',h=>by
   unfold rF at h;split at h
   .cases h;exact lR
   .cases h
 | j + 1,r,qs,w,r',h=>by
   unfold rF at h;split at h
   .cases h;exact Nat.zero_le _
   .obtain⟨q,_,h⟩:=oB h;obtain⟨s,_,h⟩:=oB h;obtain⟨u,h1,h⟩:=oM h;cases h;exact Nat.succ_le_succ (MA h1)
variable{qs:List Iv.P}{r':List Nat}
theorem PJ{g:List Nat->Rr}{r:List Nat}{w:List Nat}(h:rF g 3 r=some (qs,w,r')):qs.length<=3:=MA h
theorem Yn:fJ (k + 1) 0:=by
 intro c above a r hc ha hb;have h3:GV (.int (above:Int)) (.int 24)=some true:=by rw[eq_int];exact congrArg some (decide_eq_true (by lia))
 have e:execs (A0 fns mt A1 k) mt A1 V9 [some (St c a r),sP (.int above),none,none]= .err 4 .Ai [some (St c a r),sP (.int above),none,none]:=by
  unfold V9;generalize St c a r=o;simp! [h3,Sx]
 exact Bg OI rfl rfl e
theorem Od(ih:fJ (k + 2) n):fJ (k + 5) (n + 1):=by
 intro c above a r hc ha hb;have h3:GV (.int (above:Int)) (.int 24)=some false:=by rw[eq_int];exact congrArg some (dF (by lia))
 have hB:=K8 (cf:=A0 fns mt A1 (k+4)) (mt:=mt) (r:=[sP (.int above),none,none]) (GD hc) rfl (FC (k:=k+2) (f:=7) (pred:=D1) (a:=a) (r:=r) (c:=c) (by decide) (λch=>EZ) hb);obtain⟨w1,w2,w3⟩:=Jp D1 r;obtain⟨l1,l2,l3⟩:=Jp Hg r;unfold rK;cases hf:ahead D1 r with
 |true=>
   rw[hf]at hB;rw[iP rfl];have hN:=NZ (k:=k) (a:=a) (w:=r.takeWhile D1) (r:=r.dropWhile D1) hc w1 w2 (by rw[w3];exact hb);rw[w3]at hN;unfold NK;cases ho:okN (r.takeWhile D1)with
   |true=>
     rw[ho,iP rfl]at hN;rw[iP rfl];refine⟨w3.symm,rfl,?_⟩;have h1:=di (cf:=A0 fns mt A1 (k+4)) (mt:=mt) (r:=[sP (.int above),none,none]) (K9 hc) rfl hN
     have e:execs (A0 fns mt A1 (k + 4)) mt A1 V9 [some (St c a r),sP (.int above),none,none]= .ok (.ret (.p (.int (Bf (r.takeWhile D1):Nat)))) [some (St c (a++r.takeWhile D1) (r.dropWhile D1)),sP (.int above),none,none]:=by
      unfold V9;simp! [h3,↓hB,↓h1]
     exact Ad OI rfl rfl e (by kernel_rfl)
   |false=>
     rw[ho,iN Bool.false_ne_true]at hN;rw[iN Bool.false_ne_true];have h1:=cX (cf:=A0 fns mt A1 (k+4)) (mt:=mt) (r:=[sP (.int above),none,none]) (K9 hc) rfl hN
     have e:execs (A0 fns mt A1 (k + 4)) mt A1 V9 [some (St c a r),sP (.int above),none,none]= .err 4 .Ai [none,sP (.int above),none,none]:=by
      unfold V9;simp! [h3,↓hB,↓h1]
     exact Bg OI rfl rfl e
 |false =>
   rw[hf]at hB;rw[iN Bool.false_ne_true];have hN:=U4 (k:=k) (a:=a) (w:=r.takeWhile Hg) (r:=r.dropWhile Hg) hc l1 l2 (by rw[l3];exact hb);rw[l3]at hN
   have hd:execs (A0 fns mt A1 (k + 4)) mt A1 V9 [some (St c a r),sP (.int above),none,none]=execs (A0 fns mt A1 (k + 4)) mt A1 CP [some (St c a r),sP (.int above),none,none]:=by
    unfold V9;rw[Ar]
    have e1:exec (A0 fns mt A1 (k + 4)) mt A1 (.ifs (.prim .eq [.var 1,.cst (.int 24)]) [.raise 4] []) [some (St c a r),sP (.int above),none,none]= .ok .nx [some (St c a r),sP (.int above),none,none]:=by
     generalize St c a r=o;simp! [h3]
    rw[e1,BD,Ar]
    have e2:exec (A0 fns mt A1 (k + 4)) mt A1 (.ifs (.Au ⟨#[105,115,95,98,101,102,111,114,101]⟩ (.var 0) [.cst (.fn 7)]) [.ret (some (.Au ⟨#[110,117,109,98,101,114]⟩ (.var 0) []))] []) [some (St c a r),sP (.int above),none,none]= .ok .nx [some (St c a r),sP (.int above),none,none]:=by
     simp! [↓hB]
    rw[e2,BD]
   unfold JT;cases hn:IU (r.takeWhile Hg)with
   |false=>
     rw[hn,iN Bool.false_ne_true]at hN;rw[iN Bool.false_ne_true];have h1:=cX (cf:=A0 fns mt A1 (k+4)) (mt:=mt) (r:=[sP (.int above),none,none]) (Qw hc) rfl hN
     have e:execs (A0 fns mt A1 (k + 4)) mt A1 CP [some (St c a r),sP (.int above),none,none]= .err 4 .Ai [none,sP (.int above),none,none]:=by
      unfold CP;rw[Ar,Fg,h1];rfl
     exact Bg OI rfl rfl (hd.trans e)
   |true=>
     rw[hn,iP rfl]at hN;rw[iP rfl,Option.bind_some];dsimp only;have h1:=di (cf:=A0 fns mt A1 (k+4)) (mt:=mt) (r:=[sP (.int above),none,none]) (Qw hc) rfl hN;generalize hw:r.takeWhile Hg=w at *;generalize hr1:r.dropWhile Hg=r1 at *
     have hd1:execs (A0 fns mt A1 (k + 4)) mt A1 CP [some (St c a r),sP (.int above),none,none]=execs (A0 fns mt A1 (k + 4)) mt A1 CP.tail [some (St c (a++w) r1),sP (.int above),sP (.str (tx w)),none]:=by
      unfold CP;rw[Ar,Fg,h1];rfl
     by_cases hp:r1.head? =some 40
     .rw [iP hp];have e40:=YF hp;generalize hr2:r1.tail=r2 at *;have hT:=K8 (cf:=A0 fns mt A1 (k+4)) (mt:=mt) (r:=[sP (.int above),sP (.str (tx w)),none]) (DR hc) rfl (Iz (k:=k+3) (a:=a++w) (r:=r2) (s:=[40]) hc (by decide));rw[show[40]++r2=r1 from e40.symm]at hT
      have hd2:execs (A0 fns mt A1 (k + 4)) mt A1 CP.tail [some (St c (a++w) r1),sP (.int above),sP (.str (tx w)),none]=execs (A0 fns mt A1 (k + 4)) mt A1 CP.tail.tail [some (St c (a++w++[40]) r2),sP (.int above),sP (.str (tx w)),none]:=by
       show execs _ _ _ (.ifs (.not (.Au ⟨#[116,97,107,101,115]⟩ (.var 0) [.cst (.str ⟨#[40]⟩)])) [.ret (some (.tup [.var 2]))] []::CP.tail.tail) _=_;rw[Ar,G9,Ff,Mh,hT];rfl
      obtain⟨t1,t2⟩:=X4 hc
      have hb2:(a++w++[40]).length + r2.length<=70000:=by
       rw[<-l3,e40]at hb;simp only[lA,lC,length_nil]at hb ⊢
       lia
      have hF:=YL (k:=k+1) (a:=a++w++[40]) (r:=r2) (n:=Ey 41 (some above)) t1 t2 (WA _) (Yl (k:=k+1) (above:=above) ih t1 (by lia)) hb2
      have hcap:Ie [some (St c (a++w++[40]) r2),sP (.int above),sP (.str (tx w)),none] (some 1)=some (some above):=by
       show(if 0<=(above:Int)/\(above:Int) < 1000 then some (some (above:Int).toNat)else none)=_;rw[iP (by lia)];rfl
      cases ef:rF (rK n) 3 r2 with
      |none=>
        rw[ef]at hF;have hM:=iK (cf:=A0 fns mt A1 (k+4)) (mt:=mt) hcap rfl (Wa hc) rfl hF
        have e:execs (A0 fns mt A1 (k + 4)) mt A1 CP.tail.tail [some (St c (a++w++[40]) r2),sP (.int above),sP (.str (tx w)),none]= .err 4 .Ai [none,sP (.int above),sP (.str (tx w)),none]:=by
         show execs _ _ _ (.asg (.nm 3) (.C4 ⟨#[102,101,119]⟩ 0 41 (some 1))::_) _=_;rw[Ar,Fg,hM];rfl
        exact Bg OI rfl rfl (((hd.trans hd1).trans hd2).trans e)
      |some u=>
        obtain⟨qs,w',r3⟩:=u;rw[ef]at hF;obtain⟨er,hq,hF⟩:=hF;have hM:ev (A0 fns mt A1 (k+4)) mt (.C4 ⟨#[102,101,119]⟩ 0 41 (some 1)) [some (St c (a++w++[40]) r2),sP (.int above),sP (.str (tx w)),none]= .ok (.p (.tup qs)) [some (St c (a++w++[40]++w') r3),sP (.int above),sP (.str (tx w)),none]:=dc (cf:=A0 fns mt A1 (k+4)) (mt:=mt) hcap rfl (Wa hc) rfl hF hq rfl;rw[Option.bind_some];dsimp only
        have hd3:execs (A0 fns mt A1 (k + 4)) mt A1 CP.tail.tail [some (St c (a++w++[40]) r2),sP (.int above),sP (.str (tx w)),none]=execs (A0 fns mt A1 (k + 4)) mt A1 [.ifs (.not (.var 3)) [.raise 4] [],.ret (some (.prim .add [.tup [.var 2],.var 3]))] [some (St c (a++w++[40]++w') r3),sP (.int above),sP (.str (tx w)),sP (.tup qs)]:=by
         show execs _ _ _ (.asg (.nm 3) (.C4 ⟨#[102,101,119]⟩ 0 41 (some 1))::_) _=_;rw[Ar,Fg,hM];rfl
        cases qs with
        |nil=>
          rw[show([]:List Iv.P).isEmpty=true from rfl,iP rfl];have e:execs (A0 fns mt A1 (k+4)) mt A1 [.ifs (.not (.var 3)) [.raise 4] [],.ret (some (.prim .add [.tup [.var 2],.var 3]))] [some (St c (a++w++[40]++w') r3),sP (.int above),sP (.str (tx w)),sP (.tup [])]= .err 4 .Ai [some (St c (a++w++[40]++w') r3),sP (.int above),sP (.str (tx w)),sP (.tup [])]:=rfl;exact Bg OI rfl rfl ((((hd.trans hd1).trans hd2).trans hd3).trans e)
        |cons q qs=>
          rw[show(q::qs).isEmpty=false from rfl,iN Bool.false_ne_true];refine⟨by rw[<-l3,e40,er];simp,hq,?_⟩;have hl3:(q::qs).length<=3:=PJ ef
          have hu:Ei ([Iv.P.str (tx w)]++q::qs)=some ([Iv.P.str (tx w)]++q::qs):=by
           unfold Ei;rw[iP (by rw[lA];simp only[lC,length_nil]at hl3 ⊢;unfold big;lia)]
          have hadd:Ha (.b (.p (.tup [.str (tx w)]))) (.b (.p (.tup (q::qs))))=some (.p (.tup (.str (tx w)::q::qs))):=by
           show(if([Iv.P.str (tx w)]:List Iv.P).isEmpty then none else(Ei ([Iv.P.str (tx w)]++q::qs)).map λz=>C.p (.tup z))=_;rw[hu];rfl
          have e:execs (A0 fns mt A1 (k + 4)) mt A1 [.ifs (.not (.var 3)) [.raise 4] [],.ret (some (.prim .add [.tup [.var 2],.var 3]))] [some (St c (a++w++[40]++w') r3),sP (.int above),sP (.str (tx w)),sP (.tup (q::qs))]= .ok (.ret (.p (.tup (.str (tx w)::q::qs)))) [some (St c (a++w++[40]++w') r3),sP (.int above),sP (.str (tx w)),sP (.tup (q::qs))]:=by
           rw[Ar];show jS _ _ _ (.ok .nx _)=_;rw[BD];generalize St c (a++w++[40]++w') r3=o;simp! [hadd]
          rw[show a++(w++40::w')=a++w++[40]++w' by simp];exact Ad OI rfl rfl ((((hd.trans hd1).trans hd2).trans hd3).trans e) (by kernel_rfl)
     .rw[iN hp];refine⟨l3.symm,rfl,?_⟩;have hT:=K8 (cf:=A0 fns mt A1 (k+4)) (mt:=mt) (r:=[sP (.int above),sP (.str (tx w)),none]) (DR hc) rfl (IA (k:=k+3) (a:=a++w) (r:=r1) (s:=[40]) hc (by decide) (JK λd r' e z=>hp (by rw[e,z];rfl)))
      have e:execs (A0 fns mt A1 (k + 4)) mt A1 CP.tail [some (St c (a++w) r1),sP (.int above),sP (.str (tx w)),none]= .ok (.ret (.p (.tup [.str (tx w)]))) [some (St c (a++w) r1),sP (.int above),sP (.str (tx w)),none]:=by
       show execs _ _ _ (.ifs (.not (.Au ⟨#[116,97,107,101,115]⟩ (.var 0) [.cst (.str ⟨#[40]⟩)])) [.ret (some (.tup [.var 2]))] []::CP.tail.tail) _=_;rw[Ar,G9,Ff,Mh,hT];rfl
      exact Ad OI rfl rfl ((hd.trans hd1).trans e) (by kernel_rfl)
theorem Jd:∀(n k:Nat),fJ (k + 2 + 3 * n) n
 |0,k=>Yn
 | n + 1,k=>by
   have:=Od (k:=k+3*n) (n:=n) (by have:=Jd n k;rw[show k+3*n+2=k+2+3*n by lia];exact this);rw[show k+2+3*(n+1)=k+3*n+5 by lia];exact this
inductive Kd:Iv.P->Prop where
 |int (n:Nat) (h:n < 10 ^ 60):Kd (.int n)
 |tup (w:List Nat) (ps:List Iv.P) (hw:IU w=true) (hl:ps.length<=3) (h:∀q∈ps,Kd q):Kd (.tup (.str (tx w)::ps))
mutual
def kt:Iv.P->List Nat
 |.int i=>Sy i
 |.tup ps=>iS ps
 |_=>[]
def iS:List Iv.P->List Nat
 |.str x::ps=>iT x.cps.toList ps
 |_=>[]
def iT (w:List Nat):List Iv.P->List Nat
 |[]=>w
 |q::ps=>w++[40]++kt q++CZ ps++[41]
def CZ:List Iv.P->List Nat
 |[]=>[]
 |q::ps=>[44,32]++kt q++CZ ps
end
mutual
def Dc:Iv.P->Nat
 |.tup ps=>Kt ps+1
 |_=>1
def Kt:List Iv.P->Nat
 |_::ps=>Fx ps
 |[]=>0
def Fx:List Iv.P->Nat
 |[]=>0
 |p::ps=>max (Dc p) (Fx ps)
end
mutual
def Dh:Iv.P->Nat
 |.tup ps=>bF ps+1
 |_=>1
def bF:List Iv.P->Nat
 |_::ps=>BE ps
 |[]=>0
def BE:List Iv.P->Nat
 |[]=>0
 |p::ps=>Dh p+BE ps
end
theorem GI(n:Nat):kt (.int n)=dg n:=by
 unfold kt Sy;rw[iN (by lia)];rfl
theorem Oc(w:List Nat):kt (.tup [.str (tx w)])=w:=by unfold kt iS iT;rfl
theorem LK(w:List Nat)(q:Iv.P)(ps:List Iv.P):kt (.tup (.str (tx w)::q::ps))=w++[40]++kt q++CZ ps++[41]:=by conv=>lhs;unfold kt iS iT
theorem DW:CZ []=[]:=by unfold CZ;rfl
theorem CO(q:Iv.P)(ps:List Iv.P):CZ (q::ps)=[44,32]++kt q++CZ ps:=by conv=>lhs;unfold CZ
theorem HS:∀(s:List Nat) (n:Nat),0 < n->0 < s.foldl (λn c=>n * 10 + (c - 48)) n
 |[],n,h=>h
 |c::s,n,h=>HS s (n*10+(c-48)) (by lia)
theorem snoc_ind{P:List Nat->Prop}(h0:P [])(h1:∀s c,P s->P (s++[c]))(s:List Nat):P s:=by
 have:∀t:List Nat,P t.reverse:=λt=>by
  induction t with
  |nil=>exact h0
  |cons c t ih=>rw[reverse_cons];exact h1 _ _ ih
 have:=this s.reverse;rwa[reverse_reverse]at this
theorem Ks(s:List Nat):(∀c∈s,D1 c=true)->Bf s < 10 ^ s.length:=by
 refine snoc_ind (P:=λs=>(∀c∈s,D1 c=true)->Bf s < 10 ^ s.length) (λ_=>by decide) (λs c ih h=>?_) s;have h1:=ih λd hd=>h d (mL hd)
 have h2:=h c (by simp);unfold D1 at h2;simp only[bA,decide_eq_true_eq]at h2;rw[Fv,lA,lS,Nat.pow_succ]
 lia
theorem UM(s:List Nat):(∀c∈s,D1 c=true)->1<=s.length->(s.head? =some 48->s.length<=1)->dg (Bf s)=s:=by
 refine snoc_ind (P:=λs=>(∀c∈s,D1 c=true)->1<=s.length->(s.head? =some 48->s.length<=1)->dg (Bf s)=s) (λ_ h1 _=>absurd h1 (by decide)) (λs c ih h h1 h0=>?_) s;have h2:=h c (by simp);unfold D1 at h2;simp only[bA,decide_eq_true_eq]at h2;rw[Fv];cases s with
 |nil=>
   show dg (0*10+(c-48))=[c];rw[N4 (by lia)]
   congr 1
   lia
 |cons d s=>
   have hd:d≠48:=λz=>by
    have:=h0 (by rw[z];rfl);simp only[lA,lC,length_nil]at this
    lia
   have hd2:=h d (by simp);unfold D1 at hd2;simp only[bA,decide_eq_true_eq]at hd2;have hp:0 < Bf (d::s):=HS s (0*10+(d-48)) (by lia);have hi:=ih (λe he=>h e (mL he)) (by simp) (λz=>absurd (by simpa using z) hd);rw[N5 (by lia),show(Bf (d::s)*10+(c-48))/10=Bf (d::s)by lia,hi,show 48+(Bf (d::s)*10+(c-48))%10=c by lia]
theorem Lf{r w:List Nat}{p:Iv.P}(h:NK r=some (p,w,r')):Kd p/\w=kt p:=by
 unfold NK at h;split at h
 .rename_i ho;cases h;unfold okN at ho;simp only[bA,decide_eq_true_eq,Bool.not_eq_true',Bool.and_eq_false_iff,decide_eq_false_iff_not]at ho;have hw:=(Jp D1 r).1;refine⟨.int _ (Nat.lt_of_lt_of_le (Ks _ hw) (Nat.pow_le_pow_right (by decide) ho.1.2)),?_⟩;rw[GI,UM _ hw ho.1.1 λz=>by rcases ho.2 with y|y<;>first|exact absurd z y|lia]
 .cases h
theorem JU{g:List Nat->Rr}(hg:∀r p w r',g r=some (p,w,r')->Kd p/\w=kt p):∀{j:Nat} {r:List Nat} {qs:List Iv.P} {w r':List Nat},j<=2->rF g j r=some (qs,w,r')->(∀q∈qs,Kd q)/\w=CZ qs++[41]
 | 0,r,qs,w,r',_,h=>by
   unfold rF at h;split at h
   .cases h;exact⟨(λq hq=>by cases hq),by rw[DW];rfl⟩
   .cases h
 | j + 1,r,qs,w,r',hj,h=>by
   unfold rF at h;split at h
   .cases h;exact⟨(λq hq=>by cases hq),by rw[DW];rfl⟩
   .obtain⟨q,h1,h⟩:=oB h;obtain⟨s,h2,h⟩:=oB h;obtain⟨u,h3,h⟩:=oM h;cases h;obtain⟨k1,k2⟩:=hg _ _ _ _ h2;obtain⟨i1,i2⟩:=JU hg (by lia) h3;unfold Le at h1;rw[iN (by lia)]at h1;split at h1
    .cases h1;refine⟨λx hx=>?_,by rw[CO,k2,i2];simp⟩;rcases mK hx with z|z
     .rw[z];exact k1
     .exact i1 x z
    .cases h1
theorem NL{g:List Nat->Rr}(hg:∀r p w r',g r=some (p,w,r')->Kd p/\w=kt p){r:List Nat}{q:Iv.P}{w:List Nat}(h:rF g 3 r=some (q::qs,w,r')):(∀x∈q::qs,Kd x)/\w=kt q++CZ qs++[41]:=by
 unfold rF at h;split at h
 .cases h
 .obtain⟨y,h1,h⟩:=oB h;obtain⟨s,h2,h⟩:=oB h;obtain⟨u,h3,h⟩:=oM h;cases h;obtain⟨k1,k2⟩:=hg _ _ _ _ h2;obtain⟨i1,i2⟩:=JU hg (by lia) h3;cases h1;refine⟨λx hx=>?_,by rw[k2,i2];simp⟩;rcases mK hx with z|z
  .rw[z];exact k1
  .exact i1 x z
theorem Gr:∀{n:Nat} {r w r':List Nat} {p:Iv.P},rK n r=some (p,w,r')->Kd p/\w=kt p
 |0,r,w,r',p,h=>by cases h
 | n + 1, r,w,r',p,h=>by
   unfold rK at h;split at h
   .exact Lf h
   .obtain⟨q,h1,h⟩:=oB h
    have hq:IU q.1=true:=by
     unfold JT at h1;split at h1
     .rename_i hn;cases h1;exact hn
     .cases h1
    split at h
    .obtain⟨u,h2,h⟩:=oB h;split at h
     .cases h
     .rename_i hne;cases h;obtain⟨qs,w2,r3⟩:=u;cases qs with
      |nil=>exact absurd rfl hne
      |cons x qs=>
        obtain⟨k1,k2⟩:=NL (λr p w r' h=>Gr h) h2;refine⟨.tup _ _ hq (PJ h2) k1,?_⟩;rw[LK];show q.1++40::w2=_;rw[k2];simp
    .cases h;exact⟨.tup _ [] hq (by decide) (λx hx=>by cases hx),(Oc _).symm⟩
structure VL(r:List Nat):Prop where
 f:ahead D1 r=false
 l:ahead Hg r=false
 b:r.head?≠some 40
theorem L0{pred:Nat->Bool}:∀{w r:List Nat},(∀c∈w,pred c=true)->ahead pred r=false->(w++r).takeWhile pred=w/\(w++r).dropWhile pred=r
 |[],[],_,_=>⟨rfl,rfl⟩
 | [],c::r,_,h=>by
   have h:pred c=false:=h;rw[nil_append,List.takeWhile_cons,List.dropWhile_cons,h];exact⟨rfl,rfl⟩
 | c::w,r,hw,h=>by
   obtain⟨h1,h2⟩:=L0 (w:=w) (r:=r) (λd hd=>hw d (mC hd)) h;rw[List.cons_append,List.takeWhile_cons,List.dropWhile_cons,hw c mS,h1,h2];exact⟨rfl,rfl⟩
theorem BU{l:List Nat}(h:IU l=true):1<=l.length/\l.length<=8/\∀c∈l,low c=true:=by
 unfold IU at h;simp only[bA,decide_eq_true_eq,all_eq_true]at h;exact⟨h.1.1,h.1.2,h.2⟩
theorem NJ{r:List Nat}(h:n < 10 ^ 60)(hr:ahead D1 r=false):NK (dg n++r)=some (.int n,dg n,r):=by
 have hall:∀c∈dg n,D1 c=true:=λc hc=>by have:=M6 n c hc;unfold D1;simp;lia
 obtain⟨h1,h2⟩:=L0 hall hr;unfold NK;rw[h1,h2,Z0,iP];obtain⟨d,s,e,hz⟩:=Jm n;have hl:=M5 (by decide) h;unfold okN;rw[e]at hl ⊢;simp only[bA,decide_eq_true_eq,Bool.not_eq_true',Bool.and_eq_false_iff,decide_eq_false_iff_not];refine⟨⟨by simp,hl⟩,?_⟩
 by_cases hd:d=48
 .right;rw[(hz hd).2];simp
 .left;simpa using hd
theorem MN{c:Nat}(h:low c=true):Hg c=true:=by unfold Hg;rw[h];rfl
theorem Ug{c:Nat}(h:low c=true):D1 c=false:=by
 unfold low at h;simp only[bA,decide_eq_true_eq]at h;unfold D1;simp
 lia
theorem Gq{w r:List Nat}(hw:IU w=true)(hr:ahead Hg r=false):JT (w++r)=some (w,r)/\ahead D1 (w++r)=false:=by
 obtain⟨h1,h2,h3⟩:=BU hw;obtain⟨g1,g2⟩:=L0 (λc hc=>MN (h3 c hc)) hr;refine⟨by unfold JT;rw[g1,g2,iP hw],?_⟩;cases w with
 |nil=>exact absurd h1 (by decide)
 |cons c w=>exact Ug (h3 c mS)
theorem Ul(h:Kd p)(r:List Nat):(kt p++r).head?≠some 41:=by
 cases h with
 |int n hn=>
   rw[GI];obtain⟨d,s,e,_⟩:=Jm n;have:=M6 n d (by rw[e];exact mS);rw[e];simp
   lia
 |tup w ps hw hl hp=>
   obtain⟨h1,h2,h3⟩:=BU hw
   have hh:∀t,(w++t).head?≠some 41:=λt=>by
    cases w with
    |nil=>exact absurd h1 (by decide)
    |cons c w=>
      have:=h3 c mS;unfold low at this;simp only[bA,decide_eq_true_eq]at this;simp
      lia
   cases ps with
   |nil=>rw[Oc];exact hh r
   |cons q ps=>rw[LK];simp only[append_assoc];exact hh _
theorem N1(ps:List Iv.P)(r:List Nat):VL (CZ ps++41::r):=by
 cases ps with
 |nil=>rw[DW];exact⟨rfl,rfl,by simp⟩
 |cons q ps=>rw[CO];exact⟨rfl,rfl,by simp⟩
theorem MB{g:List Nat->Rr}:∀{ps:List Iv.P} {j:Nat} {r:List Nat},(∀q∈ps,Kd q/\∀t,VL t->g (kt q++t)=some (q,kt q,t))->ps.length<=j->j<=2->rF g j (CZ ps++41::r)=some (ps,CZ ps++[41],r)
 | [],j,r,_,_,_=>by
   rw[DW];cases j<;>(unfold rF;rfl)
 |q::ps,0,r,_,h,_=>by simp at h
 | q ::ps,j + 1,r,hq,hl,hj=>by
   have e:CZ (q::ps)++41::r=44::32::(kt q++(CZ ps++41::r)):=by rw[CO];simp
   rw[e];unfold rF;rw[iN (by simp)]
   have hs:Le j (44::32::(kt q++(CZ ps++41::r)))=some ([44,32],kt q++(CZ ps++41::r)):=by
    unfold Le;rw[iN (by lia),iP (show List.take 2 (44::32::(kt q++(CZ ps++41::r)))=[44,32]from rfl)];rfl
   rw[hs,Option.bind_some];dsimp only;rw[(hq q mS).2 _ (N1 ps r),Option.bind_some];dsimp only;rw[MB (λx hx=>hq x (mC hx)) (by rw[lC]at hl;lia) (by lia),CO];simp
theorem PK{g:List Nat->Rr}{q:Iv.P}{ps:List Iv.P}{r:List Nat}(hq:∀x∈q::ps,Kd x/\∀t,VL t->g (kt x++t)=some (x,kt x,t))(hl:ps.length<=2):rF g 3 (kt q++(CZ ps++41::r))=some (q::ps,kt q++CZ ps++[41],r):=by
 unfold rF;rw[iN (Ul (hq q mS).1 _)];show((some (([]:List Nat),kt q++(CZ ps++41::r))).bind λu=>_)=_;rw[Option.bind_some];dsimp only;rw[(hq q mS).2 _ (N1 ps r),Option.bind_some];dsimp only;rw[MB (λx hx=>hq x (mC hx)) hl (lR)];simp
theorem Ck:∀{ps:List Iv.P} {q:Iv.P},q∈ps->Dc q<=Fx ps
 |[],q,h=>by cases h
 | p::ps,q,h=>by
   unfold Fx;rcases mK h with z|z
   .rw[z];exact Nat.le_max_left _ _
   .exact Nat.le_trans (Ck z) (Nat.le_max_right _ _)
theorem Mz:∀{n:Nat} {p:Iv.P} {r:List Nat},Kd p->Dc p<=n->VL r->rK n (kt p++r)=some (p,kt p,r)
 | 0,p,r,h,hn,_=>by
   cases h with
   |int n _=>unfold Dc at hn;lia
   |tup w ps _ _ _=>unfold Dc at hn;lia
 | n + 1,p,r,h,hn,hr=>by
   cases h with
   |int m hm=>
     rw[GI];unfold rK;obtain⟨d,s,e,_⟩:=Jm m;have hd:=M6 m d (by rw[e];exact mS)
     have ha:ahead D1 (dg m++r)=true:=by
      rw[e];show D1 d=true;unfold D1;simp
      lia
     rw[iP ha,NJ hm hr.f]
   |tup w ps hw hl hp=>
     unfold Dc Kt at hn;cases ps with
     |nil=>
       rw[Oc];obtain⟨g1,g2⟩:=Gq (r:=r) hw hr.l;unfold rK;rw[iN (by rw[g2];exact Bool.false_ne_true),g1,Option.bind_some];dsimp only;rw[iN hr.b]
     |cons q ps=>
       have e:kt (.tup (.str (tx w)::q::ps))++r=w++(40::(kt q++(CZ ps++41::r))):=by rw[LK];simp
       obtain⟨g1,g2⟩:=Gq (w:=w) (r:=40::(kt q++(CZ ps++41::r))) hw rfl;rw[e];unfold rK;rw[iN (by rw[g2];exact Bool.false_ne_true),g1,Option.bind_some];dsimp only;rw[iP (show(40::(kt q++(CZ ps++41::r))).head? =some 40 from rfl)]
       have hdp:∀x∈q::ps,Dc x<=n:=λx hx=>by
        have h1:Dc x<=Fx (q::ps):=Ck hx
        lia
       rw[List.tail_cons,PK (λx hx=>⟨hp x hx,λt ht=>Mz (hp x hx) (hdp x hx) ht⟩) (by rw[lC]at hl;lia),Option.bind_some];show(if(q::ps).isEmpty=true then none else _)=_;rw[iN (by simp),LK];simp
theorem TM :A0 fns mt A1 (k + 2) 3 [.p (.int i)]= .ok (.p (.bl (decide (0<=i)))) [sP (.int i)]:=by
 have h:=KG (cf:=A0 fns mt A1 (k+1)) (mt:=mt) (r:=[]) (Km (k:=k) (i:=i))
 have e:execs (A0 fns mt A1 (k + 1)) mt A1 b3 [sP (.int i)]= .ok (.ret (.p (.bl (decide (0<=i))))) [sP (.int i)]:=by
  unfold b3;simp! [↓h]
 exact Ad f3 rfl rfl e (by kernel_rfl)
theorem Uc :A0 fns mt A1 (k + 1) 4 [.p (.int i)]= .ok (.p (.bl false)) [sP (.int i)]:=by
 have e:execs (A0 fns mt A1 k) mt A1 b4 [sP (.int i)]= .ok (.ret (.p (.bl false))) [sP (.int i)]:=by
  unfold b4;simp! []
 exact Ad f4 rfl rfl e (by kernel_rfl)
theorem MP{c:Nat}(h:low c=true):c < 128:=Qz (MN h)
theorem Ub{w:List Nat}{ps:List Iv.P}(hw:IU w=true)(hl:ps.length<=3):A0 fns mt A1 (k + 2) 4 [.p (.tup (.str (tx w)::ps))]= .ok (.p (.bl true)) [sP (.tup (.str (tx w)::ps))]:=by
 obtain⟨h1,h2,h3⟩:=BU hw;have hn:=GK (k:=k) (l:=w) (λc hc=>MP (h3 c hc)) (by unfold big;lia);rw[hw]at hn;have hc:=jj (cf:=A0 fns mt A1 (k+1)) (mt:=mt) (f:=1) (o:=.idx) (ts:=[.var 0,.cst (.int 0)]) (ρ:=[sP (.tup (.str (tx w)::ps))]) (p:=.str (tx w)) (by simp! [Ji]) hn;have l1:¬((ps.length:Int)+1 < 1):=by lia
 have l2:¬((1:Int)+3 < (ps.length:Int)+1):=by lia
 have l3:¬((4:Int) < (ps.length:Int)+1):=by lia
 have e:execs (A0 fns mt A1 (k + 1)) mt A1 b4 [sP (.tup (.str (tx w)::ps))]= .ok (.ret (.p (.bl true))) [sP (.tup (.str (tx w)::ps))]:=by
  unfold b4;generalize tx w=x at hc ⊢;simp! [↓hc,l1,l2,l3]
 exact Ad f4 rfl rfl e (by kernel_rfl)
noncomputable def w5:List S:=[.asg (.nm 2) (.prim .add [.var 2,.cst (.int 1)]),.ifs (.prim .gt [.var 2,.cst (.int 24)]) [.ret (some (.cst (.bl false)))] [],.asg (.nm 3) (.CY .pop (.var 1) []),.ifs (.call 4 [.var 3]) [.expr (.CY .extend (.var 1) [.prim (.Cy true false) [.var 3,.cst (.int 1)]])] [.ifs (.not (.call 3 [.var 3])) [.ret (some (.cst (.bl false)))] []]]
theorem WG:b5=[.asg (.nm 1) (.lst [.var 0]),.asg (.nm 2) (.cst (.int 0)),.Mj (.var 1) w5,.ret (some (.cst (.bl true)))]:=rfl
theorem IF(p:Iv.P):1<=Dh p:=by cases p<;>(unfold Dh;lia)
theorem CL:BE []=0:=by unfold BE;rfl
theorem AH(p:Iv.P)(ps:List Iv.P):BE (p::ps)=Dh p+BE ps:=by conv=>lhs;unfold BE
theorem Cc(p:Iv.P):BE [p]=Dh p:=by rw[AH,CL];rfl
theorem BR:∀(a b:List Iv.P),BE (a++b)=BE a + BE b
 |[],b=>by rw[CL,Nat.zero_add];rfl
 | p::a,b=>by
   show BE (p::(a++b))=_;rw[AH,AH,BR a b]
   lia
theorem Bx(x:Iv.P)(ps:List Iv.P):Dh (.tup (x::ps))=BE ps+1:=by conv=>lhs;unfold Dh bF
theorem EL(i:Int):Dh (.int i)=1:=by unfold Dh;rfl
theorem PX(l:List Iv.P)(q:Iv.P):Qy (l++[q]) []=some (.p q,.lst l):=by
 show((l++[q]).getLast?).map _=_;rw[List.getLast?_concat];simp
theorem Z4(x:Iv.P)(ps:List Iv.P):D3 (.b (.p (.tup (x::ps)))) (some 1) none=some (.p (.tup ps)):=by
 show some (C.p (.tup (cut (x::ps) (some 1) none)))=_;unfold cut Oy;simp
theorem RA{cf:CF}{f:Nat}{y:Option C}{a b c:Option C}{r:Iv.Env}(e:cf f [.p p]= .ok z [y]):ev cf mt (.call f [.var 3]) (a::b::c::some (.p p)::r)= .ok z (a::b::c::some (.p p)::r):=Ho (h:=.slot 3) rfl rfl e
theorem Oe{y0:Option C}:∀(j n:Nat) (ws:List Iv.P) (y:Option C),n + j=24->(∀q∈ws,Kd q)->ws.length<=1 + 3 * n->
 ∃ρ,A1 (tv (A0 fns mt A1 (k+2)) mt (.var 1)) (execs (A0 fns mt A1 (k+2)) mt A1 w5) [y0,sL ws,sP (.int n),y]= .ok (if n+BE ws<=24 then .nx else .ret (.p (.bl false))) ([y0]++ρ):=by
 intro j
 induction j with
 |zero=>
   intro n ws y hn hw hl;rw[Bo];have ht:tv (A0 fns mt A1 (k+2)) mt (.var 1) [y0,sL ws,sP (.int n),y]= .ok (!ws.isEmpty) [y0,sL ws,sP (.int n),y]:=by simp! []
   rw[ht,Res.A2];cases ws with
   |nil=>
     rw[CL,iN (show ¬((!([]:List Iv.P).isEmpty)=true)by simp),iP (by lia)];exact⟨_,rfl⟩
   |cons q ws=>
     have:=IF q;rw[AH,iP (show(!(q::ws).isEmpty)=true from rfl),iN (by lia)];have hn:n=24:=by lia
     subst hn
     have hb:execs (A0 fns mt A1 (k + 2)) mt A1 w5 [y0,sL (q::ws),sP (.int (24:Nat)),y]= .ok (.ret (.p (.bl false))) [y0,sL (q::ws),sP (.int 25),y]:=by
      unfold w5;simp! []
     rw[hb];exact⟨_,rfl⟩
 |succ j ih=>
   intro n ws y hn hw hl;rw[Bo];have ht:tv (A0 fns mt A1 (k+2)) mt (.var 1) [y0,sL ws,sP (.int n),y]= .ok (!ws.isEmpty) [y0,sL ws,sP (.int n),y]:=by simp! []
   rw[ht,Res.A2];rcases List.eq_nil_or_concat ws with rfl|⟨ws',q,rfl⟩
   .rw[CL,iN (show ¬((!([]:List Iv.P).isEmpty)=true)by simp),iP (by lia)];exact⟨_,rfl⟩
   .rw [List.concat_eq_append]at hw hl ⊢;rw[iP (show(!(ws'++[q]).isEmpty)=true by simp)];have hq:=hw q (by simp);have hw':∀q∈ws',Kd q:=λx hx=>hw x (mL hx)
    have hl':ws'.length+1<=1+3*n:=by simpa using hl
    have hlt:¬((24:Int) < (n:Int)+1):=by lia
    have hp:=PX ws' q
    obtain⟨ws2,h2,h3,h4,hb⟩:∃ws2,(∀q∈ws2,Kd q)/\ws2.length<=1 + 3 * (n + 1)/\n + 1 + BE ws2=n + BE (ws'++[q])/\execs (A0 fns mt A1 (k + 2)) mt A1 w5 [y0,sL (ws'++[q]),sP (.int n),y]= .ok .nx [y0,sL ws2,sP (.int ((n + 1:Nat):Int)),sP q]:=by
     cases hq with
     |int m hm=>
       refine⟨ws',hw',by lia,by rw[BR,Cc,EL];lia,?_⟩;have c1:=RA (cf:=A0 fns mt A1 (k+2)) (a:=y0) (b:=some (.lst ws')) (c:=some (.p (.int ((n:Int)+1)))) (r:=[]) (Uc (k:=k+1) (i:=(m:Int)));have c2:=RA (cf:=A0 fns mt A1 (k+2)) (a:=y0) (b:=some (.lst ws')) (c:=some (.p (.int ((n:Int)+1)))) (r:=[]) (TM (k:=k) (i:=(m:Int)));rw[decide_eq_true (show(0:Int)<=(m:Int)by lia)]at c2;rw[show((n+1:Nat):Int)=(n:Int)+1 by lia];generalize ws'++[Iv.P.int m]=l at hp ⊢;generalize (n:Int)=z at hlt c1 c2 ⊢;unfold w5;simp! [hlt,hp,↓c1,↓c2]
     |tup w ps hnw hps hk=>
       refine⟨ws'++ps,λx hx=>?_,by rw[lA];lia,by rw[BR,BR,Cc,Bx];lia,?_⟩
       .rcases mem_append.mp hx with z|z
        .exact hw' x z
        .exact hk x z
       have c1:=RA (cf:=A0 fns mt A1 (k+2)) (a:=y0) (b:=some (.lst ws')) (c:=some (.p (.int ((n:Int)+1)))) (r:=[]) (Ub (k:=k) hnw hps)
       have hx:EW ws' [.b (.p (.tup ps))]=some (.p .Ai,.lst (ws'++ps)):=by
        show(if _ then _ else _)=_;rw[iP (by unfold big;lia)]
       have hcut:=Z4 (.str (tx w)) ps;rw[show((n+1:Nat):Int)=(n:Int)+1 by lia];generalize ws'++ps=l2 at hx ⊢;generalize Iv.P.tup (.str (tx w)::ps)=t at hp c1 hcut ⊢;generalize ws'++[t]=l at hp ⊢;generalize (n:Int)=z at hlt c1 ⊢;unfold w5;have km:∀(d:C),jM .extend (.slot 1) [.AD d] [y0,sL ws',sP (.int (z+1)),sP t] (some (.b (.lst ws'))) (some [.b (.p (.tup ps))])=aC 1 [y0,sL ws',sP (.int (z+1)),sP t] (E4 .extend (.lst ws') [.p (.tup ps)]):=λ_=>rfl
       simp! [hlt,hp,↓c1,hcut,hx,km]
    obtain⟨ρ,e⟩:=ih (n+1) ws2 (some (.p q)) (by lia) h2 h3;refine⟨ρ,?_⟩;rw[hb];show A1 _ _ [y0,sL ws2,sP (.int ((n+1:Nat):Int)),sP q]=_;rw[e,h4]
theorem LQ(h:Kd p):A0 fns mt A1 (k + 3) 5 [.p p]= .ok (.p (.bl (decide (Dh p<=24)))) [sP p]:=by
 obtain⟨ρ,e⟩:=Oe (k:=k) (y0:=some (.p p)) 24 0 [p] none rfl (λq hq=>by rw[mE hq];exact h) (by simp);rw[Cc,Nat.zero_add]at e;have e':exec (A0 fns mt A1 (k+2)) mt A1 (.Mj (.var 1) w5) [sP p,sL [p],sP (.int 0),none]=_:=e
 by_cases hs:Dh p<=24
 .rw[iP hs]at e'
  have e2:execs (A0 fns mt A1 (k + 2)) mt A1 b5 [sP p,none,none,none]= .ok (.ret (.p (.bl true))) ([sP p]++ρ):=by
   rw[WG];simp! [↓e']
  rw[decide_eq_true hs];exact Ad f5 rfl rfl e2 rfl
 .rw[iN hs]at e'
  have e2:execs (A0 fns mt A1 (k + 2)) mt A1 b5 [sP p,none,none,none]= .ok (.ret (.p (.bl false))) ([sP p]++ρ):=by
   rw[WG];simp! [↓e']
  rw[dF hs];exact Ad f5 rfl rfl e2 rfl
end Lk50
namespace Iv
open PySem
variable{cf:CF}{mt:MT}
theorem dk{u:Option C}{r:Env}{c:Nat}{fs:List (Str×B)}{f:Nat}(hm:mt.m c m=some f)(hl:fs.lookup m=none)(e:cf f [.obj c fs]= .ok z [some o]):ev cf mt (.Au m (.var 1) []) (u::some (.obj c fs)::r)= .ok z (u::some o::r):=by
 rw[BM,Wt];dsimp only;rw[hl,hm];show Aq cf f [.slot 1] (u::some (.obj c fs)::r)=_;unfold Aq;have ec:A9 (u::some (.obj c fs)::r) [.slot 1]=some [.obj c fs]:=rfl;rw[ec];dsimp only;rw[iP ⟨by show([1]:List Nat).Nodup;decide,rfl⟩,e];rfl
theorem dj{u:Option C}{r:Env}{c:Nat}{fs:List (Str×B)}{f:Nat}{y:Option C}(hm:mt.m c m=some f)(hl:fs.lookup m=none)(e:cf f [.obj c fs,.p p]= .ok z [some o,y]):ev cf mt (.Au m (.var 1) [.cst p]) (u::some (.obj c fs)::r)= .ok z (u::some o::r):=by
 rw[BM,Wt];dsimp only;rw[hl,hm];show Aq cf f [.slot 1,.AD (.p p)] (u::some (.obj c fs)::r)=_;unfold Aq;have ec:A9 (u::some (.obj c fs)::r) [.slot 1,.AD (.p p)]=some [.obj c fs,.p p]:=rfl;rw[ec];dsimp only;rw[iP ⟨by show([1]:List Nat).Nodup;decide,rfl⟩,e];rfl
theorem cZ{u:Option C}{r:Env}{c:Nat}{fs:List (Str×B)}{f x:Nat}(hm:mt.m c m=some f)(hl:fs.lookup m=none)(e:cf f [.obj c fs]= .err x p):ev cf mt (.Au m (.var 1) []) (u::some (.obj c fs)::r)= .err x p (u::none::r):=by
 rw[BM,Wt];dsimp only;rw[hl,hm];show Aq cf f [.slot 1] (u::some (.obj c fs)::r)=_;unfold Aq;rw[show A9 (u::some (.obj c fs)::r) [.slot 1]=some [.obj c fs]from rfl];dsimp only;rw[iP ⟨by show([1]:List Nat).Nodup;decide,rfl⟩,e];rfl
theorem cY{u:Option C}{r:Env}{c:Nat}{fs:List (Str×B)}{f x:Nat}(hm:mt.m c m=some f)(hl:fs.lookup m=none)(e:cf f [.obj c fs,.p q]= .err x p):ev cf mt (.Au m (.var 1) [.cst q]) (u::some (.obj c fs)::r)= .err x p (u::none::r):=by
 rw[BM,Wt];dsimp only;rw[hl,hm];show Aq cf f [.slot 1,.AD (.p q)] (u::some (.obj c fs)::r)=_;unfold Aq;rw[show A9 (u::some (.obj c fs)::r) [.slot 1,.AD (.p q)]=some [.obj c fs,.p q]from rfl];dsimp only;rw[iP ⟨by show([1]:List Nat).Nodup;decide,rfl⟩,e];rfl
theorem eD{f x:Nat}{r:Env}(e:cf f [.p p]= .err x q):ev cf mt (.call f [.var 0]) (some (.p p)::r)= .err x q (some (.p p)::r):=by
 rw[BV];show Aq cf f [.slot 0] (some (.p p)::r)=_;unfold Aq;rw[show A9 (some (.p p)::r) [.slot 0]=some [.p p]from rfl];dsimp only;rw[iP ⟨by show([]:List Nat).Nodup;exact .nil,rfl⟩,e];rfl
end Iv
namespace Lk50
open Iv PySem
variable{k:Nat}
theorem VX{c:Nat}{fs:List (Str×B)}{r:Iv.Env}(hf:mt.f c f=true)(hl:fs.length < 900):Hx mt 0 f (.b b) (some (.obj c fs)::r)= .ok .nx (some (.obj c (Iv.B6 f b fs))::r):=by
 show(if(mt.f c f && decide (fs.length < 900))=true then _ else _)=_;rw[hf,decide_eq_true hl];rfl
theorem Uu :A0 fns mt A1 (k + 1) 24 [.obj 5 [],.p (.str x)]= .ok (.p .Ai) [some (.obj 5 (rd x 0)),sP (.str x)]:=by
 have h1:=VX (c:=5) (f:=⟨#[116,101,120,116]⟩) (b:=.p (.str x)) (fs:=[]) (r:=[sP (.str x)]) rfl (by decide);have h2:=VX (c:=5) (f:=⟨#[97,116]⟩) (b:=.p (.int 0)) (fs:=Iv.B6 ⟨#[116,101,120,116]⟩ (.p (.str x)) []) (r:=[sP (.str x)]) rfl (by simp[Iv.B6])
 have e:execs (A0 fns mt A1 k) mt A1 jq [some (.obj 5 []),sP (.str x)]= .ok .nx [some (.obj 5 (rd x 0)),sP (.str x)]:=by
  unfold jq;simp! [h1,h2];rfl
 exact Qo dS rfl rfl e (by kernel_rfl)
theorem NF :A0 fns mt A1 (k + 2) 8 [.p (.str x)]= .ok (.obj 5 (rd x 0)) [sP (.str x)]:=by
 have h1:ev (A0 fns mt A1 (k + 1)) mt (.make 5 [.var 0]) [sP (.str x)]= .ok (.obj 5 (rd x 0)) [sP (.str x)]:=by
  have hm:mt.m 5 (Str.ofString "__init__")=some 24:=by kernel_rfl
  have e1:ev (A0 fns mt A1 (k + 1)) mt (.make 5 [.var 0]) [sP (.str x)]=match mt.m 5 (Str.ofString "__init__")with
   |some f=>(A8 (A0 fns mt A1 (k+1)) mt [.var 0] [sP (.str x)]).bind λhs ρ=>FJ (A0 fns mt A1 (k+1)) f 5 hs ρ
   |none=>.stuck:=by
   show(den _ _ _).v _=_
   conv=>lhs;unfold den
   all_goals rfl
  rw[e1,hm];show FJ (A0 fns mt A1 (k+1)) 24 5 [.slot 0] [sP (.str x)]=_;unfold FJ;rw[show A9 [sP (.str x)] [.slot 0]=some [.p (.str x)]from rfl];dsimp only;rw[iP ⟨⟨by show([]:List Nat).Nodup;exact .nil,rfl⟩,by decide⟩,Uu];rfl
 have e:execs (A0 fns mt A1 (k + 1)) mt A1 b8 [sP (.str x)]= .ok (.ret (.obj 5 (rd x 0))) [sP (.str x)]:=by
  unfold b8;simp! [↓h1]
 exact Ad f8 rfl rfl e (by kernel_rfl)
theorem NG(h:Dx .str (.b (.p p))=some false):A0 fns mt A1 (k + 1) 8 [.p p]= .err 4 .Ai:=by
 have e:execs (A0 fns mt A1 k) mt A1 b8 [sP p]= .err 4 .Ai [sP p]:=by
  unfold b8;simp! [h,Sx]
 exact Bg f8 rfl rfl e
theorem Ls{c ch:Nat}{a r:List Nat}(hb:a.length + (ch::r).length<=big):A0 fns mt A1 (k + 1) 28 [St c a (ch::r)]= .err 4 .Ai:=by
 have hl:=Dv (l:=a++ch::r) (by simpa using hb);have hne:¬((a.length:Int)=((a++ch::r).length:Nat)):=by simp;lia
 have e:execs (A0 fns mt A1 k) mt A1 fg [some (St c a (ch::r))]= .err 4 .Ai [some (St c a (ch::r))]:=by
  unfold fg St;generalize (a++ch::r).length=n at hl hne;generalize tx (a++ch::r)=x at hl ⊢;simp! [Kp,Jj,hl,eq_int,hne,Sx]
 exact Bg aI rfl rfl e
noncomputable def NH(s:List Nat):Option Iv.P:=match rK 24 s with
 |some (p,_,r)=>if r=[]/\Dh p<=24 then some p else none
 |none=>none
theorem Xz{s:List Nat}{p:Iv.P}(hs:s.length<=70000)(h:NH s=some p):Kd p/\s=kt p/\Dh p<=24:=by
 unfold NH at h;cases e:rK 24 s with
 |none=>rw[e]at h;cases h
 |some q=>
   obtain⟨q,w,r⟩:=q;rw[e]at h;dsimp only at h;split at h
   .rename_i hh;cases h;have h1:=Gr e;have h2:=Jd 24 0 5 0 [] s rfl rfl (by simpa using hs);rw[e]at h2;have h3:=h2.1;rw[hh.1,append_nil,h1.2]at h3;exact⟨h1.1,h3,hh.2⟩
   .cases h
theorem IG{s:List Nat}(hs:s.length<=70000):match NH s with
 |some p=>A0 fns mt A1 (k+75) 9 [.p (.str (tx s))]= .ok (.p p) [sP (.str (tx s))]
 |none=>A0 fns mt A1 (k+75) 9 [.p (.str (tx s))]= .err 4 .Ai:=by
 have h1:ev (A0 fns mt A1 (k+74)) mt (.call 8 [.var 0]) [sP (.str (tx s)),none,none]= .ok (.obj 5 (rd (tx s) 0)) [sP (.str (tx s)),none,none]:=KG (NF (k:=k+72));have h2:=Jd 24 k 5 0 [] s rfl rfl (by simpa using hs);rw[show k+2+3*24=k+74 by lia,show St 5 [] s= .obj 5 (rd (tx s) 0)from rfl]at h2;unfold NH;cases e:rK 24 s with
 |none=>
   rw[e]at h2;dsimp only at h2 ⊢;have s2:ev (A0 fns mt A1 (k+74)) mt (.Au ⟨#[107,105,110,100]⟩ (.var 1) [.cst (.int 0)]) [sP (.str (tx s)),some (.obj 5 (rd (tx s) 0)),none]=_:=cY (J1 rfl) rfl h2;generalize C.obj 5 (rd (tx s) 0)=o0 at h1 s2;generalize tx s=x at h1 s2 ⊢
   suffices e:execs (A0 fns mt A1 (k+74)) mt A1 b9 [sP (.str x),none,none]= .err 4 .Ai [sP (.str x),none,none]from Bg f9 rfl rfl e
   unfold b9;simp! [↓h1,↓s2]
 |some q=>
   obtain⟨p,w,r⟩:=q;rw[e]at h2;dsimp only at h2 ⊢;obtain⟨h3,h4,h2⟩:=h2;have s2:ev (A0 fns mt A1 (k+74)) mt (.Au ⟨#[107,105,110,100]⟩ (.var 1) [.cst (.int 0)]) [sP (.str (tx s)),some (.obj 5 (rd (tx s) 0)),none]=_:=dj (J1 rfl) rfl h2;have m28:mt.m 5 ⟨#[109,117,115,116,95,101,110,100]⟩=some 28:=J0 rfl (by kernel_rfl);rw[nil_append]at s2;have hlen:w.length+r.length<=70000:=by rw[h3,lA]at hs;exact hs
   cases r with
   |cons ch r=>
     rw[iN (λz=>nomatch z.1)];have s3:ev (A0 fns mt A1 (k+74)) mt (.Au ⟨#[109,117,115,116,95,101,110,100]⟩ (.var 1) []) [sP (.str (tx s)),some (St 5 w (ch::r)),sP p]= .err 4 .Ai [sP (.str (tx s)),none,sP p]:=cZ m28 rfl (Ls (k:=k+73) (by unfold big;lia));generalize St 5 w (ch::r)=o1 at s2 s3;generalize C.obj 5 (rd (tx s) 0)=o0 at h1 s2;generalize tx s=x at h1 s2 s3 ⊢
     suffices e:execs (A0 fns mt A1 (k+74)) mt A1 b9 [sP (.str x),none,none]= .err 4 .Ai [sP (.str x),none,sP p]from Bg f9 rfl rfl e
     unfold b9;simp! [↓h1,↓s2,↓s3]
   |nil=>
     have s3:ev (A0 fns mt A1 (k+74)) mt (.Au ⟨#[109,117,115,116,95,101,110,100]⟩ (.var 1) []) [sP (.str (tx s)),some (St 5 w []),sP p]= .ok (.p .Ai) [sP (.str (tx s)),some (St 5 w []),sP p]:=dk m28 rfl (K4 (k:=k+73) (by unfold big;lia));have s4:∀o u,ev (A0 fns mt A1 (k+74)) mt (.call 5 [.var 2]) [o,u,sP p]= .ok (.p (.bl (decide (Dh p<=24)))) [o,u,sP p]:=λo u=>WC (LQ (k:=k+71) (Gr e).1)
     generalize St 5 w []=o1 at s2 s3;generalize C.obj 5 (rd (tx s) 0)=o0 at h1 s2;generalize tx s=x at h1 s2 s3 ⊢
     by_cases hz:Dh p<=24
     .rw[iP ⟨rfl,hz⟩];rw[decide_eq_true hz]at s4
      suffices e:execs (A0 fns mt A1 (k+74)) mt A1 b9 [sP (.str x),none,none]= .ok (.ret (.p p)) [sP (.str x),some o1,sP p]from Ad f9 rfl rfl e (by kernel_rfl)
      unfold b9;simp! [↓h1,↓s2,↓s3,↓s4]
     .rw[iN λz=>hz z.2];rw[dF hz]at s4
      suffices e:execs (A0 fns mt A1 (k+74)) mt A1 b9 [sP (.str x),none,none]= .err 4 .Ai [sP (.str x),some o1,sP p]from Bg f9 rfl rfl e
      unfold b9;simp! [↓h1,↓s2,↓s3,↓s4,Sx]
mutual
theorem F5:∀{p:Iv.P},Kd p->Dc p<=Dh p
 |_,.int n h=>by unfold Dc Dh;exact lR
 | _,.tup w ps hw hl h=>by
   have:=HW (ps:=ps) h;rw[Bx];unfold Dc Kt;exact Nat.succ_le_succ this
theorem HW:∀{ps:List Iv.P},(∀q∈ps,Kd q)->Fx ps<=BE ps
 |[],_=>by unfold Fx;exact Nat.zero_le _
 | q::ps,h=>by
   have h1:=F5 (h q mS);have h2:=HW (ps:=ps) λx hx=>h x (mC hx)
   have h3:=IF q;rw[AH];unfold Fx
   lia
end
theorem PH(hp:Kd p)(hz:Dh p<=24):NH (kt p)=some p:=by
 have h:=Mz (r:=[]) hp (Nat.le_trans (F5 hp) hz) ⟨rfl,rfl,by simp⟩;rw[append_nil]at h;unfold NH;rw[h];exact iP ⟨rfl,hz⟩
theorem Td(h:Dx .str (.b (.p p))=some false):A0 fns mt A1 (k + 2) 9 [.p p]= .err 4 .Ai:=by
 have h1:ev (A0 fns mt A1 (k+1)) mt (.call 8 [.var 0]) [sP p,none,none]= .err 4 .Ai [sP p,none,none]:=eD (NG (k:=k) h)
 suffices e:execs (A0 fns mt A1 (k+1)) mt A1 b9 [sP p,none,none]= .err 4 .Ai [sP p,none,none]from Bg f9 rfl rfl e
 unfold b9;simp! [↓h1]
theorem IZ:∀{ps:List Iv.P} {q:Iv.P},q∈ps->Dh q<=BE ps
 |[],q,h=>by cases h
 | p::ps,q,h=>by
   rw[AH];rcases mK h with z|z
   .rw[z];lia
   .have:=IZ z;lia
mutual
theorem Es:∀{p:Iv.P},Kd p->(kt p).length + 2<=64 * Dh p
 | _,.int n h=>by
   have:=M5 (by decide) h;rw[GI,EL]
   lia
 | _,.tup w [] hw hl h=>by
   have:=(BU hw).2.1;rw[Oc,Bx,CL]
   lia
 | _,.tup w (q::ps) hw hl h=>by
   have h0:=(BU hw).2.1;have h1:=Es (h q mS);have h2:=G5 (ps:=ps) λx hx=>h x (mC hx)
   rw[LK,Bx,AH];simp only[lA,lS]
   lia
theorem G5:∀{ps:List Iv.P},(∀q∈ps,Kd q)->(CZ ps).length<=64 * BE ps
 |[],_=>by rw[DW];exact Nat.zero_le _
 | q::ps,h=>by
   have h1:=Es (h q mS);have h2:=G5 (ps:=ps) λx hx=>h x (mC hx)
   rw[CO,AH];simp only[lA,lC,length_nil]
   lia
end
theorem Wl(q:Iv.P)(ps:List Iv.P):jn [44,32] ((q::ps).map kt)=kt q++CZ ps:=by
 have h:∀ps:List Iv.P,((ps.map kt).map λy=>[44,32]++y).flatten=CZ ps:=λps=>by
  induction ps with
  |nil=>rw[DW];rfl
  |cons x ps ih=>rw[CO,map_cons,map_cons,List.flatten_cons,ih]
 show kt q++_=_;rw[h]
theorem Gv{cf:CF}{f:Nat}{x:Iv.P}{ps:List Iv.P}{F:Iv.P->Iv.P}{r:Iv.Env}(hl:ps.length<=3)(he:∀q∈ps,cf f [.p q]= .ok (.p (F q)) [sP q]):
 ev cf mt (.comp (.nm 1) .op [.prim (.Cy true false) [.var 0,.cst (.int 1)]] [] (.call f [.var 1]) [none,none]) (some (.p (.tup (x::ps)))::r)= .ok (.lst (ps.map F)) (some (.p (.tup (x::ps)))::r):=by
 have hcut:=Z4 x ps;refine Ru (h:=.AD (.p (.tup ps))) (c:=.p (.tup ps)) ?_ rfl rfl rfl (by unfold big;lia) λq hq=>WD (he q hq)
 simp! [hcut]
theorem Iw:∀(n k:Nat) {p:Iv.P},Kd p->Dc p<=n->Dh p<=24->A0 fns mt A1 (k + n) 18 [.p p]= .ok (.p (.str (tx (kt p)))) [sP p]
 | 0,k,_,h,hn,_=>by
   cases h with
   |int m hm=>unfold Dc at hn;lia
   |tup w ps _ _ _=>unfold Dc at hn;lia
 | n + 1,k,_,h,hn,hz=>by
   cases h with
   |int m hm=>
     have hs:=P4 (i:=(m:Int)) (by simpa using hm);have hk:kt (.int m)=Sy m:=by unfold kt;rfl
     rw[hk]
     suffices e:execs (A0 fns mt A1 (k+n)) mt A1 Zx [sP (.int m)]= .ok (.ret (.p (.str (tx (Sy m))))) [sP (.int m)]from Ad aM rfl rfl e (by kernel_rfl)
     generalize tx (Sy m)=z at hs ⊢;generalize (m:Int)=i at hs ⊢;unfold Zx;simp! [hs]
   |tup w ps hw hl hp=>
     cases ps with
     |nil=>
       rw[Oc]
       suffices e:execs (A0 fns mt A1 (k+n)) mt A1 Zx [sP (.tup [.str (tx w)])]= .ok (.ret (.p (.str (tx w)))) [sP (.tup [.str (tx w)])]from Ad aM rfl rfl e (by kernel_rfl)
       generalize tx w=z;unfold Zx;simp! [eq_int,Ji]
     |cons q ps=>
       have hdp:∀x∈q::ps,Dc x<=n:=λx hx=>by
        have h1:Dc x<=Fx (q::ps):=Ck hx;unfold Dc Kt at hn
        lia
       have hzp:∀x∈q::ps,Dh x<=24:=λx hx=>by
        have h1:=IZ hx;rw[Bx]at hz
        lia
       have hc:=Gv (cf:=A0 fns mt A1 (k+n)) (f:=18) (x:=.str (tx w)) (r:=[]) (F:=λq=>.str (tx (kt q))) hl (λx hx=>Iw n k (hp x hx) (hdp x hx) (hzp x hx));have hk2:((q::ps).map λq=>Iv.P.str (tx (kt q)))=AJ ((q::ps).map kt):=by show _=List.map _ (List.map _ _);rw[map_map];rfl
       rw[hk2]at hc
       have hm:∀l∈(q::ps).map kt,l.length<=1536:=λl hl=>by
        obtain⟨x,hx,rfl⟩:=mem_map.mp hl;have h1:=Es (hp x hx);have h2:=hzp x hx
        lia
       have hj:=(Cs (sep:=[44,32]) hm (by rw[lM];unfold big;simp only[lC,length_nil]at hl ⊢;lia)).1;rw[Wl]at hj;rw[LK];have h0:=(BU hw).2.1;have h1:=Es (hp q mS);have h2:=G5 (ps:=ps) λx hx=>hp x (mC hx)
       rw[Bx,AH]at hz;have a1:=BC (a:=w) (b:=[40]) (by unfold big;simp;lia);have a2:=BC (a:=w++[40]) (b:=kt q++CZ ps) (by unfold big;simp;lia);have a3:=BC (a:=w++[40]++(kt q++CZ ps)) (b:=[41]) (by unfold big;simp;lia);rw[show w++[40]++(kt q++CZ ps)++[41]=w++[40]++kt q++CZ ps++[41]by simp]at a3;have hlen:¬(((q::ps).length:Int)+1=1):=by simp;lia
       generalize w++[40]++kt q++CZ ps++[41]=z9 at a3 ⊢;generalize w++[40]++(kt q++CZ ps)=z8 at a2 a3;generalize kt q++CZ ps=z7 at hj a2;generalize w++[40]=z6 at a1 a2;generalize AJ ((q::ps).map kt)=res at hc hj;generalize q::ps=qs at hc hlen ⊢
       suffices e:execs (A0 fns mt A1 (k+n)) mt A1 Zx [sP (.tup (.str (tx w)::qs))]= .ok (.ret (.p (.str (tx z9)))) [sP (.tup (.str (tx w)::qs))]from Ad aM rfl rfl e (by kernel_rfl)
       generalize tx w=x0 at hc a1 ⊢;unfold Zx;simp! [eq_int,Ji,hlen,↓hc,hj,a1,a2,a3]
theorem Mv:∀(n k:Nat) {p:Iv.P},Kd p->Dc p<=n->Dh p<=24->A0 fns mt A1 (k + 1 + n) 12 [.p p]= .ok (.p (.str (tx (kt p)))) [sP p]
 | 0,k,_,h,hn,_=>by
   cases h with
   |int m hm=>unfold Dc at hn;lia
   |tup w ps _ _ _=>unfold Dc at hn;lia
 | n + 1,k,_,h,hn,hz=>by
   cases h with
   |int m hm=>
     have hs:=KG (cf:=A0 fns mt A1 (k+1+n)) (mt:=mt) (r:=[]) (by have:=Pr (k:=k+n) hm;rw[show k+n+1=k+1+n by lia]at this;exact this);rw[GI]
     suffices e:execs (A0 fns mt A1 (k+1+n)) mt A1 ZA [sP (.int m)]= .ok (.ret (.p (.str (tx (dg m))))) [sP (.int m)]from Ad aN rfl rfl e (by kernel_rfl)
     generalize tx (dg m)=z at hs ⊢;generalize (m:Int)=i at hs ⊢;unfold ZA;simp! [↓hs]
   |tup w ps hw hl hp=>
     cases ps with
     |nil=>
       rw[Oc]
       suffices e:execs (A0 fns mt A1 (k+1+n)) mt A1 ZA [sP (.tup [.str (tx w)])]= .ok (.ret (.p (.str (tx w)))) [sP (.tup [.str (tx w)])]from Ad aN rfl rfl e (by kernel_rfl)
       generalize tx w=z;unfold ZA;simp! [eq_int,Ji]
     |cons q ps=>
       have hdp:∀x∈q::ps,Dc x<=n:=λx hx=>by
        have h1:Dc x<=Fx (q::ps):=Ck hx;unfold Dc Kt at hn
        lia
       have hzp:∀x∈q::ps,Dh x<=24:=λx hx=>by
        have h1:=IZ hx;rw[Bx]at hz
        lia
       have hc:=Gv (cf:=A0 fns mt A1 (k+1+n)) (f:=12) (x:=.str (tx w)) (r:=[]) (F:=λq=>.str (tx (kt q))) hl (λx hx=>Mv n k (hp x hx) (hdp x hx) (hzp x hx));have hk2:((q::ps).map λq=>Iv.P.str (tx (kt q)))=AJ ((q::ps).map kt):=by show _=List.map _ (List.map _ _);rw[map_map];rfl
       rw[hk2]at hc
       have hm:∀l∈(q::ps).map kt,l.length<=1536:=λl hl=>by
        obtain⟨x,hx,rfl⟩:=mem_map.mp hl;have h1:=Es (hp x hx);have h2:=hzp x hx
        lia
       obtain⟨y,hj⟩:=KI (k:=k+n) (c:=.lst (AJ ((q::ps).map kt))) (.inl rfl) hm (by rw[lM];simp only[lC]at hl ⊢;lia);rw[Wl,show k+n+1=k+1+n by lia]at hj
       have hcc:ev (A0 fns mt A1 (k + 1 + n)) mt (.call 11 [.comp (.nm 1) .op [.prim (.Cy true false) [.var 0,.cst (.int 1)]] [] (.call 12 [.var 1]) [none,none]]) [sP (.tup (.str (tx w)::q::ps))]= .ok (.p (.str (tx ([40]++(kt q++CZ ps)++[41])))) [sP (.tup (.str (tx w)::q::ps))]:=by
        refine ji ?_ hj;rw[B9,Fh,hc];rfl
       rw[LK];have h0:=(BU hw).2.1;have h1:=Es (hp q mS);have h2:=G5 (ps:=ps) λx hx=>hp x (mC hx)
       rw[Bx,AH]at hz;have a1:=BC (a:=w) (b:=[40]++(kt q++CZ ps)++[41]) (by unfold big;simp;lia);rw[show w++([40]++(kt q++CZ ps)++[41])=w++[40]++kt q++CZ ps++[41]by simp]at a1;have hlen:¬(((q::ps).length:Int)+1=1):=by simp;lia
       generalize w++[40]++kt q++CZ ps++[41]=z9 at a1 ⊢;generalize [40]++(kt q++CZ ps)++[41]=z8 at a1 hcc;clear hc hj;generalize q::ps=qs at hcc hlen ⊢
       suffices e:execs (A0 fns mt A1 (k+1+n)) mt A1 ZA [sP (.tup (.str (tx w)::qs))]= .ok (.ret (.p (.str (tx z9)))) [sP (.tup (.str (tx w)::qs))]from Ad aN rfl rfl e (by kernel_rfl)
       generalize tx w=x0 at hcc a1 ⊢;unfold ZA;simp! [eq_int,Ji,hlen,↓hcc,a1]
theorem FN:∀(n k:Nat) {p:Iv.P},Kd p->Dc p<=n->A0 fns mt A1 (k + n) 21 [.p p]= .ok (.p (.bl true)) [sP p]
 | 0,k,_,h,hn=>by
   cases h with
   |int m hm=>unfold Dc at hn;lia
   |tup w ps _ _ _=>unfold Dc at hn;lia
 | n + 1,k,_,h,hn=>by
   cases h with
   |int m hm=>
     suffices e:execs (A0 fns mt A1 (k+n)) mt A1 fk [sP (.int m)]= .ok (.ret (.p (.bl true))) [sP (.int m)]from Ad dW rfl rfl e (by kernel_rfl)
     have:(0:Int)<=(m:Int):=by lia
     generalize (m:Int)=i at this ⊢;unfold fk;simp! [this,Jx,O0]
   |tup w ps hw hl hp=>
     have hdp:∀x∈ps,Dc x<=n:=λx hx=>by
      have h1:Dc x<=Fx ps:=Ck hx;unfold Dc Kt at hn
      lia
     obtain⟨h1,h2,h3⟩:=BU hw;have hlw:=Dv (l:=w) (by unfold big;lia);have hbl:=Ii (cf:=A0 fns mt A1 (k+n)) (t:=.prim .idx [.var 0,.cst (.int 0)]) (h:=.AD (.p (.str (tx w)))) (l:=w) (ρ:=[sP (.tup (.str (tx w)::ps))]) (by simp! [Ji]) rfl (by unfold big;lia) (λc hc=>MP (h3 c hc));rw[all_eq_true.mpr h3]at hbl;have hc:=Gv (cf:=A0 fns mt A1 (k+n)) (f:=21) (x:=.str (tx w)) (r:=[]) (F:=λq=>.bl true) hl (λx hx=>FN n k (hp x hx) (hdp x hx));have hal:=all_map (xs:=ps) (F:=λ_=>true);rw[all_eq_true.mpr (λ_ _=>rfl)]at hal;have b1:=KL 1 4 ((ps.length:Int)+1);rw[decide_eq_true (show(1:Int)<=(ps.length:Int)+1 by lia),decide_eq_true (show(ps.length:Int)+1<=4 by lia)]at b1;have b2:=KL 1 8 (w.length:Int);rw[decide_eq_true (show(1:Int)<=(w.length:Int)by lia),decide_eq_true (show(w.length:Int)<=8 by lia)]at b2
     suffices e:execs (A0 fns mt A1 (k+n)) mt A1 fk [sP (.tup (.str (tx w)::ps))]= .ok (.ret (.p (.bl true))) [sP (.tup (.str (tx w)::ps))]from Ad dW rfl rfl e (by kernel_rfl)
     generalize w.length=lw at hlw b2;generalize (ps.map λ_=>Iv.P.bl true)=res at hc hal;generalize tx w=x at hlw hbl hc ⊢;unfold fk;simp! [Ji,hlw,b1,b2,↓hbl,↓hc,hal]
theorem DB(x:Int):GV (.int x) (.int x)=some true:=by rw[eq_int];simp
theorem DA(x:Str):GV (.str x) (.str x)=some true:=by rw[eq_str];simp
end Lk50
namespace Iv
open PySem
def cellAt(ns:List Int)(k:Nat):Int:=match ns[k]? with
 |some n=>n%10 ^ 30
 |none=>0
variable{j:Int}
theorem fd(h0:0 < j)(h1:j < 1073741824):HU i j=some (i/j):=by unfold HU;rw[iP ⟨h0,h1⟩]
theorem md(h0:0 < j):O5 i j=some (i%j):=by unfold O5;rw[iP h0]
end Iv
namespace Lk50
open Iv PySem
variable{k:Nat}
theorem Pz(ns:List Int):J5 (.b (.ro (ns.map .int)))=some (.p (.int ns.length)):=by
 show some (C.p (.int ((ns.map Iv.P.int).length:Nat)))=_;rw[lM]
theorem UX{ns:List Int}{j:Nat}:A0 fns mt A1 (k + 1) 13 [.b (.ro (ns.map .int)),.p (.int j)]= .ok (.p (.int (cellAt ns j))) [some (.b (.ro (ns.map .int))),sP (.int j)]:=by
 have hl:=Pz ns
 suffices e:execs (A0 fns mt A1 k) mt A1 gx [some (.b (.ro (ns.map .int))),sP (.int j)]= .ok (.ret (.p (.int (cellAt ns j)))) [some (.b (.ro (ns.map .int))),sP (.int j)]from Ad gp rfl rfl e (by kernel_rfl)
 by_cases h:j < ns.length
 .have hi:Dj (.b (.ro (ns.map .int))) (.b (.p (.int (j:Int))))=some (.p (.int ns[j])):=QU (l:=ns.map .int) (k:=j) (by rw[List.getElem?_map,List.getElem?_eq_getElem h];rfl);have hc:cellAt ns j=ns[j]%10 ^ 30:=by unfold cellAt;rw[List.getElem?_eq_getElem h]
  have h1:(j:Int) < (ns.length:Int):=by lia
  rw[hc];have m30:=md (i:=ns[j]) (show(0:Int) < 10 ^ 30 by decide);have p30:=cB;generalize (10:Int) ^ 30=T at m30 p30 ⊢;generalize ns[j]=v at hi m30 ⊢;generalize ns.map Iv.P.int=l at hl hi ⊢;generalize ns.length=m at hl h1;unfold gx;simp! [hl,h1,hi,p30,m30]
 .have hc:cellAt ns j=0:=by unfold cellAt;rw[List.getElem?_eq_none (by lia)]
  have h1:¬(j:Int) < (ns.length:Int):=by lia
  rw[hc];generalize ns.map Iv.P.int=l at hl ⊢;generalize ns.length=m at hl h1;unfold gx;simp! [hl,h1]
end Lk50
namespace Iv
open PySem
theorem Cg{gs:List (Nat×C)}{b:Env->Res Fl}{J:List P->Env->Prop}{all:List P}(hg:∀d ρ,J d ρ->holds gs ρ=true)(turn:∀d x r,d++x::r=all->∀ρ,J d ρ->∃ρ1 ρ2 fl,EM g x ρ=some ρ1/\b ρ1= .ok fl ρ2/\(fl= .nx\/fl= .cnt)/\J (d++[x]) ρ2):
 ∀(xs d:List P) (ρ:Env),d++xs=all->J d ρ->∃ρ',J all ρ'/\forL g gs b xs ρ= .ok .nx ρ'
 | [],d,ρ,e,h=>by
   rw[append_nil]at e;subst e;refine⟨ρ,h,?_⟩;show(if holds gs ρ then _ else _)=_;rw[hg _ _ h];rfl
 | x::xs,d,ρ,e,h=>by
   obtain⟨ρ1,ρ2,fl,e1,e2,hf,h2⟩:=turn d x xs e ρ h;obtain⟨ρ',q1,q2⟩:=Cg hg turn xs (d++[x]) ρ2 (by rw[append_assoc];exact e) h2;refine⟨ρ',q1,?_⟩;show(if holds gs ρ then(Res.of (EM g x ρ) ρ).bind _ else _)=_;rw[hg _ _ h,iP rfl,e1];show((b ρ1).bind _)=_;rw[e2,Res.A2];rcases hf with rfl|rfl
   .exact q2
   .exact q2
theorem eI{s:List Nat}{i:Int}(h0:0<=i)(h1:i<=s.length)(hb:s.length<=1000):D3 (.b (.p (.str (tx s)))) none (some i)=some (.p (.str (tx (s.take i.toNat)))):=by
 show(BY (tx s) none (some i)).map _=_;unfold BY;dsimp only;rw[AY,iP ⟨h0,h1,by unfold big;lia⟩];rfl
theorem eJ{s:List Nat}{i:Int}(h0:0<=i)(h1:i<=s.length)(hb:s.length<=1000):D3 (.b (.p (.str (tx s)))) (some i) none=some (.p (.str (tx (s.drop i.toNat)))):=by
 show(BY (tx s) (some i) none).map _=_;unfold BY;dsimp only;rw[AY,iP ⟨h0,by unfold big;lia⟩];rfl
def lets(b:Nat):List Nat:=(List.range 26).map (b + ·)
theorem MQ{b:Nat}{i:Int}(h0:0<=i)(h1:i < 26):Dj (.b (.p (.str (tx (lets b))))) (.b (.p (.int i)))=some (.p (.str (tx [b + i.toNat]))):=by
 obtain⟨j,rfl⟩:=Int.eq_ofNat_of_zero_le h0;exact Uv (l:=lets b) (k:=j) (c:=b+j) (by unfold lets;rw[List.getElem?_map,List.getElem?_range (by lia)];rfl) (by unfold lets big;simp)
theorem Yd{a:Int}(h: -(2 ^ 64) < a/\a < 2 ^ 64):mulC (.b (.p (.int a))) (.b (.p (.int j)))=some (.p (.int (a * j))):=by
 show(Qr a j).map _=_;unfold Qr;rw[iP (.inl h)];rfl
end Iv
namespace Lk50
open Iv PySem
variable{k:Nat}
theorem QA(c:Int):0<=c%26/\c%26 < 26:=⟨Int.emod_nonneg _ (by decide),Int.emod_lt_of_pos _ (by decide)⟩
theorem Wc(c:Int):low (97 + (c % 26).toNat)=true:=by
 have:=QA c;unfold low;simp
 lia
noncomputable def aW:List S:=[.asg (.nm 2) (.prim .add [.var 2,.prim .idx [.var 1,.prim .mod [.prim .fdiv [.var 0,.prim .add [.cst (.int 8),.prim .mul [.cst (.int 3),.var 3]]],.cst (.int 26)]]])]
theorem Zz:jw=[.asg (.nm 1) (.cst (.str ⟨#[97,98,99,100,101,102,103,104,105,106,107,108,109,110,111,112,113,114,115,116,117,118,119,120,121,122]⟩)),.asg (.nm 2) (.cst (.str ⟨#[]⟩)),.Ca (.nm 3) .BZ [.prim .mod [.var 0,.cst (.int 8)]] aW,.asg (.nm 4) (.prim .mod [.prim .fdiv [.var 0,.cst (.int 64)],.prim .add [.prim .len [.var 2],.cst (.int 1)]]),.ret (some (.comp (.nm 1) .BZ [.cst (.int 6)] [] (.prim .add [.prim .add [.prim (.Cy false true) [.var 5,.var 2],.prim .idx [.var 4,.prim .mod [.prim .add [.prim .fdiv [.var 3,.cst (.int 512)],.var 1],.cst (.int 26)]]],.prim (.Cy true false) [.var 5,.var 2]]) [none,none,some 4,some 0,some 1,some 2]))]:=rfl
variable{cf:CF}
theorem U1{j:Int}{s:List Nat}{y4:Option C}(h0:0<=j)(h1:j < 1000)(hs:s.length<=100):execs cf mt A1 aW [sP (.int c),sP (.str (tx (lets 97))),sP (.str (tx s)),sP (.int j),y4]= .ok .nx [sP (.int c),sP (.str (tx (lets 97))),sP (.str (tx (s++[97 + (c / (8 + 3 * j) % 26).toNat]))),sP (.int j),y4]:=by
 have hl:=QA (c/(8+3*j));have h2:=MQ (b:=97) hl.1 hl.2;have h3:=Yd (a:=3) (j:=j) (by decide);have h4:=fd (i:=c) (j:=8+3*j) (by lia) (by lia);have h5:=md (i:=c/(8+3*j)) (show(0:Int) < 26 by decide);have h6:=BC (a:=s) (b:=[97+(c/(8+3*j)%26).toNat]) (by unfold big;simp;lia);generalize s++[97+(c/(8+3*j)%26).toNat]=s' at h6 ⊢;generalize tx [97+(c/(8+3*j)%26).toNat]=u at h2 h6;generalize tx (lets 97)=z at h2 ⊢;unfold aW;simp! [h2,h3,h4,h5,h6]
noncomputable def Lp(s:List Nat)(i:Nat)(c:Int)(j:Nat):List Nat:=s.take i++[97+((c/512+j)%26).toNat]++s.drop i
theorem Xv{t:T}(ht:A8 cf mt [t] ρ= .ok [.AD (.p (.int n))] ρ)(hn:0<=n/\n<=1000):exec cf mt A1 (.Ca g .BZ [t] b) ρ=forL g [] (execs cf mt A1 b) (Af 0 n) ρ:=by
 rw[Fw];show(if IK.BZ.ok=true then(A8 cf mt [t] ρ).bind _ else _)=_;rw[iP (show IK.BZ.ok=true from rfl),ht,Res.A2];unfold Jk;rw[show A9 ρ [.AD (.p (.int n))]=some [.p (.int n)]from rfl];dsimp only
 have:Ap .BZ [.p (.int n)]=some (Af 0 n):=by
  show(if n.natAbs < 2 ^ 61 then _ else _)=_;rw[iP (by lia)]
 rw[this];rfl
theorem Nt{n:Int}{B:Iv.Env->Res Fl}{E:List Nat->Option C->Iv.Env}(hn:0<=n/\n < 1000)(hset:∀s y q,EM (.nm 3) q (E s y)=some (E s (some (.p q))))(turn:∀(j:Int) (s:List Nat),0<=j->j < n->s.length<=100->∃ch,low ch=true/\B (E s (some (.p (.int j))))= .ok .nx (E (s++[ch]) (some (.p (.int j)))))(hn2:n<=100):
 ∃s y,(s.length:Int)=n/\(∀ch∈s,low ch=true)/\forL (.nm 3) [] B (Af 0 n) (E [] none)= .ok .nx (E s y):=by
 obtain⟨ρ',⟨s,y,h1,h2,h3⟩,e⟩:=Cg (g:=.nm 3) (gs:=[]) (b:=B) (J:=λd ρ=>∃s y,s.length=d.length/\(∀ch∈s,low ch=true)/\ρ=E s y) (all:=Af 0 n) (λ_ _ _=>rfl) (λd q r e ρ ⟨s,y,h1,h2,h3⟩=>by
  subst h3;have hq:q∈Af 0 n:=by rw[<-e];simp
  have Bn:d.length<=100:=by
   have:=congrArg List.length e;rw[lA,Az]at this
   lia
  unfold Af at hq;obtain⟨j,hj,rfl⟩:=mem_map.mp hq;have hj:=mem_range.mp hj;obtain⟨ch,hch,ht⟩:=turn (0+(j:Int)) s (by lia) (by lia) (by lia);refine⟨_,_,.nx,hset s y _,ht,.inl rfl,s++[ch],_,by simp[h1],λx hx=>?_,rfl⟩;rcases mem_append.mp hx with z|z
  .exact h2 x z
  .rw[mE z];exact hch) (Af 0 n) [] (E [] none) rfl ⟨[],none,rfl,λ_ z=>(by cases z),rfl⟩
 refine⟨s,y,by rw[h1,Az];lia,h2,?_⟩;rw[e,h3]
theorem O3 :∃s i,s.length<=7/\(∀ch∈s,low ch=true)/\i<=s.length/\A0 fns mt A1 (k + 1) 14 [.p (.int c)]= .ok (.lst (AJ ((List.range 6).map (Lp s i c)))) [sP (.int c)]:=by
 have h8:0<=c%8/\c%8 < 8:=⟨Int.emod_nonneg _ (by decide),Int.emod_lt_of_pos _ (by decide)⟩;obtain⟨s,y3,hsl,hlow,hloop⟩:=Nt (n:=c%8) (B:=execs (A0 fns mt A1 k) mt A1 aW) (E:=λs y=>[sP (.int c),sP (.str (tx (lets 97))),sP (.str (tx s)),y,none]) (by lia) (λ_ _ _=>rfl) (λj s h0 h1 hs=>⟨_,Wc _,U1 h0 (by lia) hs⟩) (by lia);have hi:0<=c/64%((s.length:Int)+1)/\c/64%((s.length:Int)+1) < (s.length:Int)+1:=⟨Int.emod_nonneg _ (by lia),Int.emod_lt_of_pos _ (by lia)⟩;refine⟨s,(c/64%((s.length:Int)+1)).toNat,by lia,hlow,by lia,?_⟩
 have hfor:exec (A0 fns mt A1 k) mt A1 (.Ca (.nm 3) .BZ [.prim .mod [.var 0,.cst (.int 8)]] aW) [sP (.int c),sP (.str (tx (lets 97))),sP (.str (tx [])),none,none]= .ok .nx [sP (.int c),sP (.str (tx (lets 97))),sP (.str (tx s)),y3,none]:=
  (Xv (n:=c % 8) (by
   generalize tx (lets 97)=zz
   simp! [md (i:=c) (show(0:Int) < 8 by decide)]) (by lia)).trans hloop
 have hlen:=Dv (l:=s) (by unfold big;lia);have hf64:=fd (i:=c) (show(0:Int) < 64 by decide) (by decide);have hmd:=md (i:=c/64) (show(0:Int) < (s.length:Int)+1 by lia);have hcl:=eI hi.1 (by lia) (show s.length<=1000 by lia);have hch:=eJ hi.1 (by lia) (show s.length<=1000 by lia);generalize hI:c/64%((s.length:Int)+1)=i at hi hmd hcl hch ⊢
 have hcomp:ev (A0 fns mt A1 k) mt (.comp (.nm 1) .BZ [.cst (.int 6)] [] (.prim .add [.prim .add [.prim (.Cy false true) [.var 5,.var 2],.prim .idx [.var 4,.prim .mod [.prim .add [.prim .fdiv [.var 3,.cst (.int 512)],.var 1],.cst (.int 26)]]],.prim (.Cy true false) [.var 5,.var 2]]) [none,none,some 4,some 0,some 1,some 2]) [sP (.int c),sP (.str (tx (lets 97))),sP (.str (tx s)),y3,sP (.int i)]= .ok (.lst ((Af 0 6).map λq=>match q with| .int j=>.str (tx (Lp s i.toNat c j.toNat))|q=>q)) [sP (.int c),sP (.str (tx (lets 97))),sP (.str (tx s)),y3,sP (.int i)]:=by
  refine Ex (h:=.AD (.p (.int 6))) (c:=.p (.int 6)) (xs:=Af 0 6) (r:=[sP (.int i),sP (.int c),sP (.str (tx (lets 97))),sP (.str (tx s))]) rfl rfl rfl rfl rfl rfl (by rw[Az];unfold big;lia) rfl rfl (λ_=>rfl) λq hq=>?_
  unfold Af at hq;obtain⟨j,hj,rfl⟩:=mem_map.mp hq;rw[show(0:Int)+(j:Int)=(j:Int)by lia];have hl:=QA (c/512+(j:Int));have h2:=MQ (b:=97) hl.1 hl.2;have h4:=fd (i:=c) (show(0:Int) < 512 by decide) (by decide);have h5:=md (i:=c/512+(j:Int)) (show(0:Int) < 26 by decide);have h6:=BC (a:=s.take i.toNat) (b:=[97+((c/512+(j:Int))%26).toNat]) (by unfold big;simp;lia);have h7:=BC (a:=s.take i.toNat++[97+((c/512+(j:Int))%26).toNat]) (b:=s.drop i.toNat) (by unfold big;simp;lia);show _=Res.ok (C.p (.str (tx (Lp s i.toNat c j)))) _;unfold Lp;generalize s.take i.toNat++[97+((c/512+(j:Int))%26).toNat]++s.drop i.toNat=z3 at h7 ⊢;generalize tx (s.take i.toNat++[97+((c/512+(j:Int))%26).toNat])=z2 at h6 h7;generalize tx [97+((c/512+(j:Int))%26).toNat]=u at h2 h6;generalize tx (s.take i.toNat)=z0 at hcl h6;generalize tx (s.drop i.toNat)=z1 at hch h7;generalize tx (lets 97)=zz at h2 ⊢;generalize tx s=sx at hcl hch ⊢;simp! [h2,h4,h5,h6,h7,hcl,hch]
 have hmm:(Af 0 6).map (λq=>match q with| .int j=>Iv.P.str (tx (Lp s i.toNat c j.toNat))|q=>q)=AJ ((List.range 6).map (Lp s i.toNat c)):=by
  show _=((List.range 6).map (Lp s i.toNat c)).map _;unfold Af;rw[map_map,map_map]
  exact map_congr_left λj _=>by
   show Iv.P.str (tx (Lp s i.toNat c (0+(j:Int)).toNat))=_;rw[show(0+(j:Int)).toNat=j by lia];rfl
 rw[hmm]at hcomp;generalize AJ ((List.range 6).map (Lp s i.toNat c))=res at hcomp ⊢
 have e:execs (A0 fns mt A1 k) mt A1 jw [sP (.int c),none,none,none,none]= .ok (.ret (.lst res)) [sP (.int c),sP (.str (tx (lets 97))),sP (.str (tx s)),y3,sP (.int i)]:=by
  rw[Zz];have hz:(⟨#[97,98,99,100,101,102,103,104,105,106,107,108,109,110,111,112,113,114,115,116,117,118,119,120,121,122]⟩:Str)=tx (lets 97):=by kernel_rfl
  rw[hz];generalize tx (lets 97)=zz at hfor hcomp ⊢;generalize tx s=sx at hfor hcomp hlen ⊢;generalize s.length=m1 at hlen hmd;simp! [↓hfor,hlen,hf64,hmd,↓hcomp]
 exact Ad gn rfl rfl e (by kernel_rfl)
end Lk50
namespace Lk50
open Iv PySem
variable{k:Nat}
theorem Ya{s:List Nat}{i:Nat}(hs:s.length<=7)(hl:∀ch∈s,low ch=true)(hi:i<=s.length):∀l∈(List.range 6).map (Lp s i c),IU l=true:=by
 intro l hm
 .obtain⟨j,_,rfl⟩:=mem_map.mp hm;unfold IU;rw[bA,bA];refine⟨⟨decide_eq_true (by unfold Lp;simp;lia),decide_eq_true (by unfold Lp;simp;lia)⟩,all_eq_true.mpr λx hx=>?_⟩;unfold Lp at hx;rcases mem_append.mp hx with z|z
  .rcases mem_append.mp z with z|z
   .exact hl x (List.mem_of_mem_take z)
   .rw[mE z];exact Wc _
  .exact hl x (List.mem_of_mem_drop z)
inductive Sm:Nat->Iv.P->Prop where
 |int {d:Nat} (i:Int):Sm (d+1) (.int i)
 |str {d:Nat} (x:Str):Sm (d+1) (.str x)
 |tup {d:Nat} (ps:List Iv.P) (h:∀q∈ps,Sm d q) (hl:ps.length<=1000):Sm (d+1) (.tup ps)
theorem Kd.sm:∀(n:Nat) {p:Iv.P},Kd p->Dc p<=n->Sm (n + 1) p
 | 0,_,h,hn=>by
   cases h with
   |int m hm=>exact .int _
   |tup w ps _ _ _=>unfold Dc at hn;lia
 | n + 1,_,h,hn=>by
   cases h with
   |int m hm=>exact .int _
   |tup w ps hw hl hp=>
     refine .tup _ (λq hq=>?_) (by simp only[lC];lia);rcases mK hq with z|z
     .rw[z];exact .str _
     .refine Kd.sm n (hp q z) ?_;have h1:Dc q<=Fx ps:=Ck z;unfold Dc Kt at hn
      lia
theorem T5:∀(d:Nat) {p:Iv.P},Sm d p->A0 fns mt A1 (k + d) 16 [.p p,.p p]= .ok (.p (.bl true)) [sP p,sP p]:=by
 intro d
 induction d with
 |zero=>intro p h;cases h
 |succ d ih=>
   intro p h
   suffices e:execs (A0 fns mt A1 (k+d)) mt A1 fo [sP p,sP p]= .ok (.ret (.p (.bl true))) [sP p,sP p]from Ad gk rfl rfl e (by kernel_rfl)
   cases h with
   |int i=>
     unfold fo;simp! [DB,Jx,O0]
   |str x=>
     unfold fo;simp! [DA,Jx]
   |tup ps hps hl=>
     have hna:(ps.length:Int).natAbs < 2 ^ 61:=by simp;lia
     have hb:ev (A0 fns mt A1 (k + d)) mt (.comp (.nm 1) .BZ [.prim .len [.var 1]] [] (.call 16 [.prim .idx [.var 3,.var 1],.prim .idx [.var 2,.var 1]]) [none,none,some 1,some 0]) [sP (.tup ps),sP (.tup ps)]= .ok (.lst ((Af 0 ps.length).map λ_=>.bl true)) [sP (.tup ps),sP (.tup ps)]:=by
      refine Ex (h:=.AD (.p (.int ps.length))) (c:=.p (.int ps.length)) (xs:=Af 0 ps.length) (r:=[sP (.tup ps),sP (.tup ps)]) rfl (by simp! []) rfl rfl rfl (by show(if _ then _ else _)=_;rw[iP hna]) (by rw[Az];unfold big;lia) rfl rfl (λ_=>rfl) λq hq=>?_
      unfold Af at hq;obtain⟨j,hj,rfl⟩:=mem_map.mp hq;have hj:=mem_range.mp hj;have hjl:j < ps.length:=by lia
      rw[show(0:Int)+(j:Int)=(j:Int)by lia];have hi:=MV (l:=ps) (k:=j) (p:=ps[j]) (List.getElem?_eq_getElem hjl);have h16:=ih (hps ps[j] (getElem_mem hjl));have ha:A8 (A0 fns mt A1 (k+d)) mt [.prim .idx [.var 3,.var 1],.prim .idx [.var 2,.var 1]] [none,sP (.int j),sP (.tup ps),sP (.tup ps)]= .ok [.AD (.p ps[j]),.AD (.p ps[j])] [none,sP (.int j),sP (.tup ps),sP (.tup ps)]:=by simp! [hi]
      rw[BV,ha];exact DF (hs:=[.AD (.p ps[j]),.AD (.p ps[j])]) (cs:=[.p ps[j],.p ps[j]]) rfl (λc hc=>by rcases mK hc with z|z;(· rw[z];rfl);(· rw[mE z];rfl)) h16 rfl
     have hbc:ev (A0 fns mt A1 (k + d)) mt (.prim .all [.comp (.nm 1) .BZ [.prim .len [.var 1]] [] (.call 16 [.prim .idx [.var 3,.var 1],.prim .idx [.var 2,.var 1]]) [none,none,some 1,some 0]]) [sP (.tup ps),sP (.tup ps)]= .ok (.p (.bl true)) [sP (.tup ps),sP (.tup ps)]:=by
      rw[He,B9,Fh,hb];show Res.of (Md (.b (.lst _))) _=_;rw[all_map (F:=λ_=>true)];simp
     unfold fo;simp! [↓hbc,DB]
variable{cf:CF}
theorem M3{i f c g e:Nat}{ts:List T}(ρ:Iv.Env):exec cf mt A1 (.SG i f ts c g e) ρ=if mt.rs && ts.all T.calm then(A8 cf mt ts ρ).bind (KD cf i f c g e)else .stuck:=rfl
theorem Kf{o:Option Iv.P}(h:match o with|some q=>cf 9 [.p p]= .ok (.p q) [sP p]|none=>cf 9 [.p p]= .err 4 .Ai):
 exec cf mt A1 (.SG 1 9 [.var 0] 4 2 3) [sP p,sP .Ai,sP (.bl true),none]= .ok .nx [sP p,sP (o.getD .Ai),sP (.bl true),none]:=by
 rw[M3,iP (show(mt.rs && [T.var 0].all T.calm)=true by kernel_rfl)];have hd:A8 cf mt [.var 0] [sP p,sP .Ai,sP (.bl true),none]= .ok [.slot 0] [sP p,sP .Ai,sP (.bl true),none]:=rfl;rw[hd,Res.A2];unfold KD;rw[show A9 [sP p,sP .Ai,sP (.bl true),none] [.slot 0]=some [.p p]from rfl];dsimp only;rw[iP ⟨by show([]:List Nat).Nodup;exact .nil,rfl⟩];cases o with
 |none=>dsimp only at h;rw[h];rfl
 |some q=>dsimp only at h;rw[h];rfl
theorem Dw{o:Option Iv.P}(h:match o with|some q=>A0 fns mt A1 k 9 [.p p]= .ok (.p q) [sP p]|none=>A0 fns mt A1 k 9 [.p p]= .err 4 .Ai):
 A0 fns mt A1 (k+1) 20 [.p p]= .ok (.p (.tup [.bl true,o.getD .Ai])) [sP p]:=by
 have h1:=Kf h
 suffices e:execs (A0 fns mt A1 k) mt A1 ju [sP p,none,none,none]= .ok (.ret (.p (.tup [.bl true,o.getD .Ai]))) [sP p,sP (o.getD .Ai),sP (.bl true),none]from Ad gj rfl rfl e (by kernel_rfl)
 unfold ju;simp! [↓h1]
theorem jf{s:List Nat}{i:Int}(h0:0<=i)(h1:i<=s.length)(hb:s.length<=2000):D3 (.b (.p (.str (tx s)))) none (some i)=some (.p (.str (tx (s.take i.toNat)))):=by
 show(BY (tx s) none (some i)).map _=_;unfold BY;dsimp only;rw[AY,iP ⟨h0,h1,by unfold big;lia⟩];rfl
theorem eK{s:List Nat}{i:Int}(h0:0<=i)(hb:s.length<=2000):D3 (.b (.p (.str (tx s)))) (some i) none=some (.p (.str (tx (s.drop i.toNat)))):=by
 show(BY (tx s) (some i) none).map _=_;unfold BY;dsimp only;rw[AY,iP ⟨h0,by unfold big;lia⟩];rfl
def Pu:List Nat:=[40,41,44,32,59,58,91,93,45,48,49,50,97,98,122,65,89,90,32,61,9]
theorem Nv{s:List Nat}(hs:s.length<=2000):∃t:List Nat,t.length<=s.length + 1/\A0 fns mt A1 (k + 1) 19 [.p (.str (tx s)),.p (.int c)]= .ok (.p (.str (tx t))) [sP (.str (tx s)),sP (.int c)]:=by
 have hi:0<=c/3%((s.length:Int)+1)/\c/3%((s.length:Int)+1) < (s.length:Int)+1:=⟨Int.emod_nonneg _ (by lia),Int.emod_lt_of_pos _ (by lia)⟩;have hj:0<=c/3000%21/\c/3000%21 < 21:=⟨Int.emod_nonneg _ (by decide),Int.emod_lt_of_pos _ (by decide)⟩;have hlen:=Dv (l:=s) (by unfold big;lia);have d3:=fd (i:=c) (show(0:Int) < 3 by decide) (by decide);have d3k:=fd (i:=c) (show(0:Int) < 3000 by decide) (by decide);have m3:=md (i:=c) (show(0:Int) < 3 by decide);have m21:=md (i:=c/3000) (show(0:Int) < 21 by decide);have ml:=md (i:=c/3) (show(0:Int) < (s.length:Int)+1 by lia)
 obtain⟨ch,hch⟩:∃ch,Dj (.b (.p (.str (tx Pu)))) (.b (.p (.int (c / 3000 % 21))))=some (.p (.str (tx [ch]))):=by
  obtain⟨j,hj2⟩:=Int.eq_ofNat_of_zero_le hj.1;rw[hj2]at hj ⊢;have:j < Pu.length:=by show j < 21;lia
  exact⟨Pu[j],Uv (l:=Pu) (k:=j) (List.getElem?_eq_getElem this) (by decide)⟩
 generalize c/3%((s.length:Int)+1)=i at hi ml;generalize c/3000%21=j at hj m21 hch;have c1:=jf hi.1 (by lia) hs;have c2:=eK (s:=s) hi.1 hs;have c3:=eK (s:=s) (i:=i+1) (by lia) hs;have hz:(⟨#[40,41,44,32,59,58,91,93,45,48,49,50,97,98,122,65,89,90,32,61,9]⟩:Str)=tx Pu:=rfl;have l1:(s.take i.toNat).length<=s.length:=by simp;lia
 have l2:(s.take i.toNat).length+(s.drop i.toNat).length<=s.length:=by simp;lia
 have l3:(s.take i.toNat).length+(s.drop (i+1).toNat).length<=s.length:=by simp;lia
 generalize s.take i.toNat=t1 at c1 l1 l2 l3;generalize s.drop i.toNat=t2 at c2 l2;generalize s.drop (i+1).toNat=t3 at c3 l3;have a1:=BC (a:=t1) (b:=t3) (by unfold big;lia);have a2:=BC (a:=t1) (b:=[ch]) (by unfold big;simp;lia);have a3:=BC (a:=t1++[ch]) (b:=t2) (by unfold big;simp;lia);have a4:=BC (a:=t1++[ch]) (b:=t3) (by unfold big;simp;lia)
 by_cases q0:c%3=0
 .refine⟨t1++t3,by simp;lia,?_⟩
  suffices e:execs (A0 fns mt A1 k) mt A1 Zw [sP (.str (tx s)),sP (.int c),none,none,none]= .ok (.ret (.p (.str (tx (t1++t3))))) [sP (.str (tx s)),sP (.int c),sP (.str (tx Pu)),sP (.int i),sP (.str (tx [ch]))]from Ad aL rfl rfl e (by kernel_rfl)
  unfold Zw;rw[hz];have e0:GV (.int (c%3)) (.int 0)=some true:=by rw[eq_int];exact congrArg some (decide_eq_true q0)
  generalize tx (t1++t3)=z3 at a1 ⊢;generalize tx [ch]=u at hch ⊢;generalize tx Pu=zz at hch ⊢;generalize s.length=n at hlen ml;generalize tx s=x at hlen c1 c3 ⊢;simp! [hlen,d3,d3k,m3,m21,ml,hch,e0,c1,c3,a1]
 .have e0:GV (.int (c%3)) (.int 0)=some false:=by rw[eq_int];exact congrArg some (dF q0)
  by_cases q1:c%3=1
  .refine⟨t1++[ch]++t2,by simp;lia,?_⟩
   suffices e:execs (A0 fns mt A1 k) mt A1 Zw [sP (.str (tx s)),sP (.int c),none,none,none]= .ok (.ret (.p (.str (tx (t1++[ch]++t2))))) [sP (.str (tx s)),sP (.int c),sP (.str (tx Pu)),sP (.int i),sP (.str (tx [ch]))]from Ad aL rfl rfl e (by kernel_rfl)
   unfold Zw;rw[hz];have e1:GV (.int (c%3)) (.int 1)=some true:=by rw[eq_int];exact congrArg some (decide_eq_true q1)
   generalize tx (t1++[ch]++t2)=z3 at a3 ⊢;generalize tx (t1++[ch])=z2 at a2 a3;generalize tx [ch]=u at hch a2 ⊢;generalize tx Pu=zz at hch ⊢;generalize s.length=n at hlen ml;generalize tx s=x at hlen c1 c2 ⊢;simp! [hlen,d3,d3k,m3,m21,ml,hch,e0,e1,c1,c2,a2,a3]
  .refine⟨t1++[ch]++t3,by simp;lia,?_⟩
   suffices e:execs (A0 fns mt A1 k) mt A1 Zw [sP (.str (tx s)),sP (.int c),none,none,none]= .ok (.ret (.p (.str (tx (t1++[ch]++t3))))) [sP (.str (tx s)),sP (.int c),sP (.str (tx Pu)),sP (.int i),sP (.str (tx [ch]))]from Ad aL rfl rfl e (by kernel_rfl)
   unfold Zw;rw[hz];have e1:GV (.int (c%3)) (.int 1)=some false:=by rw[eq_int];exact congrArg some (dF q1)
   generalize tx (t1++[ch]++t3)=z3 at a4 ⊢;generalize tx (t1++[ch])=z2 at a2 a4;generalize tx [ch]=u at hch a2 ⊢;generalize tx Pu=zz at hch ⊢;generalize s.length=n at hlen ml;generalize tx s=x at hlen c1 c3 ⊢;simp! [hlen,d3,d3k,m3,m21,ml,hch,e0,e1,c1,c3,a2,a4]
end Lk50
namespace Iv
open PySem
variable{cf:CF}{mt:MT}
theorem V1{f:Nat}{t u:T}{h h':Hd}{y y':Option C}(ha:A8 cf mt [t,u] ρ= .ok [h,h'] ρ)(hc:h.cont ρ=some (.p p))(hc':h'.cont ρ=some (.p q))(e:cf f [.p p,.p q]= .ok z [y,y']):ev cf mt (.call f [t,u]) ρ= .ok z ρ:=by
 rw[BV,ha];exact DF (cs:=[.p p,.p q]) (by show((h.cont ρ).bind λc=>(((h'.cont ρ).bind λc=>_)).map _)=_;rw[hc,hc'];rfl) (λc hc=>by rcases mK hc with z|z;(· rw[z];rfl);(· rw[mE z];rfl)) e rfl
theorem WJ{i j:Nat}{f:Nat}{ts:List T}{a b:P}{ρ:Env}(e:ev cf mt (.call f ts) ρ= .ok (.p (.tup [a,b])) ρ):exec cf mt A1 (.asg (.tup [i,j]) (.call f ts)) ρ= .ok .nx ((ρ.set i (some (.p a))).set j (some (.p b))):=by
 show((Bn (.call f ts) (ev cf mt (.call f ts)) ρ).bind λh ρ=>Res.of ((h.cont ρ).bind λc=>Hw (.tup [i,j]) c ρ) ρ |>.bind λρ' _=>Res.ok Fl.nx ρ')=_;rw[Hc,e];rfl
theorem Kr{g:Tg}{i:Nat}{xs:List P}(hs:A6 ρ i=some (.lst xs))(hg:(!(g.slots++B8 b).contains i)=true):exec cf mt A1 (.Ca g .op [.var i] b) ρ=forL g [(i,.lst xs)] (execs cf mt A1 b) xs ρ:=by
 rw[Fw];show(if IK.op.ok=true then(A8 cf mt [.var i] ρ).bind _ else _)=_;have hd:A8 cf mt [.var i] ρ= .ok [.slot i] ρ:=by rw[B9,JC,hs];rfl
 rw[iP (show IK.op.ok=true from rfl),hd,Res.A2];unfold Jk;rw[show A9 ρ [.slot i]=some [.lst xs]by show((A6 ρ i).bind λc=>_)=_;rw[hs];rfl];dsimp only;rw[show Ap .op [.lst xs]=some xs from rfl];dsimp only;rw[show guards [.slot i] [.lst xs]=[(i,.lst xs)]from rfl,show An [.slot i] [.lst xs]=true from rfl];rw[iP (by simpa using hg)]
end Iv
namespace Lk50
open Iv PySem
variable{k:Nat}
noncomputable def ay:List S:=[.asg (.nm 5) (.call 19 [.var 2,.var 4]),.asg (.tup [6,7]) (.call 20 [.var 5]),.ifs (.or (.not (.var 6)) (.and (.prim .Sz [.var 7,.cst (.Ai)]) (.or (.not (.call 21 [.var 7])) (.prim .ne [.call 18 [.var 7],.var 5])))) [.ret (some (.cst (.bl false)))] []]
theorem Zv:jt=[.asg (.nm 2) (.call 18 [.var 0]),.asg (.nm 3) (.call 12 [.var 0]),.ifs (.or (.not (.prim (.Ft .str) [.var 3])) (.or (.prim .ne [.var 3,.var 2]) (.not (.call 16 [.call 9 [.var 2],.var 0])))) [.ret (some (.cst (.bl false)))] [],.Ca (.nm 4) .op [.var 1] ay,.ret (some (.call 16 [.call 9 [.var 2],.var 0]))]:=rfl
variable{x0 x1 x3 y7:Option C}
theorem WY{s:List Nat}{y5 y6:Option C}(hs:s.length<=2000):∃y5' y6' y7',execs (A0 fns mt A1 (k + 76)) mt A1 ay [x0,x1,sP (.str (tx s)),x3,sP (.int c),y5,y6,y7]= .ok .nx [x0,x1,sP (.str (tx s)),x3,sP (.int c),y5',y6',y7']:=by
 obtain⟨t,ht,h19⟩:=Nv (k:=k+75) (c:=c) hs;have h1:ev (A0 fns mt A1 (k+76)) mt (.call 19 [.var 2,.var 4]) [x0,x1,sP (.str (tx s)),x3,sP (.int c),y5,y6,y7]= .ok (.p (.str (tx t))) [x0,x1,sP (.str (tx s)),x3,sP (.int c),y5,y6,y7]:=V1 (h:=.slot 2) (h':=.slot 4) rfl rfl rfl h19
 have h20:=Dw (k:=k + 75) (p:=.str (tx t)) (o:=NH t) (by
  have:=IG (k:=k) (s:=t) (by lia);cases e:NH t with
  |none=>rw[e]at this;exact this
  |some q=>rw[e]at this;exact this)
 have h2:exec (A0 fns mt A1 (k+76)) mt A1 (.asg (.tup [6,7]) (.call 20 [.var 5])) [x0,x1,sP (.str (tx s)),x3,sP (.int c),sP (.str (tx t)),y6,y7]= .ok .nx [x0,x1,sP (.str (tx s)),x3,sP (.int c),sP (.str (tx t)),sP (.bl true),sP ((NH t).getD .Ai)]:=WJ (Ho (h:=.slot 5) rfl rfl h20);refine⟨some (.p (.str (tx t))),sP (.bl true),sP ((NH t).getD .Ai),?_⟩;cases e:NH t with
 |none=>
   rw[e]at h2;show _=Res.ok Fl.nx [x0,x1,sP (.str (tx s)),x3,sP (.int c),sP (.str (tx t)),sP (.bl true),sP .Ai];replace h2:_=Res.ok Fl.nx [x0,x1,sP (.str (tx s)),x3,sP (.int c),sP (.str (tx t)),sP (.bl true),sP .Ai]:=h2;generalize tx t=zt at h1 h2 ⊢;generalize tx s=zs at h1 h2 ⊢;unfold ay;simp! [↓h1,↓h2]
 |some q=>
   rw[e]at h2;obtain⟨hk,hkt,hz⟩:=Xz (by lia) e;show _=Res.ok Fl.nx [x0,x1,sP (.str (tx s)),x3,sP (.int c),sP (.str (tx t)),sP (.bl true),sP q];replace h2:_=Res.ok Fl.nx [x0,x1,sP (.str (tx s)),x3,sP (.int c),sP (.str (tx t)),sP (.bl true),sP q]:=h2;have hd:=Nat.le_trans (F5 hk) hz;have t21:=FN 24 (k+52) hk hd;have t18:=Iw 24 (k+52) hk hd hz;rw[<-hkt]at t18;have h3:ev (A0 fns mt A1 (k+76)) mt (.call 21 [.var 7]) [x0,x1,sP (.str (tx s)),x3,sP (.int c),sP (.str (tx t)),sP (.bl true),sP q]= .ok (.p (.bl true)) [x0,x1,sP (.str (tx s)),x3,sP (.int c),sP (.str (tx t)),sP (.bl true),sP q]:=Ho (h:=.slot 7) rfl rfl t21;have h4:ev (A0 fns mt A1 (k+76)) mt (.call 18 [.var 7]) [x0,x1,sP (.str (tx s)),x3,sP (.int c),sP (.str (tx t)),sP (.bl true),sP q]= .ok (.p (.str (tx t))) [x0,x1,sP (.str (tx s)),x3,sP (.int c),sP (.str (tx t)),sP (.bl true),sP q]:=Ho (h:=.slot 7) rfl rfl t18;have hq:¬(C.b (.p q)=C.b (.p .Ai)):=λz=>by cases hk<;>cases z
   generalize tx t=zt at h1 h2 h3 h4 ⊢;generalize tx s=zs at h1 h2 h3 h4 ⊢;unfold ay;simp! [↓h1,↓h2,↓h3,↓h4,hq,DA]
theorem PB(hp:Kd p)(hz:Dh p<=24)(l:List Int):A0 fns mt A1 (k + 77) 22 [.p p,.lst (l.map .int)]= .ok (.p (.bl true)) [sP p,sL (l.map .int)]:=by
 have hd:=Nat.le_trans (F5 hp) hz;have hlen:(kt p).length<=2000:=by have:=Es hp;lia
 have t18:=Iw 24 (k+52) hp hd hz;have t12:=Mv 24 (k+51) hp hd hz;have t9:=IG (k:=k+1) (s:=kt p) (by lia);rw[PH hp hz]at t9;replace t9:A0 fns mt A1 (k+76) 9 [.p (.str (tx (kt p)))]= .ok (.p p) [sP (.str (tx (kt p)))]:=t9;have P2:=T5 (k:=k+51) 25 (hp.sm 24 hd);have s1:ev (A0 fns mt A1 (k+76)) mt (.call 18 [.var 0]) [sP p,sL (l.map .int),none,none,none,none,none,none]= .ok (.p (.str (tx (kt p)))) [sP p,sL (l.map .int),none,none,none,none,none,none]:=KG t18;have s2:ev (A0 fns mt A1 (k+76)) mt (.call 12 [.var 0]) [sP p,sL (l.map .int),sP (.str (tx (kt p))),none,none,none,none,none]= .ok (.p (.str (tx (kt p)))) [sP p,sL (l.map .int),sP (.str (tx (kt p))),none,none,none,none,none]:=KG t12
 have s3:∀x1 x3 r,ev (A0 fns mt A1 (k + 76)) mt (.call 16 [.call 9 [.var 2],.var 0]) (some (.p p)::x1::some (.p (.str (tx (kt p))))::x3::r)= .ok (.p (.bl true)) (some (.p p)::x1::some (.p (.str (tx (kt p))))::x3::r):=λx1 x3 r=>by
  have h9:ev (A0 fns mt A1 (k+76)) mt (.call 9 [.var 2]) (some (.p p)::x1::some (.p (.str (tx (kt p))))::x3::r)= .ok (.p p) (some (.p p)::x1::some (.p (.str (tx (kt p))))::x3::r):=WC t9;refine V1 (h:=.AD (.p p)) (h':=.slot 0) ?_ rfl rfl P2;simp! [↓h9]
 obtain⟨ρ',⟨y4,y5,y6,y7,hρ⟩,hfor⟩:=Cg (g:=.nm 4) (gs:=[(1,.lst (l.map .int))]) (b:=execs (A0 fns mt A1 (k + 76)) mt A1 ay) (J:=λd ρ=>∃y4 y5 y6 y7,ρ=[sP p,sL (l.map .int),sP (.str (tx (kt p))),sP (.str (tx (kt p))),y4,y5,y6,y7]) (all:=l.map .int) (λd ρ ⟨_,_,_,_,h⟩=>by
  rw[h];show(decide (some (C.lst (l.map .int))=some (C.lst (l.map .int))) && true)=true;simp) (λd q r e ρ ⟨y4,y5,y6,y7,h⟩=>by
  subst h;have hq:q∈l.map Iv.P.int:=by rw[<-e];simp
  obtain⟨c,_,rfl⟩:=mem_map.mp hq;obtain⟨z5,z6,z7,ht⟩:=WY (k:=k) (c:=c) (x0:=some (.p p)) (x1:=some (.lst (l.map .int))) (x3:=some (.p (.str (tx (kt p))))) (y5:=y5) (y6:=y6) (y7:=y7) hlen
  exact⟨_,_,.nx,rfl,ht,.inl rfl,_,_,_,_,rfl⟩) (l.map .int) [] [sP p,sL (l.map .int),sP (.str (tx (kt p))),sP (.str (tx (kt p))),none,none,none,none] rfl ⟨_,_,_,_,rfl⟩
 subst hρ;have hf:=(Kr (cf:=A0 fns mt A1 (k+76)) (mt:=mt) (g:=.nm 4) (b:=ay) (i:=1) (xs:=l.map .int) (ρ:=[sP p,sL (l.map .int),sP (.str (tx (kt p))),sP (.str (tx (kt p))),none,none,none,none]) rfl (by decide)).trans hfor
 suffices e:execs (A0 fns mt A1 (k+76)) mt A1 jt [sP p,sL (l.map .int),none,none,none,none,none,none]= .ok (.ret (.p (.bl true))) [sP p,sL (l.map .int),sP (.str (tx (kt p))),sP (.str (tx (kt p))),y4,y5,y6,y7]from Ad gh rfl rfl e (by kernel_rfl)
 rw[Zv];generalize tx (kt p)=z at s1 s2 s3 hf ⊢;generalize l.map Iv.P.int=xs at s1 s2 s3 hf ⊢;simp! [↓s1,↓s2,↓s3,↓hf,DA]
theorem Xq(a b c:C):As .Ot [a,b,c]=LY a b c:=rfl
abbrev bx(a:Int):Iv.P:=.box 1 [.int 1,.int a,.int 5,.int 99]
theorem JQ{F:Iv.P->Iv.P}:∀{ps:List Iv.P},(∀q∈ps,Dh (F q)=Dh q)->BE (ps.map F)=BE ps
 |[],_=>rfl
 | q::ps,h=>by
   rw[map_cons,AH,AH,h q mS,JQ λx hx=>h x (mC hx)]
theorem PL{a:Nat}(ha:a < 10 ^ 60):∀(n k:Nat) {p:Iv.P},Kd p->Dc p<=n->∃p',Kd p'/\Dh p'=Dh p/\A0 fns mt A1 (k + n) 17 [.p p,.p (bx a)]= .ok (.p p') [sP p,sP (bx a)]
 | 0,k,_,h,hn=>by
   cases h with
   |int m hm=>unfold Dc at hn;lia
   |tup w ps _ _ _=>unfold Dc at hn;lia
 | n + 1,k,_,h,hn=>by
   cases h with
   |int m hm=>
     obtain⟨m',hm',hg⟩:∃m':Nat,m' < 10 ^ 60/\LY (.b (.p (bx a))) (.b (.p (.int m))) (.b (.p (.int m)))=some (.p (.int m')):=by
      show ∃m':Nat,m' < 10 ^ 60/\(if(1:Int)=5 then none else some (C.p (if(m:Int)=1 then .int a else if(m:Int)=5 then .int 99 else .int m)))=_;rw[iN (by decide)]
      by_cases h1:(m:Int)=1
      .exact⟨a,ha,by rw[iP h1]⟩
      .by_cases h5:(m:Int)=5
       .exact⟨99,by decide,by rw[iN h1,iP h5];rfl⟩
       .exact⟨m,hm,by rw[iN h1,iN h5]⟩
     refine⟨.int m',.int _ hm',by rw[EL,EL],?_⟩
     suffices e:execs (A0 fns mt A1 (k+n)) mt A1 fm [sP (.int m),sP (bx a)]= .ok (.ret (.p (.int m'))) [sP (.int m),sP (bx a)]from Ad dX rfl rfl e (by kernel_rfl)
     generalize bx a=B at hg ⊢;generalize (m:Int)=i at hg ⊢;generalize (m':Int)=i' at hg ⊢;unfold fm;simp! [Xq,hg]
   |tup w ps hw hl hp=>
     have hdp:∀x∈ps,Dc x<=n:=λx hx=>by
      have h1:Dc x<=Fx ps:=Ck hx;unfold Dc Kt at hn
      lia
     have H:∀q (hq:q∈ps),∃p',Kd p'/\Dh p'=Dh q/\A0 fns mt A1 (k+n) 17 [.p q,.p (bx a)]= .ok (.p p') [sP q,sP (bx a)]:=λq hq=>PL ha n k (hp q hq) (hdp q hq)
     obtain⟨F,hF⟩:∃F:Iv.P->Iv.P,∀q∈ps,Kd (F q)/\Dh (F q)=Dh q/\A0 fns mt A1 (k + n) 17 [.p q,.p (bx a)]= .ok (.p (F q)) [sP q,sP (bx a)]:=
      ⟨λq=>open Classical in if h:q∈ps then Classical.choose (H q h)else q,λq hq=>by dsimp only;rw[dif_pos hq];exact Classical.choose_spec (H q hq)⟩
     refine⟨.tup (.str (tx w)::ps.map F),.tup w (ps.map F) hw (by rw[lM];exact hl) (λq hq=>by obtain⟨x,hx,rfl⟩:=mem_map.mp hq;exact(hF x hx).1),by rw[Bx,Bx,JQ λq hq=>(hF q hq).2.1],?_⟩;have hcut:=Z4 (.str (tx w)) ps
     have hc:ev (A0 fns mt A1 (k + n)) mt (.comp (.nm 1) .op [.prim (.Cy true false) [.var 0,.cst (.int 1)]] [] (.call 17 [.var 1,.var 2]) [none,none,some 1]) [sP (.tup (.str (tx w)::ps)),sP (bx a)]= .ok (.lst (ps.map F)) [sP (.tup (.str (tx w)::ps)),sP (bx a)]:=by
      refine Ex (h:=.AD (.p (.tup ps))) (c:=.p (.tup ps)) (xs:=ps) (r:=[sP (bx a)]) rfl ?_ rfl rfl rfl rfl (by unfold big;lia) rfl rfl (λ_=>rfl) λq hq=>V1 (h:=.slot 1) (h':=.slot 2) rfl rfl rfl (hF q hq).2.2
      generalize tx w=x at hcut ⊢;generalize bx a=B;simp! [hcut]
     have hadd:Ha (.b (.lst [.str (tx w)])) (.b (.lst (ps.map F)))=some (.lst (.str (tx w)::ps.map F)):=by
      show(Ei ([Iv.P.str (tx w)]++ps.map F)).map _=_;unfold Ei;rw[iP (by simp[big];lia)];rfl
     suffices e:execs (A0 fns mt A1 (k+n)) mt A1 fm [sP (.tup (.str (tx w)::ps)),sP (bx a)]= .ok (.ret (.p (.tup (.str (tx w)::ps.map F)))) [sP (.tup (.str (tx w)::ps)),sP (bx a)]from Ad dX rfl rfl e (by kernel_rfl)
     generalize ps.map F=qs at hc hadd ⊢;generalize tx w=x at hc hadd ⊢;generalize bx a=B at hc ⊢;unfold fm;simp! [Ji,↓hc,hadd]
inductive Pl:Nat->List Iv.P->Prop where
 |nil:Pl 0 []
 |cons {o:Nat} {r:List Iv.P} (c:Nat) (cell:Int) (hc:c<=3) (h:Pl (o+c) r):Pl (o+1) (.tup [.int c,.int cell]::r)
theorem Pl.tail:∀{a b:List Iv.P} {o:Nat},Pl o (a++b)->∃o',Pl o' b
 |[],b,o,h=>⟨o,h⟩
 |_::a,b,_,.cons _ _ _ h=>Pl.tail (a:=a) h
theorem I9{cf:CF}:∀(ps st acc xs:List Iv.P) (y:Option C),xs.length=ps.length->∃y',BG (.nm 1) [] (Ew cf mt []) (ev cf mt (.CY .pop (.var 2) [])) xs acc [none,y,sL (st++ps.reverse)]= .ok (acc++ps) [none,y',sL st]
 |[],st,acc,[],y,_=>⟨y,by rw[append_nil,List.reverse_nil,append_nil];rfl⟩
 | p ::ps,st,acc,x::xs,y,h=>by
   obtain⟨y',e⟩:=I9 ps st (acc++[p]) xs (some (.p x)) (by simpa using h);refine⟨y',?_⟩;have hp:=PX (st++ps.reverse) p
   have hm:ev cf mt (.CY .pop (.var 2) []) [none,sP x,sL (st++ps.reverse++[p])]= .ok (.p p) [none,sP x,sL (st++ps.reverse)]:=by
    generalize st++ps.reverse++[p]=l at hp ⊢;simp! [hp]
   rw[reverse_cons,<-append_assoc]
   show(((Ew cf mt [] [none,sP x,sL (st++ps.reverse++[p])]).bind λb β2=>if b then(ev cf mt (.CY .pop (.var 2) []) β2).bind λc β3=>match c with
    |.p y=>BG (.nm 1) [] (Ew cf mt []) (ev cf mt (.CY .pop (.var 2) [])) xs (acc++[y]) β3
    |_=>.stuck
   else BG (.nm 1) [] (Ew cf mt []) (ev cf mt (.CY .pop (.var 2) [])) xs acc β2))=_
   rw[GW,Res.A2,iP rfl,hm,Res.A2];show BG (.nm 1) [] (Ew cf mt []) (ev cf mt (.CY .pop (.var 2) [])) xs (acc++[p]) _=_;rw[e,append_assoc];rfl
variable{cf:CF}
noncomputable def wA:List S:=[.ifs (.prim .gt [.var 5,.cst (.int 0)]) [.asg (.nm 7) (.prim .min [.var 4,.prim .mod [.prim .mod [.var 6,.cst (.int 5)],.cst (.int 4)]]),.ifs (.prim .eq [.prim .mod [.var 6,.cst (.int 7)],.cst (.int 6)]) [.asg (.nm 7) (.cst (.int 0))] [],.expr (.CY .append (.var 3) [.tup [.var 7,.var 6]]),.asg (.nm 4) (.prim .sub [.var 4,.var 7]),.asg (.nm 5) (.prim .add [.prim .sub [.var 5,.cst (.int 1)],.var 7])] []]
noncomputable def wB:List S:=[.ifs (.and (.prim .eq [.var 7,.cst (.int 0)]) (.prim .gt [.prim .mod [.var 6,.cst (.int 7)],.cst (.int 2)])) [.expr (.CY .append (.var 8) [.prim .mod [.prim .fdiv [.var 6,.cst (.int 7)],.cst (.int 9)]])] [.asg (.nm 9) (.comp (.nm 1) .BZ [.var 7] [] (.CY .pop (.var 2) []) [none,none,some 8]),.expr (.CY .append (.var 8) [.prim (.tuple .op) [.prim .add [.lst [.prim .idx [.var 1,.prim .add [.prim .mod [.prim .fdiv [.var 6,.cst (.int 35)],.cst (.int 2)],.prim .mul [.cst (.int 2),.prim .min [.var 7,.cst (.int 2)]]]]],.var 9]]])]]
noncomputable def tC:T:=.comp (.nm 1) .BZ [.var 5] [] (.tup [.cst (.int 0),.prim .add [.cst (.int 6),.prim .mul [.cst (.int 42),.var 1]]]) [none,none]
theorem Zy:jv=[.asg (.nm 3) (.lst []),.asg (.nm 4) (.prim .sub [.var 2,.cst (.int 1)]),.asg (.nm 5) (.cst (.int 1)),.Ca (.nm 6) .op [.var 0] wA,.asg (.nm 3) (.prim .add [.var 3,tC]),.asg (.nm 8) (.lst []),.Ca (.tup [7,6]) .rev [.var 3] wB,.ret (some (.prim .idx [.var 8,.cst (.int 0)]))]:=rfl
theorem H9{l:List Iv.P}(h:l.length < 1000):DS l [.b (.p x)]=some (.p .Ai,.lst (l++[x])):=by
 show(if l.length < big then _ else _)=_;rw[iP (by unfold big;lia)]
variable{x2 x4 x6 y8 y9:Option C}
theorem WX:execs cf mt A1 wA [x0,x1,x2,x3,x4,sP (.int 0),x6,y7,y8,y9]= .ok .nx [x0,x1,x2,x3,x4,sP (.int 0),x6,y7,y8,y9]:=by
 unfold wA;simp! []
variable{cell:Int}
theorem bc{L o:Int}{pl:List Iv.P}(ho:0 < o)(hL:0<=L)(hpl:pl.length < 1000):∃c:Int,0<=c/\c<=3/\c<=L/\
 execs cf mt A1 wA [x0,x1,x2,sL pl,sP (.int L),sP (.int o),sP (.int cell),y7,y8,y9]= .ok .nx [x0,x1,x2,sL (pl++[.tup [.int c,.int cell]]),sP (.int (L-c)),sP (.int (o-1+c)),sP (.int cell),sP (.int c),y8,y9]:=by
 have m5:=md (i:=cell) (show(0:Int) < 5 by decide);have m4:=md (i:=cell%5) (show(0:Int) < 4 by decide);have m7:=md (i:=cell) (show(0:Int) < 7 by decide);have hb:0<=cell%5%4/\cell%5%4 < 4:=⟨Int.emod_nonneg _ (by decide),Int.emod_lt_of_pos _ (by decide)⟩;generalize cell%5%4=b at m4 hb;generalize cell%5=a at m5 m4
 by_cases q:cell%7=6
 .have e6:GV (.int (cell%7)) (.int 6)=some true:=by rw[eq_int];exact congrArg some (decide_eq_true q)
  generalize cell%7=d at m7 e6;refine⟨0,by decide,by decide,hL,?_⟩;have ha:=H9 (x:=.tup [.int 0,.int cell]) hpl;generalize pl++[Iv.P.tup [.int 0,.int cell]]=pl' at ha ⊢;unfold wA;simp! [ho,m5,m4,m7,e6,ha]
 .have e6:GV (.int (cell%7)) (.int 6)=some false:=by rw[eq_int];exact congrArg some (dF q)
  generalize cell%7=d at m7 e6
  by_cases hlt:b < L
  .refine⟨b,hb.1,by lia,by lia,?_⟩;have ha:=H9 (x:=.tup [.int b,.int cell]) hpl;generalize pl++[Iv.P.tup [.int b,.int cell]]=pl' at ha ⊢;unfold wA;simp! [ho,m5,m4,m7,e6,ha,hlt]
  .refine⟨L,hL,by lia,Int.le_refl _,?_⟩;have ha:=H9 (x:=.tup [.int L,.int cell]) hpl;generalize pl++[Iv.P.tup [.int L,.int cell]]=pl' at ha ⊢;unfold wA;simp! [ho,m5,m4,m7,e6,ha,hlt]
variable{x5:Option C}
theorem Rq{ps st:List Iv.P}(hl:ps.length<=1000):ev cf mt (.comp (.nm 1) .BZ [.var 7] [] (.CY .pop (.var 2) []) [none,none,some 8]) [x0,x1,x2,x3,x4,x5,x6,sP (.int ps.length),sL (st++ps.reverse),y9]= .ok (.lst ps) [x0,x1,x2,x3,x4,x5,x6,sP (.int ps.length),sL st,y9]:=by
 rw[Jl];have hd:A8 cf mt [.var 7] [x0,x1,x2,x3,x4,x5,x6,sP (.int ps.length),sL (st++ps.reverse),y9]= .ok [.slot 7] [x0,x1,x2,x3,x4,x5,x6,sP (.int ps.length),sL (st++ps.reverse),y9]:=rfl;show(if IK.BZ.ok=true then(A8 cf mt [.var 7] _).bind _ else _)=_;rw[iP (show IK.BZ.ok=true from rfl),hd,Res.A2];obtain⟨y',e⟩:=I9 (cf:=cf) ps st [] (Af 0 ps.length) none (by rw[Az];lia);unfold Ib;rw[show A9 [x0,x1,x2,x3,x4,x5,x6,sP (.int ps.length),sL (st++ps.reverse),y9] [.slot 7]=some [.p (.int ps.length)]from rfl];dsimp only
 have hs:Ap .BZ [.p (.int ps.length)]=some (Af 0 ps.length):=by
  show(if(ps.length:Int).natAbs < 2 ^ 61 then _ else _)=_;rw[iP (by lia)]
 rw[hs];dsimp only;rw[show An [.slot 7] [.p (.int ps.length)]=true from rfl,show Fb (.nm 1) [none,none,some 8]=true from rfl,decide_eq_true (show(Af 0 ps.length).length<=big by rw[Az];unfold big;lia),show BO [none,none,some 8] [.slot 7] [.p (.int ps.length)]=[]from rfl,show BB [none,none,some 8] [x0,x1,x2,x3,x4,x5,x6,sP (.int ps.length),sL (st++ps.reverse),y9]=[none,none,sL (st++ps.reverse)]from rfl,e];rfl
theorem JP:∀(ps:List Iv.P),BE ps.reverse=BE ps
 |[]=>rfl
 |p::ps=>by rw[reverse_cons,BR,Cc,JP ps,AH];lia
theorem ba{c:Nat}{st:List Iv.P}{ns:List (List Nat)}(hn:ns.length=6)(hnb:∀l∈ns,IU l=true)(hc3:c<=3)(hc:c<=st.length)(hk:∀q∈st,Kd q)(hst:st.length < 500):
 ∃st' y9',(∀q∈st',Kd q)/\st'.length+c=st.length+1/\BE st'=BE st+1/\execs cf mt A1 wB [x0,sL (AJ ns),x2,x3,x4,x5,sP (.int cell),sP (.int c),sL st,y9]= .ok .nx [x0,sL (AJ ns),x2,x3,x4,x5,sP (.int cell),sP (.int c),sL st',y9']:=by
 have m7:=md (i:=cell) (show(0:Int) < 7 by decide)
 by_cases q:c=0/\2 < cell%7
 .obtain⟨rfl,q2⟩:=q;have d7:=fd (i:=cell) (show(0:Int) < 7 by decide) (by decide);have m9:=md (i:=cell/7) (show(0:Int) < 9 by decide);have h9:0<=cell/7%9/\cell/7%9 < 9:=⟨Int.emod_nonneg _ (by decide),Int.emod_lt_of_pos _ (by decide)⟩;obtain⟨n,hn9⟩:=Int.eq_ofNat_of_zero_le h9.1;rw[hn9]at m9 h9;refine⟨st++[.int n],y9,λx hx=>?_,by simp,by rw[BR,Cc,EL],?_⟩
  .rcases mem_append.mp hx with z|z
   .exact hk x z
   .have h99:n < 9:=by lia
    rw[mE z];exact .int n (Nat.lt_trans h99 (by decide))
  have ha:=H9 (l:=st) (x:=.int n) (by lia);generalize st++[Iv.P.int n]=st' at ha ⊢;generalize cell%7=d at m7 q2;generalize cell/7=d7' at d7 m9;generalize AJ ns=nn;unfold wB;simp! [DB,m7,q2,d7,m9,ha]
 .obtain⟨ps,st0,hps,hlen⟩:∃ps st0:List Iv.P,st=st0++ps.reverse/\ps.length=c:=⟨(st.drop (st.length-c)).reverse,st.take (st.length-c),by rw[reverse_reverse,List.take_append_drop],by simp;lia⟩;subst hlen;subst hps;have hj2:0<=cell/35%2/\cell/35%2 < 2:=⟨Int.emod_nonneg _ (by decide),Int.emod_lt_of_pos _ (by decide)⟩;have d35:=fd (i:=cell) (show(0:Int) < 35 by decide) (by decide);have m2:=md (i:=cell/35) (show(0:Int) < 2 by decide);have hi:0<=cell/35%2+2*(if(2:Int) < ps.length then 2 else(ps.length:Int))/\cell/35%2+2*(if(2:Int) < ps.length then 2 else(ps.length:Int)) < 6:=by split<;>lia
  have mu:=Yd (a:=2) (j:=if(2:Int) < ps.length then 2 else(ps.length:Int)) (by decide);have hmin:=Py (ps.length:Int) 2;generalize (if(2:Int) < ps.length then 2 else(ps.length:Int))=mm at hi mu hmin
  obtain⟨nm,hnm,hidx⟩:∃nm,IU nm=true/\Dj (.b (.lst (AJ ns))) (.b (.p (.int (cell / 35 % 2 + 2 * mm))))=some (.p (.str (tx nm))):=by
   obtain⟨j,hj⟩:=Int.eq_ofNat_of_zero_le hi.1;rw[hj]at hi ⊢;have hjl:j < ns.length:=by lia
   exact⟨ns[j],hnb _ (getElem_mem hjl),QU (k:=j) (by show(ns.map _)[j]? =_;rw[List.getElem?_map,List.getElem?_eq_getElem hjl];rfl)⟩
  refine⟨st0++[.tup (.str (tx nm)::ps)],sL ps,λx hx=>?_,by simp;lia,by rw[BR,BR,Cc,Bx,JP];lia,?_⟩
  .rcases mem_append.mp hx with z|z
   .exact hk x (mL z)
   .rw[mE z];exact .tup nm ps hnm hc3 λy hy=>hk y (mR (List.mem_reverse.mpr hy))
  have hcp:=Rq (cf:=cf) (ps:=ps) (st:=st0) (x0:=x0) (x1:=some (.lst (AJ ns))) (x2:=x2) (x3:=x3) (x4:=x4) (x5:=x5) (x6:=some (.p (.int cell))) (y9:=y9) (by lia);have ha:=H9 (l:=st0) (x:=.tup (.str (tx nm)::ps)) (by rw[lA]at hst;lia)
  have hadd:Ha (.b (.lst [.str (tx nm)])) (.b (.lst ps))=some (.lst (.str (tx nm)::ps)):=by
   show(Ei ([Iv.P.str (tx nm)]++ps)).map _=_;unfold Ei;rw[iP (by simp[big];lia)];rfl
  generalize st0++[Iv.P.tup (.str (tx nm)::ps)]=st' at ha ⊢;generalize tx nm=xn at hidx ha hadd;generalize AJ ns=nn at hcp hidx ⊢;generalize cell/35%2=j2 at m2 hidx;generalize cell/35=j3 at d35 m2
  have hq:∀{ρ:Iv.Env},tv cf mt (.and (.prim .eq [.var 7,.cst (.int 0)]) (.prim .gt [.prim .mod [.var 6,.cst (.int 7)],.cst (.int 2)])) [x0,sL nn,x2,x3,x4,x5,sP (.int cell),sP (.int ps.length),sL (st0++ps.reverse),y9]= .ok false [x0,sL nn,x2,x3,x4,x5,sP (.int cell),sP (.int ps.length),sL (st0++ps.reverse),y9]:=by
   intro _
   by_cases h0:ps.length=0
   .have e0:GV (.int (ps.length:Int)) (.int 0)=some true:=by rw[eq_int];exact congrArg some (decide_eq_true (by lia))
    have q2:¬(2 < cell%7):=λz=>q ⟨h0,z⟩
    generalize cell%7=d at m7 q2;generalize (ps.length:Int)=pz at e0 ⊢;generalize st0++ps.reverse=sz;simp! [e0,m7,q2]
   .have e0:GV (.int (ps.length:Int)) (.int 0)=some false:=by rw[eq_int];exact congrArg some (dF (by lia))
    generalize (ps.length:Int)=pz at e0 ⊢;generalize st0++ps.reverse=sz;simp! [e0]
  have hq:=hq (ρ:=[]);generalize (ps.length:Int)=pz at hq hcp hmin ⊢;generalize st0++ps.reverse=sz at hq hcp ⊢;unfold wB;simp! [↓hq,↓hcp,hidx,d35,m2,mu,↓hmin,hadd,ha]
end Lk50
namespace Iv
open PySem
variable{cf:CF}{mt:MT}
theorem MZ{g:Tg}{i:Nat}{xs:List P}(hs:A6 ρ i=some (.lst xs))(hg:(!(g.slots++B8 b).contains i)=true):exec cf mt A1 (.Ca g .rev [.var i] b) ρ=forL g [(i,.lst xs)] (execs cf mt A1 b) xs.reverse ρ:=by
 rw[Fw];show(if IK.rev.ok=true then(A8 cf mt [.var i] ρ).bind _ else _)=_;have hd:A8 cf mt [.var i] ρ= .ok [.slot i] ρ:=by rw[B9,JC,hs];rfl
 rw[iP (show IK.rev.ok=true from rfl),hd,Res.A2];unfold Jk;rw[show A9 ρ [.slot i]=some [.lst xs]by show((A6 ρ i).bind λc=>_)=_;rw[hs];rfl];dsimp only;rw[show Ap .rev [.lst xs]=some xs.reverse from rfl];dsimp only;rw[show guards [.slot i] [.lst xs]=[(i,.lst xs)]from rfl,show An [.slot i] [.lst xs]=true from rfl];rw[iP (by simpa using hg)]
end Iv
namespace Lk50
open Iv PySem
variable{k:Nat}{cf:CF}
abbrev Hl(l:List Int):C:=.lst (l.map .int)
def leaf:Iv.P->Iv.P
 |.int j=>.tup [.int 0,.int (6+42*j)]
 |q=>q
theorem Nf:∀(l:List Iv.P),(∀q∈l,∃j,q= .int j)->Pl l.length (l.map leaf)
 |[],_=>.nil
 | q::l,h=>by
   obtain⟨j,rfl⟩:=h q mS;exact .cons 0 _ (by decide) (Nf l λx hx=>h x (mC hx))
theorem Hz{n:Int}:∀q∈Af 0 n,∃j,q= .int j:=λq hq=>by
 unfold Af at hq;obtain⟨j,_,rfl⟩:=mem_map.mp hq;exact⟨_,rfl⟩
theorem YG(v:Iv.Env->Res C)(ρ:Iv.Env):Bn tC v ρ=jH (v ρ):=rfl
theorem bz{o:Nat}{x0 x1 x2 x3 x4 y6 y7 y8 y9:Option C}(ho:o<=1000):ev cf mt tC [x0,x1,x2,x3,x4,sP (.int o),y6,y7,y8,y9]= .ok (.lst ((Af 0 o).map leaf)) [x0,x1,x2,x3,x4,sP (.int o),y6,y7,y8,y9]:=by
 unfold tC;refine Ex (h:=.slot 5) (c:=.p (.int o)) (xs:=Af 0 o) (r:=[]) rfl rfl rfl rfl rfl (by show(if(o:Int).natAbs < 2 ^ 61 then _ else _)=_;rw[iP (by lia)]) (by rw[Az];unfold big;lia) rfl rfl (λ_=>rfl) λq hq=>?_
 obtain⟨j,rfl⟩:=Hz q hq;have mu:=Yd (a:=42) (j:=j) (by decide);show _=Res.ok (C.p (.tup [.int 0,.int (6+42*j)])) _;simp! [mu]
theorem Kc:∀(st:List Iv.P),st.length<=BE st
 |[]=>Nat.zero_le _
 | p::st=>by
   have:=Kc st;have:=IF p;rw[AH,lC]
   lia
theorem LM{cells:List Int}{ns:List (List Nat)}(hn:ns.length=6)(hnb:∀l∈ns,IU l=true):∃p,Kd p/\Dh p<=24/\
 A0 fns mt A1 (k+1) 15 [Hl cells,.lst (AJ ns),.p (.int 24)]= .ok (.p p) [some (Hl cells),sL (AJ ns),sP (.int 24)]:=by
 obtain⟨ρ1,⟨pl,L,o,y6,y7,hpl,hsum,hρ1⟩,hfor1⟩:=Cg (g:=.nm 6) (gs:=[(0,Hl cells)]) (b:=execs (A0 fns mt A1 k) mt A1 wA) (J:=λ_ ρ=>∃(pl:List Iv.P) (L o:Nat) (y6 y7:Option C),(∀r,Pl o r->Pl 1 (pl++r))/\pl.length + o + L=24/\ρ=[some (Hl cells),sL (AJ ns),sP (.int 24),sL pl,sP (.int L),sP (.int o),y6,y7,none,none]) (all:=cells.map .int) (λd ρ ⟨_,_,_,_,_,_,_,h⟩=>by
  rw[h];show(decide (some (Hl cells)=some (Hl cells)) && true)=true;simp) (λd q r e ρ ⟨pl,L,o,y6,y7,hpl,hsum,h⟩=>by
  subst h;have hq:q∈cells.map Iv.P.int:=by rw[<-e];simp
  obtain⟨c,_,rfl⟩:=mem_map.mp hq;cases o with
  |zero=>exact⟨_,_,.nx,rfl,WX,.inl rfl,pl,L,0,sP (.int c),y7,hpl,hsum,rfl⟩
  |succ o=>
    obtain⟨m,h0,h3,hL,ht⟩:=bc (cf:=A0 fns mt A1 k) (L:=(L:Int)) (o:=((o+1:Nat):Int)) (cell:=c) (pl:=pl) (x0:=some (Hl cells)) (x1:=some (.lst (AJ ns))) (x2:=some (.p (.int 24))) (y7:=y7) (y8:=none) (y9:=none) (by lia) (by lia) (by lia);obtain⟨m,rfl⟩:=Int.eq_ofNat_of_zero_le h0;refine⟨_,_,.nx,rfl,ht,.inl rfl,pl++[.tup [.int m,.int c]],L-m,o+m,sP (.int c),sP (.int m),λr hr=>?_,by simp;lia,?_⟩
    .rw[append_assoc];exact hpl _ (.cons m c (by lia) hr)
    .rw[show((L-m:Nat):Int)=(L:Int)-m by lia,show((o+m:Nat):Int)=((o+1:Nat):Int)-1+m by lia]) (cells.map .int) [] [some (Hl cells),sL (AJ ns),sP (.int 24),sL [],sP (.int (23:Nat)),sP (.int (1:Nat)),none,none,none,none] rfl ⟨[],23,1,none,none,λr hr=>hr,rfl,rfl⟩
 subst hρ1;have hf1:=(Kr (cf:=A0 fns mt A1 k) (mt:=mt) (g:=.nm 6) (b:=wA) (i:=0) (xs:=cells.map .int) (ρ:=[some (Hl cells),sL (AJ ns),sP (.int 24),sL [],sP (.int (23:Nat)),sP (.int (1:Nat)),none,none,none,none]) rfl (by decide)).trans hfor1;have htc:=bz (cf:=A0 fns mt A1 k) (o:=o) (x0:=some (Hl cells)) (x1:=some (.lst (AJ ns))) (x2:=some (.p (.int 24))) (x3:=some (.lst pl)) (x4:=some (.p (.int L))) (y6:=y6) (y7:=y7) (y8:=none) (y9:=none) (by lia);have hlo:(Af 0 (o:Int)).length=o:=by rw[Az];lia
 have hP:=hpl _ (by have:=Nf (Af 0 (o:Int)) Hz;rw[hlo]at this;exact this);have hlen:(pl++(Af 0 (o:Int)).map leaf).length<=24:=by rw[lA,lM,hlo];lia
 have hadd:Ha (.b (.lst pl)) (.b (.lst ((Af 0 (o:Int)).map leaf)))=some (.lst (pl++(Af 0 (o:Int)).map leaf)):=by
  show(Ei (pl++(Af 0 (o:Int)).map leaf)).map _=_;unfold Ei;rw[iP (by unfold big;lia)];rfl
 generalize pl++(Af 0 (o:Int)).map leaf=plan at hP hlen hadd
 obtain⟨ρ2,⟨st,z6,z7,z9,hst,hsz,hso,hρ2⟩,hfor2⟩:=Cg (g:=.tup [7,6]) (gs:=[(3,.lst plan)]) (b:=execs (A0 fns mt A1 k) mt A1 wB) (J:=λd ρ=>∃(st:List Iv.P) (y6 y7 y9:Option C),(∀q∈st,Kd q)/\BE st=d.length/\(∀o,Pl o d.reverse->st.length=o)/\ρ=[some (Hl cells),sL (AJ ns),sP (.int 24),sL plan,sP (.int L),sP (.int o),y6,y7,sL st,y9]) (all:=plan.reverse) (λd ρ ⟨_,_,_,_,_,_,_,h⟩=>by
  rw[h];show(decide (some (C.lst plan)=some (C.lst plan)) && true)=true;simp) (λd q r e ρ ⟨st,y6,y7,y9,hk,hsz,hso,h⟩=>by
  subst h
  have hpe:plan=r.reverse++(q::d.reverse):=by
   have:=congrArg List.reverse e;rw[reverse_reverse]at this;rw[<-this];simp
  rw[hpe]at hP;obtain⟨o',hP'⟩:=hP.tail;cases hP' with
  |@cons o2 _ c cell hc hr=>
    have hl:=hso _ hr
    have Bn:d.length<=24:=by
     have:=congrArg List.length hpe;simp at this
     lia
    have hsl:st.length<=BE st:=Kc st;obtain⟨st',y9',k1,k2,k3,ht⟩:=ba (cf:=A0 fns mt A1 k) (cell:=cell) (c:=c) (st:=st) (ns:=ns) (x0:=some (Hl cells)) (x2:=some (.p (.int 24))) (x3:=some (.lst plan)) (x4:=some (.p (.int L))) (x5:=some (.p (.int o))) (y9:=y9) hn hnb hc (by lia) hk (by lia);refine⟨_,_,.nx,rfl,ht,.inl rfl,st',sP (.int cell),sP (.int c),y9',k1,by rw[k3,hsz];simp,λo3 h3=>?_,rfl⟩;rw[List.reverse_append]at h3;cases h3 with
    |@cons o4 _ _ _ _ h4=>
      have:=hso _ h4
      lia) plan.reverse [] [some (Hl cells),sL (AJ ns),sP (.int 24),sL plan,sP (.int L),sP (.int o),y6,y7,sL [],none] rfl ⟨[],y6,y7,none,λq hq=>(by cases hq),by rw[CL];rfl,λo ho=>by cases ho;rfl,rfl⟩
 subst hρ2;rw[reverse_reverse]at hso;have h1:=hso 1 hP;rw[length_reverse]at hsz;obtain⟨p,rfl⟩:∃p,st=[p]:=List.length_eq_one_iff.mp h1;rw[Cc]at hsz;refine⟨p,hst p (by simp),by lia,?_⟩;have hf2:=(MZ (cf:=A0 fns mt A1 k) (mt:=mt) (g:=.tup [7,6]) (b:=wB) (i:=3) (xs:=plan) (ρ:=[some (Hl cells),sL (AJ ns),sP (.int 24),sL plan,sP (.int L),sP (.int o),y6,y7,sL [],none]) rfl (by decide)).trans hfor2
 suffices e:execs (A0 fns mt A1 k) mt A1 jv [some (Hl cells),sL (AJ ns),sP (.int 24),none,none,none,none,none,none,none]= .ok (.ret (.p p)) [some (Hl cells),sL (AJ ns),sP (.int 24),sL plan,sP (.int L),sP (.int o),z6,z7,sL [p],z9]from Ad gm rfl rfl e (by kernel_rfl)
 have hi:Dj (.b (.lst [p])) (.b (.p (.int 0)))=some (.p p):=QU (k:=0) rfl;rw[Zy];generalize (Af 0 (o:Int)).map leaf=lv at htc hadd;unfold Hl at hf1 hf2 htc ⊢;generalize cells.map Iv.P.int=cc at hf1 hf2 htc ⊢;generalize AJ ns=nn at hf1 hf2 htc ⊢;generalize (L:Int)=iL at hf1 hf2 htc ⊢;generalize (o:Int)=io at hf1 hf2 htc ⊢;have e23:((24:Int)-1)=((23:Nat):Int):=rfl;have e1:(1:Int)=((1:Nat):Int):=rfl;replace hf1:exec (A0 fns mt A1 k) mt A1 (.Ca (.nm 6) .op [.var 0] wA) [sL cc,sL nn,sP (.int 24),sL [],sP (.int 23),sP (.int 1),none,none,none,none]=_:=hf1;simp! [↓hf1,YG,↓htc,hadd,↓hf2,hi]
end Lk50
namespace Iv
open PySem
variable{cf:CF}{mt:MT}
theorem Ku:∀(l:List P) (ρ:Env),Bd cf mt (l.map .cst) ρ= .ok l ρ
 |[],ρ=>DC ρ
 | p::l,ρ=>by
   rw[map_cons,KU,Ng];show j4 p (Bd cf mt (l.map .cst) ρ)=_;rw[Ku l ρ];rfl
theorem Ud{l:List P}(h:l.length<=1000):ev cf mt (.lst (l.map .cst)) ρ= .ok (.lst l) ρ:=by
 rw[GS];dsimp only;rw[iP (by rw[lM];exact h),Ku,Res.A2]
theorem eo{a b:Int}{ts:List T}{x y:P}(hab:a≠b)(h:Bd cf mt ts ρ= .ok [x,y] ρ):ev cf mt (.OJ a b ts) ρ= .ok (.p (.box 1 [.int a,x,.int b,y])) ρ:=by
 have e:ev cf mt (.OJ a b ts) ρ=if a=b then .stuck else(Bd cf mt ts ρ).bind λps ρ=>match ps with
  |[x,y]=>.ok (.p (.box 1 [.int a,x,.int b,y])) ρ
  |_=>.stuck:=by
  show(den cf mt (.OJ a b ts)).v ρ=_
  conv=>lhs;unfold den
  all_goals rfl
 rw[e,iN hab,h];rfl
end Iv
namespace Lk50
open Iv PySem
variable{k:Nat}{cf:CF}
abbrev Ci(i:Int):Option C:=some (.p (.int i))
noncomputable def P2:T:=.comp (.nm 1) .BZ [.cst (.int 16)] [] (.call 13 [.var 3,.prim .add [.var 2,.var 1]]) [none,none,some 2,some 0]
noncomputable def t3:T:=.comp (.nm 1) .BZ [.cst (.int 3)] [] (.call 13 [.var 3,.prim .add [.prim .add [.var 2,.cst (.int 4)],.var 1]]) [none,none,some 2,some 0]
noncomputable def tD:T:=.OJ 1 5 [.prim .add [.cst (.int 10),.prim .mod [.call 13 [.var 0,.prim .add [.var 2,.cst (.int 3)]],.cst (.int 90)]],.cst (.int 99)]
noncomputable def wL:List S:=[.asg (.nm 3) (.call 15 [P2,.var 1,.cst (.int 24)]),.ifs (.prim .eq [.prim .mod [.call 13 [.var 0,.prim .add [.var 2,.cst (.int 2)]],.cst (.int 3)],.cst (.int 0)]) [.asg (.nm 3) (.call 17 [.var 3,tD])] [],.ifs (.not (.call 22 [.var 3,t3])) [.ret (some (.cst (.bl false)))] []]
noncomputable def wO:List S:=[.asg (.tup [6,7]) (.call 20 [.var 5]),.ifs (.or (.not (.var 6)) (.prim .Sz [.var 7,.cst (.Ai)])) [.ret (some (.cst (.bl false)))] []]
noncomputable def odd:List (List Nat):=[[],[32],[48,48],[48,49],[45,49],[97,40,41],[97,40,48],[97,40,48,41,41],[97,40,48,44,49,41],[97,40,48,44,32,32,49,41],[40,48,41],[65],[97,32,98],[97,40,48,44,32,49,44,32,50,44,32,51,41]]
def NY:List (List Nat):=[[97,98,99,100,101,102,103,104,105],[97,40,44,32,48,41],[97,40,48,44,32,41]]
noncomputable def tO:T:=.lst [.cst (.str ⟨#[97,98,99,100,101,102,103,104,105]⟩),.cst (.str ⟨#[97,40,44,32,48,41]⟩),.cst (.str ⟨#[97,40,48,44,32,41]⟩),.cst (.Ai),.cst (.int 7),.tup [.cst (.str ⟨#[97]⟩)],.Dl [.cst (.str ⟨#[97]⟩)],.cst (.int 0)]
def Eo:List Iv.P:=AJ NY++[.Ai,.int 7,.tup [.str (tx [97])],.box 0 [.str (tx [97])],.int 0]
theorem Zu:jr=[.asg (.nm 1) (.call 14 [.call 13 [.var 0,.cst (.int 0)]]),.Ca (.nm 2) .BZ [.cst (.int 0),.prim .add [.cst (.int 1),.prim .min [.prim .len [.var 0],.cst (.int 48)]],.cst (.int 16)] wL,.asg (.nm 4) (.lst ((AJ odd).map .cst)),.Ca (.nm 5) .op [.prim .add [.var 4,tO]] wO,.ret (some (.cst (.bl true)))]:=rfl
variable{ns:List Int}
theorem CT{j:Nat}{t:T}{i:Nat}(ha:A8 (A0 fns mt A1 (k + 1)) mt [.var i,t] ρ= .ok [.slot i,.AD (.p (.int j))] ρ)(hi:A6 ρ i=some (.b (.ro (ns.map .int)))):ev (A0 fns mt A1 (k + 1)) mt (.call 13 [.var i,t]) ρ= .ok (.p (.int (cellAt ns j))) ρ:=by
 rw[BV,ha,Res.A2];exact DF (hs:=[.slot i,.AD (.p (.int j))]) (ρ:=ρ) (cs:=[.b (.ro (ns.map .int)),.p (.int j)]) (by show((A6 ρ i).bind λc=>_)=_;rw[hi];rfl) (λc hc=>by rcases mK hc with z|z;(· rw[z];rfl);(· rw[mE z];rfl)) (UX (k:=k) (ns:=ns) (j:=j)) rfl
theorem Ic{n:Nat}{F:Nat->Nat}:(Af 0 n).map (λq=>match q with| .int j=>Iv.P.int (cellAt ns (F j.toNat))|q=>q)=((List.range n).map λj=>cellAt ns (F j)).map Iv.P.int:=by
 unfold Af;rw[map_map,map_map,show((n:Int)-0).toNat=n by lia]
 exact map_congr_left λj _=>by
  show Iv.P.int (cellAt ns (F (0+(j:Int)).toNat))=_;rw[show(0+(j:Int)).toNat=j by lia];rfl
variable{y3 y4 y5 y6 y7:Option C}
theorem UW{a:Nat}:
 ev (A0 fns mt A1 (k+1)) mt P2 [some (.b (.ro (ns.map .int))),sL n,Ci (a:Int),y3,y4,y5,y6,y7]= .ok (Hl ((List.range 16).map λj=>cellAt ns (a+j))) [some (.b (.ro (ns.map .int))),sL n,Ci (a:Int),y3,y4,y5,y6,y7]:=by
 have h:=Ex (cf:=A0 fns mt A1 (k + 1)) (mt:=mt) (kd:=.BZ) (t:=.cst (.int 16)) (elt:=.call 13 [.var 3,.prim .add [.var 2,.var 1]]) (fr:=[none,none,some 2,some 0]) (h:=.AD (.p (.int 16))) (c:=.p (.int 16)) (xs:=Af 0 (16:Nat)) (F:=λq=>match q with| .int j=>.int (cellAt ns (a + j.toNat))|q=>q) (ρ:=[some (.b (.ro (ns.map .int))),sL n,Ci (a:Int),y3,y4,y5,y6,y7]) (r:=[Ci (a:Int),some (.b (.ro (ns.map .int)))]) rfl rfl rfl rfl rfl rfl (by rw[Az];unfold big;lia) rfl rfl (λ_=>rfl) (λq hq=>by
  unfold Af at hq;obtain⟨j,hj,rfl⟩:=mem_map.mp hq;rw[show(0:Int)+(j:Int)=(j:Int)by lia];show _=Res.ok (C.p (.int (cellAt ns (a+j)))) _;refine CT (i:=3) ?_ rfl;rw[show((a+j:Nat):Int)=(a:Int)+(j:Int)by lia];generalize ns.map Iv.P.int=l
  simp! [])
 unfold P2 Hl;rw[h,Ic (F:=λj=>a+j)]
theorem Z8{a:Nat}:
 ev (A0 fns mt A1 (k+1)) mt t3 [some (.b (.ro (ns.map .int))),sL n,Ci (a:Int),y3,y4,y5,y6,y7]= .ok (Hl ((List.range 3).map λj=>cellAt ns (a+4+j))) [some (.b (.ro (ns.map .int))),sL n,Ci (a:Int),y3,y4,y5,y6,y7]:=by
 have h:=Ex (cf:=A0 fns mt A1 (k + 1)) (mt:=mt) (kd:=.BZ) (t:=.cst (.int 3)) (elt:=.call 13 [.var 3,.prim .add [.prim .add [.var 2,.cst (.int 4)],.var 1]]) (fr:=[none,none,some 2,some 0]) (h:=.AD (.p (.int 3))) (c:=.p (.int 3)) (xs:=Af 0 (3:Nat)) (F:=λq=>match q with| .int j=>.int (cellAt ns (a + 4 + j.toNat))|q=>q) (ρ:=[some (.b (.ro (ns.map .int))),sL n,Ci (a:Int),y3,y4,y5,y6,y7]) (r:=[Ci (a:Int),some (.b (.ro (ns.map .int)))]) rfl rfl rfl rfl rfl rfl (by rw[Az];unfold big;lia) rfl rfl (λ_=>rfl) (λq hq=>by
  unfold Af at hq;obtain⟨j,hj,rfl⟩:=mem_map.mp hq;rw[show(0:Int)+(j:Int)=(j:Int)by lia];show _=Res.ok (C.p (.int (cellAt ns (a+4+j)))) _;refine CT (i:=3) ?_ rfl;rw[show((a+4+j:Nat):Int)=(a:Int)+4+(j:Int)by lia];generalize ns.map Iv.P.int=l
  simp! [])
 unfold t3 Hl;rw[h,Ic (F:=λj=>a+4+j)]
variable{y0 y2:Option C}
theorem Ox(ht:ev cf mt P2 [y0,sL n,y2,y3,y4,y5,y6,y7]= .ok (.lst l) [y0,sL n,y2,y3,y4,y5,y6,y7])(he:cf 15 [.lst l,.lst n,.p (.int 24)]= .ok (.p p) [sL l,sL n,Ci 24]):
 ev cf mt (.call 15 [P2,.var 1,.cst (.int 24)]) [y0,sL n,y2,y3,y4,y5,y6,y7]= .ok (.p p) [y0,sL n,y2,y3,y4,y5,y6,y7]:=by
 rw[BV]
 have h16:Bn P2 (ev cf mt P2) [y0,sL n,y2,y3,y4,y5,y6,y7]= .ok (.AD (.lst l)) [y0,sL n,y2,y3,y4,y5,y6,y7]:=by
  show jH (ev cf mt P2 _)=_;rw[ht];rfl
 have ha:A8 cf mt [P2,.var 1,.cst (.int 24)] [y0,sL n,y2,y3,y4,y5,y6,y7]= .ok [.AD (.lst l),.slot 1,.AD (.p (.int 24))] [y0,sL n,y2,y3,y4,y5,y6,y7]:=by
  rw[B9,h16];rfl
 rw[ha];show Aq cf 15 [.AD (.lst l),.slot 1,.AD (.p (.int 24))] [y0,sL n,y2,y3,y4,y5,y6,y7]=_;unfold Aq;rw[show A9 [y0,sL n,y2,y3,y4,y5,y6,y7] [.AD (.lst l),.slot 1,.AD (.p (.int 24))]=some [.lst l,.lst n,.p (.int 24)]from rfl];dsimp only;rw[iP ⟨by show([1]:List Nat).Nodup;decide,rfl⟩,he];rfl
theorem La{n:List Iv.P}{b:Bool}{y1:Option C}(ht:ev cf mt t3 [y0,y1,y2,sP p,y4,y5,y6,y7]= .ok (.lst l) [y0,y1,y2,sP p,y4,y5,y6,y7])(he:cf 22 [.p p,.lst l]= .ok (.p (.bl b)) [sP p,sL l]):
 ev cf mt (.call 22 [.var 3,t3]) [y0,y1,y2,sP p,y4,y5,y6,y7]= .ok (.p (.bl b)) [y0,y1,y2,sP p,y4,y5,y6,y7]:=by
 rw[BV]
 have h3:Bn t3 (ev cf mt t3) [y0,y1,y2,sP p,y4,y5,y6,y7]= .ok (.AD (.lst l)) [y0,y1,y2,sP p,y4,y5,y6,y7]:=by
  show jH (ev cf mt t3 _)=_;rw[ht];rfl
 have h32:A8 cf mt [t3] [y0,y1,y2,sP p,y4,y5,y6,y7]= .ok [.AD (.lst l)] [y0,y1,y2,sP p,y4,y5,y6,y7]:=by
  rw[B9,h3];rfl
 have ha:A8 cf mt [.var 3,t3] [y0,y1,y2,sP p,y4,y5,y6,y7]= .ok [.slot 3,.AD (.lst l)] [y0,y1,y2,sP p,y4,y5,y6,y7]:=by
  rw[B9];show Yx (.slot 3) (A8 cf mt [t3] _)=_;rw[h32];rfl
 rw[ha];show Aq cf 22 [.slot 3,.AD (.lst l)] [y0,y1,y2,sP p,y4,y5,y6,y7]=_;unfold Aq;rw[show A9 [y0,y1,y2,sP p,y4,y5,y6,y7] [.slot 3,.AD (.lst l)]=some [.p p,.lst l]from rfl];dsimp only;rw[iP ⟨by show([]:List Nat).Nodup;exact .nil,rfl⟩,he];rfl
theorem Tp{a:Int}(h0:0<=a)(ha:a < 1000)(hp:Kd p)(hz:Dh p<=24):∃p',Kd p'/\Dh p'<=24/\A0 fns mt A1 (k + 78) 17 [.p p,.p (bx a)]= .ok (.p p') [sP p,sP (bx a)]:=by
 obtain⟨a,rfl⟩:=Int.eq_ofNat_of_zero_le h0;have ha':a < 1000:=by lia
 obtain⟨p',h1,h2,h3⟩:=PL (a:=a) (Nat.lt_trans ha' (by decide)) 24 (k+54) hp (Nat.le_trans (F5 hp) hz);exact⟨p',h1,by lia,h3⟩
theorem QC{a:Nat}{xs:List (List Nat)}(hx:xs.length=6)(hnb:∀l∈xs,IU l=true):
 ∃z3,execs (A0 fns mt A1 (k+78)) mt A1 wL [some (.b (.ro (ns.map .int))),sL (AJ xs),Ci (a:Int),y3,y4,y5,y6,y7]= .ok .nx [some (.b (.ro (ns.map .int))),sL (AJ xs),Ci (a:Int),z3,y4,y5,y6,y7]:=by
 obtain⟨p,hp,hz,h15⟩:=LM (k:=k+77) (cells:=(List.range 16).map λj=>cellAt ns (a+j)) hx hnb;have d1:=Ox (y0:=some (.b (.ro (ns.map .int)))) (y2:=Ci (a:Int)) (y3:=y3) (y4:=y4) (y5:=y5) (y6:=y6) (y7:=y7) (UW (k:=k+77) (ns:=ns) (a:=a) (n:=AJ xs) (y3:=y3) (y4:=y4) (y5:=y5) (y6:=y6) (y7:=y7)) h15
 have c2:∀y3,ev (A0 fns mt A1 (k + 78)) mt (.call 13 [.var 0,.prim .add [.var 2,.cst (.int 2)]]) [some (.b (.ro (ns.map .int))),sL (AJ xs),Ci (a:Int),y3,y4,y5,y6,y7]= .ok (.p (.int (cellAt ns (a + 2)))) [some (.b (.ro (ns.map .int))),sL (AJ xs),Ci (a:Int),y3,y4,y5,y6,y7]:=λy3=>by
  refine CT (i:=0) (k:=k+77) ?_ rfl;rw[show((a+2:Nat):Int)=(a:Int)+2 by lia];generalize ns.map Iv.P.int=l;generalize AJ xs=N;simp! []
 have c3:∀y3,ev (A0 fns mt A1 (k + 78)) mt (.call 13 [.var 0,.prim .add [.var 2,.cst (.int 3)]]) [some (.b (.ro (ns.map .int))),sL (AJ xs),Ci (a:Int),y3,y4,y5,y6,y7]= .ok (.p (.int (cellAt ns (a + 3)))) [some (.b (.ro (ns.map .int))),sL (AJ xs),Ci (a:Int),y3,y4,y5,y6,y7]:=λy3=>by
  refine CT (i:=0) (k:=k+77) ?_ rfl;rw[show((a+3:Nat):Int)=(a:Int)+3 by lia];generalize ns.map Iv.P.int=l;generalize AJ xs=N;simp! []
 have m3:=md (i:=cellAt ns (a+2)) (show(0:Int) < 3 by decide);have m90:=md (i:=cellAt ns (a+3)) (show(0:Int) < 90 by decide);have h90:0<=cellAt ns (a+3)%90/\cellAt ns (a+3)%90 < 90:=⟨Int.emod_nonneg _ (by decide),Int.emod_lt_of_pos _ (by decide)⟩
 have last:∀q,Kd q->Dh q<=24->ev (A0 fns mt A1 (k + 78)) mt (.call 22 [.var 3,t3]) [some (.b (.ro (ns.map .int))),sL (AJ xs),Ci (a:Int),sP q,y4,y5,y6,y7]= .ok (.p (.bl true)) [some (.b (.ro (ns.map .int))),sL (AJ xs),Ci (a:Int),sP q,y4,y5,y6,y7]:=λq hq hzq=>
  La (n:=[]) (Z8 (k:=k+77)) (PB (k:=k+1) hq hzq _)
 by_cases q0:cellAt ns (a+2)%3=0
 .have e0:GV (.int (cellAt ns (a+2)%3)) (.int 0)=some true:=by rw[eq_int];exact congrArg some (decide_eq_true q0)
  obtain⟨p',hp',hz',h17⟩:=Tp (k:=k) (a:=10+cellAt ns (a+3)%90) (by lia) (by lia) hp hz
  have hD:ev (A0 fns mt A1 (k + 78)) mt tD [some (.b (.ro (ns.map .int))),sL (AJ xs),Ci (a:Int),sP p,y4,y5,y6,y7]= .ok (.p (bx (10 + cellAt ns (a + 3) % 90))) [some (.b (.ro (ns.map .int))),sL (AJ xs),Ci (a:Int),sP p,y4,y5,y6,y7]:=by
   refine eo (by decide) ?_;have c3':=c3 (some (.p p));clear h17 last d1 h15;generalize cellAt ns (a+3)%90=r at m90 ⊢;generalize cellAt ns (a+3)=r2 at m90 c3';generalize ns.map Iv.P.int=l at c3' ⊢;generalize AJ xs=N at c3' ⊢;simp! [↓c3',m90]
  have hP:ev (A0 fns mt A1 (k + 78)) mt (.call 17 [.var 3,tD]) [some (.b (.ro (ns.map .int))),sL (AJ xs),Ci (a:Int),sP p,y4,y5,y6,y7]= .ok (.p p') [some (.b (.ro (ns.map .int))),sL (AJ xs),Ci (a:Int),sP p,y4,y5,y6,y7]:=by
   refine V1 (h:=.slot 3) (h':=.AD (.p (bx (10+cellAt ns (a+3)%90)))) ?_ rfl rfl h17;rw[B9];show Yx (.slot 3) (A8 _ mt [tD] _)=_;rw[B9];show Yx (.slot 3) (jA _ mt [] (jH (ev _ mt tD _)))=_;rw[hD];rfl
  have hl:=last p' hp' hz';have c2':=c2 (some (.p p));refine⟨some (.p p'),?_⟩;clear hD h17 last h15 c2 c3 m90 h90;generalize cellAt ns (a+2)%3=r at m3 e0;generalize cellAt ns (a+2)=r2 at m3 c2';generalize ns.map Iv.P.int=l at d1 c2' hP hl ⊢;generalize AJ xs=N at d1 c2' hP hl ⊢;unfold wL;simp! [↓d1,↓c2',m3,e0,↓hP,↓hl]
 .have e0:GV (.int (cellAt ns (a+2)%3)) (.int 0)=some false:=by rw[eq_int];exact congrArg some (dF q0)
  have hl:=last p hp hz;have c2':=c2 (some (.p p));refine⟨some (.p p),?_⟩;clear last h15 c2 c3 m90 h90;generalize cellAt ns (a+2)%3=r at m3 e0;generalize cellAt ns (a+2)=r2 at m3 c2';generalize ns.map Iv.P.int=l at d1 c2' hl ⊢;generalize AJ xs=N at d1 c2' hl ⊢;unfold wL;simp! [↓d1,↓c2',m3,e0,↓hl]
theorem Y3:∀s∈odd++NY,NH s=none:=by
 intro s hs;have:(odd++NY).all (λs=>(NH s).isNone)=true:=by kernel_rfl
 exact Option.isNone_iff_eq_none.mp (all_eq_true.mp this s hs)
theorem U0:∀s∈odd++NY,s.length<=70000:=by
 intro s hs;have:(odd++NY).all (λs=>decide (s.length<=20))=true:=by kernel_rfl
 have:=of_decide_eq_true (all_eq_true.mp this s hs)
 lia
theorem Y4{q:Iv.P}(hq:q∈AJ odd++Eo):A0 fns mt A1 (k + 78) 20 [.p q]= .ok (.p (.tup [.bl true,.Ai])) [sP q]:=by
 have tx9:∀s∈odd++NY,A0 fns mt A1 (k + 78) 20 [.p (.str (tx s))]= .ok (.p (.tup [.bl true,.Ai])) [sP (.str (tx s))]:=λs hs=>by
  have:=IG (k:=k+2) (U0 s hs);rw[Y3 s hs]at this;exact Dw (k:=k+77) (o:=none) this
 have no9:∀p,Dx .str (.b (.p p))=some false->A0 fns mt A1 (k + 78) 20 [.p p]= .ok (.p (.tup [.bl true,.Ai])) [sP p]:=λp hp=>
  Dw (k:=k+77) (o:=none) (Td (k:=k+75) hp)
 rcases mem_append.mp hq with z|z
 .obtain⟨s,hs,rfl⟩:=mem_map.mp z;exact tx9 s (mL hs)
 .unfold Eo at z;rcases mem_append.mp z with z|z
  .obtain⟨s,hs,rfl⟩:=mem_map.mp z;exact tx9 s (mR hs)
  .simp only[mem_cons,not_mem_nil,or_false]at z;rcases z with rfl|rfl|rfl|rfl|rfl<;>exact no9 _ rfl
theorem Qm{q:Iv.P}{x0 x1 x2 x3 x4:Option C}(hq:q∈AJ odd++Eo):execs (A0 fns mt A1 (k + 78)) mt A1 wO [x0,x1,x2,x3,x4,sP q,y6,y7]= .ok .nx [x0,x1,x2,x3,x4,sP q,sP (.bl true),sP .Ai]:=by
 have h2:exec (A0 fns mt A1 (k+78)) mt A1 (.asg (.tup [6,7]) (.call 20 [.var 5])) [x0,x1,x2,x3,x4,sP q,y6,y7]= .ok .nx [x0,x1,x2,x3,x4,sP q,sP (.bl true),sP .Ai]:=WJ (Ho (h:=.slot 5) rfl rfl (Y4 hq));unfold wO;simp! [↓h2]
theorem bp :ev cf mt tO ρ= .ok (.lst Eo) ρ:=by
 unfold tO;rw[GS];rfl
theorem Yk(ns:List Int)(h:ns.length<=63):∃outs,A0 fns mt A1 (k + 79) 23 [.b (.ro (ns.map .int))]= .ok (.p (.bl true)) outs:=by
 obtain⟨s,i,s1,s2,s3,s4⟩:=O3 (k:=k+77) (c:=cellAt ns 0);have n1:=Ya (c:=cellAt ns 0) s1 s2 s3;have n6:((List.range 6).map (Lp s i (cellAt ns 0))).length=6:=by simp
 generalize (List.range 6).map (Lp s i (cellAt ns 0))=xs at s4 n1 n6;have hc:ev (A0 fns mt A1 (k+78)) mt (.call 13 [.var 0,.cst (.int 0)]) [some (.b (.ro (ns.map .int))),none,none,none,none,none,none,none]= .ok (.p (.int (cellAt ns 0))) [some (.b (.ro (ns.map .int))),none,none,none,none,none,none,none]:=CT (i:=0) (j:=0) (k:=k+77) rfl rfl
 have e14:ev (A0 fns mt A1 (k + 78)) mt (.call 14 [.call 13 [.var 0,.cst (.int 0)]]) [some (.b (.ro (ns.map .int))),none,none,none,none,none,none,none]= .ok (.lst (AJ xs)) [some (.b (.ro (ns.map .int))),none,none,none,none,none,none,none]:=
  Ho (h:=.AD (.p (.int (cellAt ns 0)))) (by rw[B9,Hc,hc];rfl) rfl s4
 obtain⟨m,hm,hmin⟩:∃m:Int,(0<=m/\m<=48)/\(if(48:Int) < (ns.length:Int)then(48:Int)else(ns.length:Int))=m:=⟨_,by split<;>lia,rfl⟩
 have hden:A8 (A0 fns mt A1 (k + 78)) mt [.cst (.int 0),.prim .add [.cst (.int 1),.prim .min [.prim .len [.var 0],.cst (.int 48)]],.cst (.int 16)] [some (.b (.ro (ns.map .int))),sL (AJ xs),none,none,none,none,none,none]= .ok [.AD (.p (.int 0)),.AD (.p (.int (1 + m))),.AD (.p (.int 16))] [some (.b (.ro (ns.map .int))),sL (AJ xs),none,none,none,none,none,none]:=by
  have hl:=Pz ns;generalize ns.length=L at hl hmin;generalize ns.map Iv.P.int=l at hl ⊢;generalize AJ xs=N;simp! [hl,hmin]
 obtain⟨ρ',⟨y2,y3,rfl⟩,hloop⟩:=Cg (g:=.nm 2) (gs:=[]) (b:=execs (A0 fns mt A1 (k + 78)) mt A1 wL) (all:=(List.range ((1 + m - 0 + 16 - 1) / 16).toNat).map λk=>Iv.P.int (0 + 16 * (k:Nat)))
  (J:=λ_ ρ=>∃y2 y3:Option C,ρ=[some (.b (.ro (ns.map .int))),sL (AJ xs),y2,y3,none,none,none,none])
  (λ_ _ _=>rfl) (by
    intro dn x r hall ρ hJ;obtain⟨y2,y3,rfl⟩:=hJ;have hx:x∈(List.range ((1+m-0+16-1)/16).toNat).map λk=>Iv.P.int (0+16*(k:Nat)):=by rw[<-hall];simp
    obtain⟨j,_,rfl⟩:=mem_map.mp hx;obtain⟨z3,e⟩:=QC (k:=k) (ns:=ns) (a:=16*j) (xs:=xs) (y3:=y3) (y4:=none) (y5:=none) (y6:=none) (y7:=none) n6 n1;rw[show(0:Int)+16*((j:Nat):Int)=((16*j:Nat):Int)by lia]
    exact⟨_,_,.nx,rfl,e,.inl rfl,_,_,rfl⟩) _ [] [some (.b (.ro (ns.map .int))),sL (AJ xs),none,none,none,none,none,none] rfl ⟨_,_,rfl⟩
 have hfor:exec (A0 fns mt A1 (k + 78)) mt A1 (.Ca (.nm 2) .BZ [.cst (.int 0),.prim .add [.cst (.int 1),.prim .min [.prim .len [.var 0],.cst (.int 48)]],.cst (.int 16)] wL) [some (.b (.ro (ns.map .int))),sL (AJ xs),none,none,none,none,none,none]= .ok .nx [some (.b (.ro (ns.map .int))),sL (AJ xs),y2,y3,none,none,none,none]:=by
  rw[Fw];show(if IK.BZ.ok=true then(A8 _ mt _ _).bind _ else _)=_;rw[iP (show IK.BZ.ok=true from rfl),hden,Res.A2];unfold Jk;rw[show A9 [some (.b (.ro (ns.map .int))),sL (AJ xs),none,none,none,none,none,none] [.AD (.p (.int 0)),.AD (.p (.int (1+m))),.AD (.p (.int 16))]=some [.p (.int 0),.p (.int (1+m)),.p (.int 16)]from rfl];dsimp only
  rw[show Ap .BZ [.p (.int 0),.p (.int (1 + m)),.p (.int 16)]=some ((List.range ((1 + m - 0 + 16 - 1) / 16).toNat).map λk=>Iv.P.int (0 + 16 * (k:Nat)))by
    show(if _ then _ else _)=_
    rw[iP ⟨by decide,by decide,by decide,by lia⟩]]
  exact hloop
 obtain⟨ρ2,⟨z5,z6,z7,rfl⟩,hloop2⟩:=Cg (g:=.nm 5) (gs:=[]) (b:=execs (A0 fns mt A1 (k + 78)) mt A1 wO) (all:=AJ odd++Eo)
  (J:=λ_ ρ=>∃y5 y6 y7:Option C,ρ=[some (.b (.ro (ns.map .int))),sL (AJ xs),y2,y3,sL (AJ odd),y5,y6,y7])
  (λ_ _ _=>rfl) (by
    intro dn x r hall ρ hJ;obtain⟨y5,y6,y7,rfl⟩:=hJ;have hx:x∈AJ odd++Eo:=by rw[<-hall];simp
    exact⟨_,_,.nx,rfl,Qm hx,.inl rfl,_,_,_,rfl⟩) _ [] [some (.b (.ro (ns.map .int))),sL (AJ xs),y2,y3,sL (AJ odd),none,none,none] rfl ⟨_,_,_,rfl⟩
 have hfor2:exec (A0 fns mt A1 (k + 78)) mt A1 (.Ca (.nm 5) .op [.prim .add [.var 4,tO]] wO) [some (.b (.ro (ns.map .int))),sL (AJ xs),y2,y3,sL (AJ odd),none,none,none]= .ok .nx [some (.b (.ro (ns.map .int))),sL (AJ xs),y2,y3,sL (AJ odd),z5,z6,z7]:=by
  have hadd:Ha (.b (.lst (AJ odd))) (.b (.lst Eo))=some (.lst (AJ odd++Eo)):=by
   show(Ei (AJ odd++Eo)).map _=_;unfold Ei;rw[iP (by decide)];rfl
  have hd:A8 (A0 fns mt A1 (k + 78)) mt [.prim .add [.var 4,tO]] [some (.b (.ro (ns.map .int))),sL (AJ xs),y2,y3,sL (AJ odd),none,none,none]= .ok [.AD (.lst (AJ odd++Eo))] [some (.b (.ro (ns.map .int))),sL (AJ xs),y2,y3,sL (AJ odd),none,none,none]:=by
   have hO:∀(v:Iv.Env->Res C) (ρ:Iv.Env),Bn tO v ρ=jH (v ρ):=λ_ _=>rfl
   clear hloop2;generalize ns.map Iv.P.int=l;generalize AJ xs=N;generalize AJ odd++Eo=A at hadd ⊢;generalize AJ odd=B at hadd ⊢;simp! [hO,bp,hadd]
  rw[Fw];show(if IK.op.ok=true then(A8 _ mt _ _).bind _ else _)=_;rw[iP (show IK.op.ok=true from rfl),hd,Res.A2];unfold Jk;rw[show A9 [some (.b (.ro (ns.map .int))),sL (AJ xs),y2,y3,sL (AJ odd),none,none,none] [.AD (.lst (AJ odd++Eo))]=some [.lst (AJ odd++Eo)]from rfl];dsimp only;rw[show Ap .op [.lst (AJ odd++Eo)]=some (AJ odd++Eo)from rfl];exact hloop2
 have e4:∀ρ:Iv.Env,ev (A0 fns mt A1 (k+78)) mt (.lst ((AJ odd).map .cst)) ρ= .ok (.lst (AJ odd)) ρ:=λρ=>Ud (by decide)
 clear hloop hloop2 hden s4 hc;generalize ns.map Iv.P.int=l at e14 hfor hfor2 ⊢;generalize AJ xs=N at e14 hfor hfor2
 have e:execs (A0 fns mt A1 (k + 78)) mt A1 jr [some (.b (.ro l)),none,none,none,none,none,none,none]= .ok (.ret (.p (.bl true))) [some (.b (.ro l)),sL N,y2,y3,sL (AJ odd),z5,z6,z7]:=by
  rw[Zu];generalize hB:(T.lst ((AJ odd).map .cst))=tB at e4 ⊢;generalize AJ odd=B at e4 hfor2 ⊢;simp! [↓e14,↓hfor,↓e4,↓hfor2]
 exact⟨_,Ad dU rfl rfl e rfl⟩
end Lk50
namespace Lk50
open Iv
theorem Ui:∀ns:List Int,ns.length<=63->∃outs,A0 fns mt A1 98 23 [.b (.ro (ns.map .int))]= .ok (.p (.bl true)) outs:=λns h=>Yk (k:=19) ns h
end Lk50
open PySem PySem.W PyProof.Rows
set_option maxRecDepth 100000 in
set_option maxHeartbeats 0 in
theorem PySem.Challenge.cw_kinddeeds_k50_kinds_written_holds : PySem.Challenge.rw_kinddeeds_k50_kinds_written.Holds := by
  w_on; o_law; k_head; (case hw => w_witness2)
  k_fill
  refine Iv.walk (l := PySem.Challenge.rw_kinddeeds_k50_kinds_written) 63 200 [(219, 215)] rfl (by decide) rfl ⟨rfl, by decide, by decide⟩ (fun w h Y => PySem.W.km_in_of Y) (fun w h Y p hp => PySem.W.km_tabs_of Y p (by simp only [List.map_cons, List.map_nil, List.mem_cons, List.not_mem_nil, or_false] at hp ⊢; exact hp)) ?F
  case F =>
    intro w mg fa h KX G hmg
    refine' Lk50.all_mk Lk50.Ui KX G hmg ?_ ?_ ?_ ?_ ?_ ?_ ?_ ?_ ?_ ?_ ?_ ?_ ?_ ?_ ?_ ?_ ?_ ?_ ?_ ?_ ?_ ?_ ?_ ?_ ?_ ?_ ?_ ?_ ?_ ?_ ?_ ?_ ?_ ?_ ?_ ?_ ?_ ?_ ?_ ?_ ?_ ?_ ?_ ?_ ?_ ?_ ?_ ?_ ?_ ?_ ?_ ?_ ?_ ?_ ?_ ?_ ?_ ?_ ?_ ?_ ?_ ?_ ?_ ?_ ?_ ?_ ?_ ?_ ?_ ?_ ?_ ?_ ?_ ?_ ?_ ?_ ?_ ?_ ?_ ?_ ?_ ?_ ?_ ?_ ?_ ?_ ?_ ?_ ?_ ?_ ?_ ?_ ?_ ?_ ?_ ?_ ?_ ?_ ?_ ?_ ?_ ?_ ?_ ?_ ?_ ?_ ?_ ?_ ?_ ?_ ?_ ?_ ?_ ?_ ?_ ?_ ?_ ?_ ?_ ?_ ?_ ?_ ?_ ?_ ?_ ?_ ?_ ?_ ?_ ?_ ?_ ?_ ?_ ?_ ?_ ?_ ?_ ?_ ?_ ?_ ?_ ?_
    all_goals first
      | k_is
      | exact ⟨⟨_, _, _, _, _, _, _, _, _, rfl, by k_is, by k_is⟩, by k_is⟩
      | exact ⟨by k_is, by k_is, by k_is, by k_is⟩
      | exact ⟨by k_is, by k_is, by k_is, rfl⟩
      | rfl
      | kernel_rfl
      | (repeat first | exact Iv.Each.nil | refine Iv.Each.cons (by k_is) ?_)
