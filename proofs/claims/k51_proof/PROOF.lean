import PyProof.Rows.All
import Wide.All
import OpenK.AllK
import Wide.FinOn
import Lean
import PyProof.EqAt
import PyProof.EqKinds
import PyProof.TupleCall
import PyProof.WalksMore
import PyProof.Rows.SetFrom
import PyProof.CompMap
import PyProof.ZipIter
import KE.IntTextLaws
import KE.KIntText
import KE.KDictSum
import KE.KLam
import PySem.Challenge.RW_kinddeeds_k51_expressions_written
set_option Elab.async false
set_option linter.all false
set_option compiler.extract_closed false
set_option genSizeOf false
set_option maxRecDepth 100000
set_option maxHeartbeats 4000000
noncomputable section
namespace PySem.W.Fast
theorem tw5498144668106516718:True:=⟨⟩
theorem tw15240588552879292809:True:=⟨⟩
theorem tw18113675627810379889:True:=⟨⟩
theorem tw4791035294048054273:True:=⟨⟩
theorem tw10109273531920184228:True:=⟨⟩
theorem tw2561689393794819506:True:=⟨⟩
theorem tw11261469886256092363:True:=⟨⟩
theorem tw16023177999191180356:True:=⟨⟩
theorem tw12597803293818958542:True:=⟨⟩
theorem tw6947154003257886587:True:=⟨⟩
theorem tw4572451025872122013:True:=⟨⟩
theorem tw1946270470282116751:True:=⟨⟩
theorem tw16003976377749434615:True:=⟨⟩
theorem tw510568792386131033:True:=⟨⟩
theorem tw5424076237331846367:True:=⟨⟩
theorem tw12467237253286583021:True:=⟨⟩
theorem tw10649361002407577746:True:=⟨⟩
theorem tw15175492496862596798:True:=⟨⟩
theorem tw3137135865390957315:True:=⟨⟩
theorem tw9828000190892441112:True:=⟨⟩
theorem tw13375556069596096317:True:=⟨⟩
theorem tw5008986773892617660:True:=⟨⟩
theorem tw17459894306964070551:True:=⟨⟩
theorem tw16476532735081500832:True:=⟨⟩
theorem tw15718278017500220199:True:=⟨⟩
theorem tw4824238933188277946:True:=⟨⟩
theorem tw9550755615037237771:True:=⟨⟩
theorem tw10064933759871459439:True:=⟨⟩
theorem tw1802039100782305369:True:=⟨⟩
theorem tw867962333062717085:True:=⟨⟩
theorem tw16938569909106624338:True:=⟨⟩
theorem tw11777070259670064681:True:=⟨⟩
theorem tw11810248051071173071:True:=⟨⟩
theorem tw3388355004892538562:True:=⟨⟩
theorem tw6098100816104653316:True:=⟨⟩
theorem tw12491434008347270569:True:=⟨⟩
theorem tw3603523658479280860:True:=⟨⟩
theorem tw18333239066388990794:True:=⟨⟩
theorem tw1466599108893090305:True:=⟨⟩
theorem tw3903281513731426175:True:=⟨⟩
theorem tw15019941723649470793:True:=⟨⟩
theorem tw7066616462402400777:True:=⟨⟩
theorem tw863077418644573185:True:=⟨⟩
theorem tw17537627912444670872:True:=⟨⟩
theorem tw9957924198295535647:True:=⟨⟩
theorem tw361589647705736726:True:=⟨⟩
theorem tw4964306954948988105:True:=⟨⟩
theorem tw12003462080274281287:True:=⟨⟩
theorem tw18061813755548303117:True:=⟨⟩
theorem tw17951333740600202050:True:=⟨⟩
theorem tw6624832778779867244:True:=⟨⟩
theorem tw11399164887441956163:True:=⟨⟩
theorem tw10525525863070062408:True:=⟨⟩
theorem tw1054194801186318636:True:=⟨⟩
theorem tw11225516364686975779:True:=⟨⟩
theorem tw6890964459649437051:True:=⟨⟩
theorem tw1114283948502953498:True:=⟨⟩
theorem tw16180540562502332416:True:=⟨⟩
theorem tw16923962491059040865:True:=⟨⟩
theorem tw1444633804341768100:True:=⟨⟩
theorem tw1982962551766762511:True:=⟨⟩
theorem tw464091929544868760:True:=⟨⟩
theorem tw143354143227876763:True:=⟨⟩
theorem tw2504240853126689829:True:=⟨⟩
theorem tw4625533313711375972:True:=⟨⟩
theorem tw6104861117615100719:True:=⟨⟩
theorem tw11636166573343533889:True:=⟨⟩
theorem tw5497989400090349431:True:=⟨⟩
theorem tw1519515397317996820:True:=⟨⟩
theorem tw8817080231790568973:True:=⟨⟩
theorem tw3265273784524279412:True:=⟨⟩
theorem tw3804885663040061298:True:=⟨⟩
theorem tw1789355829298616282:True:=⟨⟩
theorem tw5520646459798932997:True:=⟨⟩
theorem tw18323600369772671739:True:=⟨⟩
theorem tw8030175685366803543:True:=⟨⟩
theorem tw6461957241525382160:True:=⟨⟩
theorem tw12293649764170797900:True:=⟨⟩
theorem tw17050030768817452461:True:=⟨⟩
theorem tw9831302997582995309:True:=⟨⟩
theorem tw16959908828116116740:True:=⟨⟩
theorem tw6596961533251996767:True:=⟨⟩
theorem tw8642332427567224482:True:=⟨⟩
theorem tw13200610767819060028:True:=⟨⟩
theorem tw9637725541601997082:True:=⟨⟩
theorem tw7908756952385548196:True:=⟨⟩
theorem tw16590668643652402245:True:=⟨⟩
theorem tw9008305960036003371:True:=⟨⟩
theorem tw3762961870073757599:True:=⟨⟩
theorem tw17133338482985275830:True:=⟨⟩
theorem tw7258095305987697249:True:=⟨⟩
theorem tw6731881130406852797:True:=⟨⟩
theorem tw13088621995694671393:True:=⟨⟩
theorem tw3407593084462224567:True:=⟨⟩
theorem tw16492564029473646199:True:=⟨⟩
theorem tw7077647997675482111:True:=⟨⟩
theorem tw9794711762087267654:True:=⟨⟩
theorem tw16513375584248525110:True:=⟨⟩
theorem tw1948261110837957390:True:=⟨⟩
theorem tw3009799644903690130:True:=⟨⟩
theorem tw16530549449763261750:True:=⟨⟩
theorem tw9167458552800064133:True:=⟨⟩
theorem tw16175165179077712032:True:=⟨⟩
theorem tw11955331536762360381:True:=⟨⟩
theorem tw13753356553948243541:True:=⟨⟩
theorem tw2225387280228356564:True:=⟨⟩
theorem tw15488241322551956033:True:=⟨⟩
theorem tw13636346020126917433:True:=⟨⟩
theorem tw9677643336271535252:True:=⟨⟩
theorem tw2661111010642304267:True:=⟨⟩
theorem tw549220887010987825:True:=⟨⟩
theorem tw6632070398342191563:True:=⟨⟩
theorem tw17396102134023239144:True:=⟨⟩
theorem tw16424028221763109228:True:=⟨⟩
theorem tw507123423447499882:True:=⟨⟩
theorem tw10886470833844028005:True:=⟨⟩
theorem tw9974497093411140121:True:=⟨⟩
theorem tw9896916174482178901:True:=⟨⟩
theorem tw5003299302680589881:True:=⟨⟩
theorem tw1103818902367202102:True:=⟨⟩
theorem tw14134025440277834475:True:=⟨⟩
theorem tw5138420558053659838:True:=⟨⟩
theorem tw8049251636766941176:True:=⟨⟩
theorem tw10541632032329905572:True:=⟨⟩
theorem tw3818040707861013180:True:=⟨⟩
theorem tw13121209350389638466:True:=⟨⟩
theorem tw15200367912456992635:True:=⟨⟩
theorem tw16411980124106145725:True:=⟨⟩
theorem tw10415708939555644552:True:=⟨⟩
theorem tw9152187197684495522:True:=⟨⟩
theorem tw3697508552505284649:True:=⟨⟩
theorem tw17084132995780789501:True:=⟨⟩
theorem tw6148347549652816414:True:=⟨⟩
theorem tw1157356409191257844:True:=⟨⟩
theorem tw8987109605388204443:True:=⟨⟩
theorem tw18198484411048656650:True:=⟨⟩
theorem tw859196010268713957:True:=⟨⟩
theorem tw17665406906243396064:True:=⟨⟩
theorem tw8821701104088189420:True:=⟨⟩
theorem tw6302937885874012128:True:=⟨⟩
theorem tw17646682107579713373:True:=⟨⟩
theorem tw13438418977263375823:True:=⟨⟩
theorem tw7471984856395817321:True:=⟨⟩
theorem tw14922924076430065930:True:=⟨⟩
theorem tw1643215494806783058:True:=⟨⟩
theorem tw9930980300042145956:True:=⟨⟩
theorem tw18411562418894605466:True:=⟨⟩
theorem tw9835228981968267415:True:=⟨⟩
theorem tw5933629347705695373:True:=⟨⟩
theorem tw12960373452446275741:True:=⟨⟩
theorem tw11762861368231230557:True:=⟨⟩
theorem tw14635525210880320396:True:=⟨⟩
theorem tw14301265281633970366:True:=⟨⟩
theorem tw12777206464142812588:True:=⟨⟩
theorem tw7292293981076445661:True:=⟨⟩
theorem tw4787038144542217901:True:=⟨⟩
theorem tw12995833261539468549:True:=⟨⟩
theorem tw13103442770026812911:True:=⟨⟩
theorem tw10815877008045625030:True:=⟨⟩
theorem tw5009390031435426339:True:=⟨⟩
theorem tw11108698872209597709:True:=⟨⟩
theorem tw485930339980083364:True:=⟨⟩
theorem tw12107088462063536131:True:=⟨⟩
theorem tw15556920466462549021:True:=⟨⟩
theorem tw6167237636784774737:True:=⟨⟩
theorem tw9323402644649855673:True:=⟨⟩
theorem tw1567973929016713958:True:=⟨⟩
theorem tw17950799392438622029:True:=⟨⟩
theorem tw1134962785135158512:True:=⟨⟩
theorem tw13273018396286306496:True:=⟨⟩
theorem tw3301596635642301882:True:=⟨⟩
theorem tw1029407871176414708:True:=⟨⟩
theorem tw14883290903642540072:True:=⟨⟩
theorem tw683577873495759109:True:=⟨⟩
theorem tw1431612468221236851:True:=⟨⟩
theorem tw14837736768277751872:True:=⟨⟩
theorem tw12024683848187935987:True:=⟨⟩
theorem tw15834829561197768613:True:=⟨⟩
theorem tw6675336917816081012:True:=⟨⟩
theorem tw6176074866357733133:True:=⟨⟩
theorem tw5621310029365119715:True:=⟨⟩
theorem tw13042429603209575189:True:=⟨⟩
theorem tw4516227512177854612:True:=⟨⟩
theorem tw15088189586494896523:True:=⟨⟩
theorem tw7679285153239128443:True:=⟨⟩
theorem tw18277774383139479547:True:=⟨⟩
theorem tw14460310556905277838:True:=⟨⟩
theorem tw13996722077915216500:True:=⟨⟩
theorem tw836513857700414356:True:=⟨⟩
theorem tw1755869616698167082:True:=⟨⟩
theorem tw10663333914786092035:True:=⟨⟩
theorem tw18186816476585828680:True:=⟨⟩
theorem tw8753594211540356979:True:=⟨⟩
theorem tw14334447069692887559:True:=⟨⟩
theorem tw17501209800941348537:True:=⟨⟩
theorem tw17040482479723093033:True:=⟨⟩
theorem tw17212744802961412290:True:=⟨⟩
theorem tw6647338915221184393:True:=⟨⟩
theorem tw8940725835480180645:True:=⟨⟩
theorem tw11786276771681707476:True:=⟨⟩
theorem tw2639386172107369357:True:=⟨⟩
theorem tw13355551105114683314:True:=⟨⟩
theorem tw12187615805790106628:True:=⟨⟩
theorem tw14459848486870816256:True:=⟨⟩
theorem tw13434145180620924052:True:=⟨⟩
theorem tw1548832368738961630:True:=⟨⟩
theorem tw6938162161881631468:True:=⟨⟩
theorem tw7654070814636070431:True:=⟨⟩
theorem tw14316960525747138279:True:=⟨⟩
theorem tw1019100624930092292:True:=⟨⟩
theorem tw12422048383142088217:True:=⟨⟩
theorem tw7367136490583968165:True:=⟨⟩
theorem tw16881503222176949448:True:=⟨⟩
theorem tw13306815991096317891:True:=⟨⟩
theorem tw8029965945345773295:True:=⟨⟩
theorem tw9174600736848767222:True:=⟨⟩
theorem tw767042886017791662:True:=⟨⟩
theorem tw358611809538727157:True:=⟨⟩
theorem tw7941408445060539638:True:=⟨⟩
theorem tw15711323108943298543:True:=⟨⟩
theorem tw18418656472171467223:True:=⟨⟩
theorem tw8966124581063911246:True:=⟨⟩
theorem tw3686279625516060094:True:=⟨⟩
theorem tw13076485615226449087:True:=⟨⟩
theorem tw7306307629271129068:True:=⟨⟩
theorem tw12571378334197786225:True:=⟨⟩
theorem tw13574418397667513335:True:=⟨⟩
theorem tw13428778874898487890:True:=⟨⟩
theorem tw1007332061701087911:True:=⟨⟩
theorem tw7639618590769094271:True:=⟨⟩
theorem tw261182737420226330:True:=⟨⟩
theorem tw13360491304842108609:True:=⟨⟩
theorem tw2805604272614543840:True:=⟨⟩
theorem tw7717055088554624397:True:=⟨⟩
theorem tw13442655764759870214:True:=⟨⟩
theorem tw16090971919988920747:True:=⟨⟩
theorem tw16190311255153458319:True:=⟨⟩
theorem tw10812222275984464724:True:=⟨⟩
theorem tw10436925014737289183:True:=⟨⟩
theorem tw18122830970433511367:True:=⟨⟩
theorem tw11627937492024694340:True:=⟨⟩
theorem tw2447450179243362934:True:=⟨⟩
theorem tw15915398878004878317:True:=⟨⟩
theorem tw4467615910347504627:True:=⟨⟩
theorem tw16134592540813153739:True:=⟨⟩
theorem tw5357559032021505066:True:=⟨⟩
theorem tw9877865686771491085:True:=⟨⟩
theorem tw5058078468000358092:True:=⟨⟩
theorem tw16881047198164093721:True:=⟨⟩
theorem tw18224379019764215540:True:=⟨⟩
theorem tw3628109219503435994:True:=⟨⟩
theorem tw12645939877565637634:True:=⟨⟩
theorem tw2601264794616625667:True:=⟨⟩
theorem tw13899182178878406342:True:=⟨⟩
theorem tw13570830995560583718:True:=⟨⟩
theorem tw10875275888117330773:True:=⟨⟩
theorem tw444539062202323552:True:=⟨⟩
theorem tw13340259391909246294:True:=⟨⟩
theorem tw14716086736990933594:True:=⟨⟩
theorem tw14062330674267219989:True:=⟨⟩
theorem tw16451030220998630865:True:=⟨⟩
theorem tw2046978775709920597:True:=⟨⟩
theorem tw7147017311435295506:True:=⟨⟩
theorem tw8125286596012553097:True:=⟨⟩
theorem tw8452688666775655891:True:=⟨⟩
theorem tw4472974798907659585:True:=⟨⟩
theorem tw17829143726935346831:True:=⟨⟩
end PySem.W.Fast
open List (mem_cons nodup_append mem_filter mem_range filterMap_cons mem_append mem_filterMap size_toArray map_cons append_nil nodup_cons of_mem_zip length_take length_drop replicate_succ flatten_cons append_assoc foldl_cons nil_append map_nil lookup_cons all_eq_true getElem_mem perm_append_comm ext_getElem? set_set length_eq_zero_iff all_cons length_set zip_cons_cons not_lt take_of_length_le length_range map_congr_left foldl_append map_map cons_append mem_map_of_mem mem_map not_mem_nil map_append sum_cons map_id'' length_nil)
open PySem.W (instObj methodObj hideAll hideAll_size hideAll_get of_hideAll hideAll_none lookIn InstAt plainGet hasDictIn findIn handedIn plainGet_of isFn plainOver takerIn Looks makesIn typeIn emptyDict keepIn methodCall_KW callWith_K callWith_K0 cellsFrom_some codeIn kitOne kia_one kitx_none kitx_bool kitx_int kitx_str kitx_tuple kitx_list kitx_dict CodeHd kla_fn tabObj envX codeHdIn codeHd_of_K nsIn mg_of)
theorem mS{α:Type}{a:α}{l:List α}:a∈a::l:=List.mem_cons_self
theorem mC{α:Type}{a b:α}{l:List α}(h:b∈l):b∈a::l:=List.mem_cons_of_mem a h
theorem mL{α:Type}{a:α}{l m:List α}(h:a∈l):a∈l++m:=List.mem_append_left m h
theorem mR{α:Type}{a:α}{l m:List α}(h:a∈m):a∈l++m:=List.mem_append_right l h
theorem mE{α:Type}{a b:α}(h:a∈[b]):a=b:=List.mem_singleton.mp h
theorem mK{α:Type}{a b:α}{l:List α}(h:a∈b::l):a=b\/a∈l:=mem_cons.mp h
theorem dF{p:Prop}[Decidable p](h:¬p):decide p=false:=decide_eq_false h
theorem oB{α β:Type}{x:Option α}{f:α->Option β}{b:β}(h:x.bind f=some b):∃a,x=some a/\f a=some b:=Option.bind_eq_some_iff.mp h
theorem oM{α β:Type}{x:Option α}{f:α->β}{b:β}(h:x.map f=some b):∃a,x=some a/\f a=b:=Option.map_eq_some_iff.mp h
theorem lR{n:Nat}:n<=n:=Nat.le_refl n
theorem lA{α:Type}{a b:List α}:(a++b).length=a.length+b.length:=List.length_append
theorem lS{α:Type}{a:α}:[a].length=1:=rfl
theorem lC{α:Type}{a:α}{l:List α}:(a::l).length=l.length+1:=rfl
theorem lM{α β:Type}{f:α->β}{l:List α}:(l.map f).length=l.length:=List.length_map f
theorem bA(a b:Bool):((a&&b)=true)=(a=true/\b=true):=Bool.and_eq_true a b
theorem PySem.wB{α β:Type}{M:PySem.Model}{A:PySem.Around}{E:PySem.Value->PySem.Shared->Prop}{s:PySem.Shared}{m:PySem.Sem α}{f:α->PySem.Sem β}{Q:β->PySem.Shared->Prop}(h:PySem.wpAny M A m (λa s'=>PySem.wpAny M A (f a) Q E s') E s):PySem.wpAny M A (m>>=f) Q E s:=PySem.wpAny_bind h
theorem PySem.wP{α:Type}{M:PySem.Model}{A:PySem.Around}{E:PySem.Value->PySem.Shared->Prop}{s:PySem.Shared}{a:α}{Q:α->PySem.Shared->Prop}(h:Q a s):PySem.wpAny M A (pure a) Q E s:=PySem.wpAny_pure h
theorem PySem.gP{h:PySem.Heap}{b:PySem.Addr}{o u:PySem.Obj}(e:h.get? b=some u):(h.push o).get? b=some u:=PySem.Heap.get?_push_of_some o e
theorem iP{c:Prop}{i:Decidable c}(h:c){α:Type}{t e:α}:(@ite α c i t e)=t:=if_pos h
theorem iN{c:Prop}{i:Decidable c}(h:¬c){α:Type}{t e:α}:(@ite α c i t e)=e:=if_neg h
theorem nA{α:Type}{l m:List α}(h:(l++m).Nodup):l.Nodup/\m.Nodup/\∀a∈l,∀b∈m,a≠b:=nodup_append.mp h
namespace L2
open PySem PySem.Spec PyProof.Rows
abbrev Key:=Sum Int Str
def Vs:Key->Value->Bool
 |.inl k,v=>Value.isInt k v
 |.inr x,v=>Value.isStrOf x v
def gj(w:World):Key->Int
 |.inl k=>hashInt k
 |.inr x=>hashStr w x
theorem B0:∀{k:Key} {v:Value},Vs k v=true->(∃i t,k=Sum.inl i/\v=Value.int i t)\/(∃x t,k=Sum.inr x/\v=Value.str x t)
 | .inl i,v,h=>by
   obtain⟨t,e⟩:=Value.isInt_shape (k:=i) (v:=v) h;exact .inl ⟨i,t,rfl,e⟩
 | .inr x,v,h=>by
   obtain⟨t,e⟩:=Value.isStrOf_shape (x:=x) (v:=v) h;exact .inr ⟨x,t,rfl,e⟩
theorem Xx(a b:Int):decide ((Sum.inl a:Key)=Sum.inl b)=(a == b):=by
 by_cases e:a=b
 .subst e;simp
 .have h:¬(Sum.inl a:Key)=Sum.inl b:=λq=>e (Sum.inl.inj q)
  rw[dF h];exact(beq_eq_false_iff_ne.mpr e).symm
theorem Xu(a b:Str):decide ((Sum.inr a:Key)=Sum.inr b)=decide (a=b):=by
 by_cases e:a=b
 .subst e;simp
 .have h:¬(Sum.inr a:Key)=Sum.inr b:=λq=>e (Sum.inr.inj q)
  rw[dF h,dF e]
theorem Xw(a:Int)(b:Str):decide ((Sum.inl a:Key)=Sum.inr b)=false:=dF (λq=>nomatch q)
theorem Xv(a:Str)(b:Int):decide ((Sum.inr a:Key)=Sum.inl b)=false:=dF (λq=>nomatch q)
noncomputable def J9(prog:Program)(w:World):PySem.KeyKind prog w Key where
 is:=Vs
 hash:=gj w
 inj :=λv a b ha hb=>by
  rcases B0 ha with⟨i,t,rfl,rfl⟩|⟨x,t,rfl,rfl⟩
  .rcases B0 hb with⟨j,u,rfl,e⟩|⟨y,u,rfl,e⟩
   .injection e with e1 _;rw[e1]
   .exact nomatch e
  .rcases B0 hb with⟨j,u,rfl,e⟩|⟨y,u,rfl,e⟩
   .exact nomatch e
   .injection e with e1 _;rw[e1]
 byValue:=λk v h=>by
  rcases B0 h with⟨i,t,rfl,rfl⟩|⟨x,t,rfl,rfl⟩<;>rfl
 pyHash:=λhv h=>by
  rcases B0 hv with⟨i,t,rfl,rfl⟩|⟨x,t,rfl,rfl⟩
  .exact wpAny_pyHash_int h
  .exact wpAny_pyHash_str h
 eqBool:=λhu hv h=>by
  rcases B0 hu with⟨i,t,rfl,rfl⟩|⟨x,t,rfl,rfl⟩
  .rcases B0 hv with⟨j,u,rfl,rfl⟩|⟨y,u,rfl,rfl⟩
   .rw[Xx]at h;exact wpAny_eqBool_int h
   .rw[Xw]at h;exact SeqAt.EqAt.int_str i t y u _ _ _ _ h
  .rcases B0 hv with⟨j,u,rfl,rfl⟩|⟨y,u,rfl,rfl⟩
   .rw[Xv]at h;exact SeqAt.EqAt.str_int x t j u _ _ _ _ h
   .rw[Xu]at h;exact wpAny_eqBool_str h
 «strs»:=λk x t v h=>by
  rcases B0 h with⟨i,u,rfl,e⟩|⟨y,u,rfl,e⟩
  .exact nomatch e
  .injection e with e1 _
   subst e1;cases v<;>rfl
inductive V where
 |Az|bl (b:Bool)|int (i:Int)|str (x:Str)|VM (b:Array UInt8)|dP (b:UInt64)|ref (a:Addr)|ty (n:String)
 deriving DecidableEq
noncomputable def RelV:V->Value->Prop
 |.Az,u=>u=Value.none
 |.bl b,u=>u=Value.bool b
 |.int i,u=>∃t,u=Value.int i t
 |.str x,u=>∃t,u=Value.str x t
 |.VM b,u=>∃t,u=Value.bytes b t
 |.dP b,u=>∃t,u=Value.float b t
 |.ref a,u=>u=Value.ref a
 |.ty n,u=>u=Value.type n
abbrev Vals:List V->List Value->Prop:=Paired RelV
variable{us:List Value}
theorem Vals.length{xs:List V}(r:Vals xs us):xs.length=us.length:=Paired.length r
theorem Vals.get:∀{xs:List V} {us:List Value} {i:Nat} {x:V},Vals xs us->xs[i]? =some x->∃u,us[i]? =some u/\RelV x u
 |_,_,_,_,.nil,e=>by simp at e
 |_,_,0,_,.cons r _,e=>by simp at e;subst e;exact⟨_,rfl,r⟩
 | _,_,i + 1,x,.cons _ t,e=>by
   obtain⟨u,h1,h2⟩:=Vals.get (i:=i) (x:=x) t (by simpa using e);exact⟨u,by simpa using h1,h2⟩
theorem Vals.append:∀{xs ys:List V} {us ws:List Value},Vals xs us->Vals ys ws->Vals (xs++ys) (us++ws)
 |_,_,_,_,.nil,s=>s
 |_,_,_,_,.cons r t,s=>.cons r (Vals.append t s)
theorem Vals.take:∀{xs:List V} {us:List Value} (n:Nat),Vals xs us->Vals (xs.take n) (us.take n)
 |_,_,0,_=>.nil
 |_,_,_+1,.nil=>.nil
 |_,_,n+1,.cons r t=>.cons r (Vals.take n t)
theorem Vals.drop:∀{xs:List V} {us:List Value} (n:Nat),Vals xs us->Vals (xs.drop n) (us.drop n)
 |_,_,0,r=>r
 |_,_,_+1,.nil=>.nil
 |_,_,n+1,.cons _ t=>Vals.drop n t
def HP:Option V->Option Value->Prop
 |some v,some u=>RelV v u
 |none,none=>True
 |_,_=>False
def KV{κ:Type}:List (κ×V)->List (κ×Value)->Prop:=Paired λ(p:κ×V) (q:κ×Value)=>p.1=q.1/\RelV p.2 q.2
def kV:Key->V
 |.inl i=>.int i
 |.inr x=>.str x
inductive HO where
 |lst (xs:List V)
 |tup (xs:List V)
 |dK (kvs:List (Key×V))|dT (kvs:List (List Key×V))
 |set (S:Int->Bool)(n:Nat)
 |ins (C dx:Addr)(fs:List (Str×V))
 |own (x:Addr)
 |xd (fs:List (Str×V))
 |met (f x:Addr)
 |BC (lo hi:Int)
 |La (o:Obj)(u:HO)
 |JQ (ps:Array Value)
 |ext (φ:Heap->Prop)
abbrev Hp:=Addr->Option HO
def upd(H:Hp)(a:Addr)(o:HO):Hp:=λb=>if b=a then some o else H b
variable{H:Hp}
theorem Ar:upd H a o a=some o:=by unfold upd;rw[iP rfl]
theorem Ab{a b:Addr}(h:b≠a):upd H a o b=H b:=by unfold upd;rw[iN h]
theorem AS{o:HO}(h:H a=some o)(h':H b=none):a≠b:=by
 intro e;subst e;rw[h]at h';cases h'
section
variable (P:Program)(w:World)
noncomputable def BM(H:Hp)(h:Heap)(a:Addr):HO->Prop
 |.lst xs=>xs.length<=sizeLine/\∃(its:List Value) (n:Nat),Vals xs its/\h.get? a=some {cls:=.type "list",data:=.seq its.toArray n}
 |.tup xs=>xs.length<=sizeLine/\∃its:List Value,Vals xs its/\IsTup h a its.toArray
 |.dK kvs=>kvs.length<=sizeLine/\(a == sysModules)=false/\∃vs,KV kvs vs/\h.DictOf (J9 P w) a vs
 | .dT kvs=>kvs.length<=sizeLine/\(a == sysModules)=false/\∃xs:List (List Key×Addr×Value),
  Paired (λ(p:List Key×V) (q:List Key×Addr×Value)=>p.1=q.1/\H q.2.1=some (.tup (p.1.map kV))/\RelV p.2 q.2.2) kvs xs/\
  ∃o es ep,h.get? a=some o/\o.ExactDict/\o.data= .dict es ep/\es.toList=xs.map (entryOfKey (tupleKind (J9 P w)))/\(xs.map (·.1)).Nodup
 |.set S n=>h.SetOf (intKind P w) a S n
 | .ins C dx fs=>H dx=some (.own a)/\fs.length<=1000/\dx≠a/\h.get? a=some (instObj C dx)/\
  ∃mA,h.Ns1 dx mA/\(∀f,HP (fs.lookup f) (mA f))/\PySem.Within mA (fs.map (·.1))
 |.own _=>∃o,h.get? a=some o
 |.xd fs=>∃mA,h.Ns1 a mA/\∀f,HP (fs.lookup f) (mA f)
 |.BC lo hi=>∃t u v,h.get? a=some {cls:=.type "range",data:=.fields #[.int lo t,.int hi u,.int 1 v]}
 |.La o u=>h.get? a=some o/\BM H h a u
 |.JQ ps=>h.get? a=some {cls:=.none,data:=.fields ps}
 |.met f x=>h.get? a=some (methodObj (.ref f) (.ref x))
 |.ext φ=>φ h/\(∃o,h.get? a=some o)/\∀h1 h2:Heap,φ h1->(∀o,h1.get? a=some o->h2.get? a=some o)->φ h2
def Ee(H:Hp)(h:Heap):Prop:=∀a o,H a=some o->BM P w H h a o
end
section
variable{P:Program}{w:World}{H H':Hp}{h h':Heap}{a:Addr}{o:HO}
theorem BM.lt(x:BM P w H h a o):a < h.objs.size:=by
 cases o with
 |lst xs=>obtain⟨_,_,_,_,e⟩:=x;exact Heap.lt_size e
 |tup xs=>obtain⟨_,_,_,p⟩:=x;exact p.lt
 |dK kvs=>obtain⟨_,_,_,_,o,_,_,e,_⟩:=x;exact Heap.lt_size e
 |dT kvs=>obtain⟨_,_,_,_,o,_,_,e,_⟩:=x;exact Heap.lt_size e
 |set S n=>obtain⟨o,_,_,_,e,_⟩:=x;exact Heap.lt_size e
 |ins C dx fs=>obtain⟨_,_,_,e,_⟩:=x;exact Heap.lt_size e
 |own y=>obtain⟨_,e⟩:=x;exact Heap.lt_size e
 |xd fs=>obtain⟨_,⟨_,_,_,e,_⟩,_⟩:=x;exact Heap.lt_size e
 |BC lo hi=>obtain⟨_,_,_,e⟩:=x;exact Heap.lt_size e
 |La ob u=>obtain⟨e,_⟩:=x;exact Heap.lt_size e
 |JQ ps=>exact Heap.lt_size (show h.get? a=some _ from x)
 |met f y=>exact Heap.lt_size (show h.get? a=some _ from x)
 |ext φ=>obtain⟨_,⟨_,e⟩,_⟩:=x;exact Heap.lt_size e
theorem Paired.Xn{α β:Type}{F G:α->β->Prop}:∀{l₁:List α} {l₂:List β},Paired F l₁ l₂->(∀a b,F a b->G a b)->Paired G l₁ l₂
 |_,_,.nil,_=>.nil
 |_,_,.cons r t,f=>.cons (f _ _ r) (Paired.Xn t f)
theorem BM.Lj(x:BM P w H h a o)(k:∀b u,(b=a\/H b=some (.own a))->h.get? b=some u->h'.get? b=some u)
 (ho:∀b,H b=some (.own a)->H' b=some (.own a))(ht:∀b xs,H b=some (.tup xs)->H' b=some (.tup xs)):BM P w H' h' a o:=by
 induction o with
 |lst xs=>obtain⟨z,its,n,r,e⟩:=x;exact⟨z,its,n,r,k _ _ (.inl rfl) e⟩
 |tup xs=>obtain⟨z,its,r,ob,e,c⟩:=x;exact⟨z,its,r,ob,k _ _ (.inl rfl) e,c⟩
 |dK kvs=>obtain⟨z,y,vs,r,ob,es,ep,e,c⟩:=x;exact⟨z,y,vs,r,ob,es,ep,k _ _ (.inl rfl) e,c⟩
 |dT kvs=>
   obtain⟨z,y,xs,r,ob,es,ep,e,c⟩:=x;exact⟨z,y,xs,Paired.Xn r λp q z=>⟨z.1,ht _ _ z.2.1,z.2.2⟩,ob,es,ep,k _ _ (.inl rfl) e,c⟩
 |set S n=>obtain⟨ob,es,ep,t,e,c⟩:=x;exact⟨ob,es,ep,t,k _ _ (.inl rfl) e,c⟩
 |ins C dx fs=>
   obtain⟨d,z,ne,e,mA,⟨od,es,ep,e2,c⟩,r⟩:=x;exact⟨ho _ d,z,ne,k _ _ (.inl rfl) e,mA,⟨od,es,ep,k _ _ (.inr d) e2,c⟩,r⟩
 |own y=>obtain⟨ob,e⟩:=x;exact⟨ob,k _ _ (.inl rfl) e⟩
 |xd fs=>obtain⟨mA,⟨od,es,ep,e,c⟩,r⟩:=x;exact⟨mA,⟨od,es,ep,k _ _ (.inl rfl) e,c⟩,r⟩
 |BC lo hi=>obtain⟨t,u,v,e⟩:=x;exact⟨t,u,v,k _ _ (.inl rfl) e⟩
 |La ob u ih=>obtain⟨e,q⟩:=x;exact⟨k _ _ (.inl rfl) e,ih q⟩
 |JQ ps=>
   have e:h.get? a=some {cls:=.none,data:=.fields ps}:=x;show h'.get? a=some {cls:=.none,data:=.fields ps};exact k a _ (.inl rfl) e
 |met f y=>
   have e:h.get? a=some (methodObj (.ref f) (.ref y)):=x;show h'.get? a=some (methodObj (.ref f) (.ref y));exact k a _ (.inl rfl) e
 |ext φ=>obtain⟨p,⟨o,e⟩,st⟩:=x;exact⟨st _ _ p λo q=>k _ _ (.inl rfl) q,⟨o,k _ _ (.inl rfl) e⟩,st⟩
theorem Ee.lt(x:Ee P w H h)(e:H a=some o):a < h.objs.size:=(x a o e).lt
theorem Ee.fresh(x:Ee P w H h)(e:h.objs.size<=a):H a=none:=by
 cases q:H a with
 |none=>rfl
 |some u=>exact absurd (Nat.lt_of_lt_of_le (x.lt q) e) (Nat.lt_irrefl _)
theorem Ee.kept(x:Ee P w H h)(k:∀b u,h.get? b=some u->h'.get? b=some u):Ee P w H h':=λa o e=>
 (x a o e).Lj (λb u _ q=>k b u q) (λ_ q=>q) λ_ _ q=>q
theorem Ee.laid(x:Ee P w H h)(k:∀b u,h.get? b=some u->h'.get? b=some u)(hp:h.objs.size<=a)(new:BM P w (upd H a o) h' a o):Ee P w (upd H a o) h':=λb u e=>by
 have hn:=x.fresh hp
 by_cases hb:b=a
 .subst hb;rw[Ar]at e;cases e;exact new
 .rw[Ab hb]at e;exact(x b u e).Lj (λc v _ q=>k c v q) (λc q=>by rw[Ab (AS q hn)];exact q) λc xs q=>by rw[Ab (AS q hn)];exact q
end
def Rd(H:Hp)(a:Addr)(u:HO):Prop:=H a=some u\/∃o,H a=some (.La o u)
variable{w:World}{h:Heap}
theorem Rd.ok{P:Program}(r:Rd H a u)(x:Ee P w H h):BM P w H h a u:=by
 rcases r with r|⟨o,r⟩
 .exact x a u r
 .obtain⟨_,q⟩:=x a _ r;exact q
noncomputable def eQ:Option HO->Prop
 |some (.lst _)=>True
 |some (.dK _)=>True
 |some (.dT _)=>True
 |some (.set _ _)=>True
 |some (.ins _ _ _)=>True
 |some (.ext _)=>True
 |_=>False
section
variable{P:Program}{w:World}{H:Hp}{h h':Heap}{x e:Addr}{o':HO}
theorem Ee.write(ok:Ee P w H h)(mu:eQ (H x))(he:e=x\/H e=some (.own x))(k:∀b u,b≠e->h.get? b=some u->h'.get? b=some u)(heo:∃u,h'.get? e=some u)
 (new:BM P w (upd H x o') h' x o'):Ee P w (upd H x o') h':=λb u q=>by
 have nown:∀c y,H c=some (.own y)->c≠x:=λc y r z=>by subst z;rw[r]at mu;exact mu
 have ntup:∀c xs,H c=some (.tup xs)->c≠x:=λc xs r z=>by subst z;rw[r]at mu;exact mu
 by_cases hb:b=x
 .subst hb;rw[Ar]at q;cases q;exact new
 .rw [Ab hb]at q
  by_cases hbe:b=e
  .have q':H b=some (.own x):=by
    rcases he with z|z
    .exact absurd (hbe.trans z) hb
    .rw[hbe];exact z
   rw[q]at q';cases q';obtain⟨v,hv⟩:=heo;exact⟨v,by rw[hbe];exact hv⟩
  .refine(ok b u q).Lj (λc v hc r=>k c v ?_ r) (λc r=>by rw[Ab (nown c b r)];exact r) λc xs r=>by rw[Ab (ntup c xs r)];exact r
   rcases hc with rfl|hc
   .exact hbe
   .rintro rfl
    rcases he with z|z
    .exact nown c b hc z
    .rw[hc]at z;cases z;exact hb rfl
end
structure Un(fs ex:List Addr)(H H':Hp)(h h':Heap):Prop where
 keep:∀b o,h.get? b=some o->H b=none->b∉fs->b∉ex->h'.get? b=some o
 slot:∀b o,h.get? b=some o->H b=none->b∈fs->b∉ex->∃sl,h'.get? b=some {o with slots:=sl}
 free:∀b o,h.get? b=some o->H b=none->b∉ex->H' b=none
 there:∀b o,h.get? b=some o->b∉ex->∃o',h'.get? b=some o'
 JX:∀b xs,H b=some (.tup xs)->H' b=some (.tup xs)
 Js:∀b o u,H b=some (.La o u)->H' b=some (.La o u)
 IM:∀b ps,H b=some (.JQ ps)->∃more,H' b=some (.JQ (ps++more))
section
variable{fs fs' ex ex':List Addr}{H H1 H2:Hp}{h h1 h2 h':Heap}{a x e:Addr}{o:HO}
theorem Un.any(u:Un fs ex H H1 h h1){ob:Obj}(q:h.get? b=some ob)(n:H b=none)(hx:b∉ex):∃sl,h1.get? b=some {ob with slots:=sl}:=by
 by_cases hb:b∈fs
 .exact u.slot b ob q n hb hx
 .exact⟨ob.slots,u.keep b ob q n hb hx⟩
theorem Un.kept(k:∀b u,h.get? b=some u->h'.get? b=some u):Un fs ex H H h h':=
 ⟨λb ob q _ _ _=>k b ob q,λb ob q _ _ _=>⟨ob.slots,k b ob q⟩,λ_ _ _ n _=>n,λb ob q _=>⟨ob,k b ob q⟩,λ_ _ q=>q,λ_ _ _ q=>q,λ_ ps q=>⟨#[],by rw[q];simp⟩⟩
theorem Un.refl:Un fs ex H H h h:=Un.kept λ_ _ q=>q
theorem Un.laid(k:∀b u,h.get? b=some u->h'.get? b=some u)(hp:h.objs.size<=a)(hn:H a=none):Un fs ex H (upd H a o) h h' where
 keep:=λb u q _ _ _=>k b u q
 slot:=λb u q _ _ _=>⟨u.slots,k b u q⟩
 free:=λb u q n _=>by rw[Ab (Nat.ne_of_lt (Nat.lt_of_lt_of_le (Heap.lt_size q) hp))];exact n
 there:=λb u q _=>⟨u,k b u q⟩
 JX:=λb xs q=>by rw[Ab (AS q hn)];exact q
 Js:=λb u xs q=>by rw[Ab (AS q hn)];exact q
 IM:=λb ps q=>⟨#[],by rw[Ab (AS q hn),q];simp⟩
theorem Un.write(mu:eQ (H x))(he:e=x\/H e=some (.own x))(k:∀b u,b≠e->h.get? b=some u->h'.get? b=some u)(heo:∃u,h'.get? e=some u):Un fs ex H (upd H x o) h h':=by
 have hx:∀b,H b=none->b≠x:=λb n z=>by subst z;rw[n]at mu;exact mu
 have hb:∀b,H b=none->b≠e:=λb n z=>by
  subst z;rcases he with r|r
  .exact hx b n r
  .rw[n]at r;cases r
 have hm:∀b u,H b=some u->¬eQ (some u)->b≠x:=λb u q nm z=>by subst z;rw[q]at mu;exact nm mu
 refine⟨λb u q n _ _=>k b u (hb b n) q,λb u q n _ _=>⟨u.slots,k b u (hb b n) q⟩,λb u q n _=>by rw[Ab (hx b n)];exact n,λb u q _=>?_,
  λb xs q=>by rw[Ab (hm b _ q λz=>z)];exact q,λb u xs q=>by rw[Ab (hm b _ q λz=>z)];exact q,λb ps q=>⟨#[],by rw[Ab (hm b _ q λz=>z),q];simp⟩⟩
 by_cases hbe:b=e
 .subst hbe;exact heo
 .exact⟨u,k b u hbe q⟩
end
def du(h:Heap)(H:Hp):List Addr:=(List.range h.objs.size).filter λa=>(H a).isSome
def HL(h:Heap)(H:Hp):Heap:=hideAll h (du h H)
theorem NK(h:Heap)(H:Hp):(HL h H).objs.size=h.objs.size:=hideAll_size _ _
theorem Q1{o:Obj}(e:h.get? b=some o)(n:H b=none):(HL h H).get? b=some o:=
 hideAll_get _ e λhm=>by
  have q:(H b).isSome=true:=(mem_filter.mp hm).2;rw[n]at q;simp at q
theorem SN{o:Obj}(e:(HL h H).get? b=some o):h.get? b=some o/\H b=none:=by
 have e':h.get? b=some o:=of_hideAll (du h H) e;refine⟨e',?_⟩;cases q:H b with
 |none=>rfl
 |some x=>
   have hm:b∈du h H:=mem_filter.mpr ⟨mem_range.mpr (Heap.lt_size e'),by simp[q]⟩;have z:(HL h H).get? b=none:=hideAll_none (du h H) hm;rw[z]at e;cases e
noncomputable def Us(g h:Heap)(L:Addr):List (Addr×Obj):=(List.range h.objs.size).filterMap λa=>if a=L\/(g.get? a).isSome=true then none else(h.get? a).map λo=>(a,o)
def rest(g h:Heap)(L d:Addr):List (Addr×Obj):=(Us g h L).filter λp=>decide (p.1≠d)
structure Mod(K:PySem.W.Frag)(mg:Str->Option Value)(base:Heap):Prop where
 C6:K.In base
 glob:base.Ns mainGlobals mg
 blt:∃mb,base.Ns builtinsNs mb/\∀x:Str,x≠"__name__"->mb x=bootBuiltins x
 nolimit:base.NoLimit
structure Cx where
 prog:Program
 w:World
 K:PySem.W.Frag
 mg:Str->Option Value
 base:Heap
 A:Around
 N:List Str
 s₀:Shared
 H₀:Hp
 env:Env
 outer:List Env
 stack:List Env
 ex:List Addr
 fn:Str->Bool
 calm:Bool
 pn:List (Addr×Obj)
 xe:Value->Shared->Prop
def Lb(l:List Env):List Addr:=l.filterMap (·.frame)
abbrev Cx.fs(X:Cx):List Addr:=Lb X.outer
def cZ(sc:Scope)(x:Str):Prop:=sc.names.lookup x=some .local\/sc.names.lookup x=some .cell\/sc.names.lookup x=some .free
def Loc(sc:Scope)(x:Str):Prop:=sc.names.lookup x=some .local\/sc.names.lookup x=some .cell
def Look(env:Env)(h:Heap)(m:Str->Option Value)(x:Str)(u:Value):Prop:=
 (env.kindOf x=some .local/\m x=some u)\/((env.kindOf x=some .cell\/env.kindOf x=some .free)/\∃c,env.cells.lookup x=some c/\h.IsCell c (some u))
structure Cx.Ok(X:Cx):Prop where
 mod:Mod X.K X.mg X.base
 kind:X.env.scope.kind= .function
 glob:X.env.globals=mainGlobals
 blt:X.env.builtins=builtinsNs
 above:X.s₀.heap.objs.size<=X.env.locals
 inj:∀x y c,X.env.cells.lookup x=some c->X.env.cells.lookup y=some c->x=y
 has:∀x,(X.env.kindOf x=some .cell\/X.env.kindOf x=some .free)->∃c,X.env.cells.lookup x=some c
 Zj:∀x c,X.fn x=true->X.env.cells.lookup x=some c->X.s₀.heap.objs.size<=c
 hd:X.calm=true->X.A.handled=none
 frames:X.A.frames=some X.stack
 dA:X.stack=X.outer\/(X.stack=X.env::X.outer/\X.env.frame=some X.env.locals)
 eJ:∀b∈X.ex,b≠X.env.locals/\∀x c,X.env.cells.lookup x=some c->c≠b
 bs:∀b o,X.base.get? b=some o->X.s₀.heap.get? b=some o/\X.H₀ b=none
 RI:X.base.objs.size<=X.s₀.heap.objs.size
 Pn:∀b o,X.base.get? b=some o->b∉X.ex
 Qj:∀b∈X.ex,b∉X.fs
 Es:X.s₀.heap.FunFrames X.base X.outer
 VF:∀b∈X.fs,X.H₀ b=none
structure Inv(X:Cx)(pins:List (Addr×Obj))(σ:List (Option V))(H:Hp)(s:Shared):Prop where
 ok:X.Ok
 os:s.os=X.s₀.os
 bare:AllBare s.gens
 base:Un X.fs X.ex X.H₀ H X.s₀.heap s.heap
 loc:∃m,s.heap.Ns X.env.locals m/\∀(i:Nat) (x:Str) (v:V),X.N[i]? =some x->σ[i]? =some (some v)->cZ X.env.scope x->∃u,RelV v u/\Look X.env s.heap m x u
 cell:∀x c,X.env.cells.lookup x=some c->∃v,s.heap.IsCell c v
 free:H X.env.locals=none
 DB:∀x c,X.env.cells.lookup x=some c->H c=none
 pin:∀p∈X.pn++pins,s.heap.get? p.1=some p.2/\H p.1=none/\p.1≠X.env.locals/\p.1∉X.fs/\∀v,p.2.data≠.cell v
 Ak:Ee X.prog X.w H s.heap
 len:σ.length=X.N.length
variable{X:Cx}{pins:List (Addr×Obj)}{σ:List (Option V)}{H H':Hp}{s:Shared}{h':Heap}
theorem Cx.Ok.gc(ok:X.Ok){o:Obj}(e:X.base.get? b=some o):b∉X.fs:=λhb=>by
 have:=(ok.Es.mem hb).1;rw[e]at this;cases this
theorem Inv.bs(I:Inv X pins σ H s):∀b o,X.base.get? b=some o->s.heap.get? b=some o/\H b=none:=λb o e=>
 ⟨I.base.keep b o (I.ok.bs b o e).1 (I.ok.bs b o e).2 (I.ok.gc e) (I.ok.Pn b o e),I.base.free b o (I.ok.bs b o e).1 (I.ok.bs b o e).2 (I.ok.Pn b o e)⟩
theorem Inv.bk(I:Inv X pins σ H s):∀b o,X.base.get? b=some o->s.heap.get? b=some o:=λb o e=>(I.bs b o e).1
theorem Inv.mod(I:Inv X pins σ H s):Mod X.K X.mg X.base:=I.ok.mod
theorem Inv.Bm(I:Inv X pins σ H s):X.K.In s.heap:=I.ok.mod.C6.keeps I.bk
theorem Inv.lt(I:Inv X pins σ H s):X.env.locals < s.heap.objs.size:=let⟨_,hn,_⟩:=I.loc;hn.lt
theorem Inv.sz(I:Inv X pins σ H s):X.s₀.heap.objs.size<=s.heap.objs.size:=Nat.le_trans I.ok.above (Nat.le_of_lt I.lt)
theorem Inv.Xg(I:Inv X pins σ H s){a:Addr}(h:s.heap.objs.size<=a):a∉X.fs:=λhb=>by
 obtain⟨_,o,ho,_⟩:=I.ok.Es.mem hb;exact absurd (Nat.lt_of_lt_of_le (Heap.lt_size ho) (Nat.le_trans I.sz h)) (Nat.lt_irrefl _)
theorem Inv.VJ(I:Inv X pins σ H s):∀x c,X.env.cells.lookup x=some c->c≠X.env.locals:=λx c e z=>by
 obtain⟨v,o,ho,hd⟩:=I.cell x c e;obtain⟨m,⟨o',es,ep,ho',hd',_⟩,_⟩:=I.loc;rw[z,ho']at ho;cases ho;rw[hd']at hd;cases hd
theorem Inv.Es(I:Inv X pins σ H s):s.heap.FunFrames X.base X.outer:=by
 have all:∀(l:List Env),(∀b∈Lb l,b∈X.fs)->X.s₀.heap.FunFrames X.base l->s.heap.FunFrames X.base l:=by
  intro l
  induction l with
  |nil=>intro _ _;trivial
  |cons env r ih=>
    intro hs hl;obtain⟨hk,⟨L,o,hf,hn,ho,hd⟩,hr⟩:=hl;have hL:L∈X.fs:=hs L (by unfold Lb;rw[filterMap_cons,hf];exact mS);obtain⟨sl,e⟩:=I.base.slot L o ho (I.ok.VF L hL) hL λz=>I.ok.Qj L z hL
    exact⟨hk,⟨L,_,hf,hn,e,hd⟩,ih (λb hb=>hs b (by unfold Lb;rw[filterMap_cons,hf];exact mC hb)) hr⟩
 exact all X.outer (λ_ hb=>hb) I.ok.Es
theorem Inv.stack(I:Inv X pins σ H s):s.heap.FunFrames X.base X.stack:=by
 rcases I.ok.dA with e|⟨e,hf⟩
 .rw[e];exact I.Es
 .rw[e];obtain⟨m,hn,_⟩:=I.loc;refine .cons (by rw[I.ok.kind];decide) hf hn ?_ I.Es;exact Heap.get?_none_of_le (Nat.le_trans I.ok.RI I.ok.above)
theorem Inv.GJ(I:Inv X pins σ H s):∀b∈Lb X.stack,b∈X.env.locals::X.fs:=λb hb=>by
 rcases I.ok.dA with e|⟨e,hf⟩
 .rw[e]at hb;exact mC hb
 .rw[e]at hb;unfold Lb at hb;rw[filterMap_cons,hf]at hb;exact hb
theorem Inv.IS(I:Inv X pins σ H s):∀b∈Lb X.stack,H b=none:=λb hb=>by
 rcases mK (I.GJ b hb)with e|hb
 .rw[e];exact I.free
 .obtain⟨_,o,ho,_⟩:=I.ok.Es.mem hb;exact I.base.free b o ho (I.ok.VF b hb) λz=>I.ok.Qj b z hb
variable{g':Array GenState}{t':Nat}{d':Drawn}{ch:List Addr}
theorem Inv.step(I:Inv X pins σ H s)
 (hch:∀b∈ch,(b∈X.ex\/X.s₀.heap.objs.size<=b)/\b≠X.env.locals/\(∀x c,X.env.cells.lookup x=some c->c≠b)/\∀p∈X.pn++pins,p.1≠b)
 (keep:∀b o,b≠X.env.locals->b∉X.fs->b∉ch->s.heap.get? b=some o->H b=none->h'.get? b=some o)
 (slot:∀b o,b≠X.env.locals->b∈X.fs->b∉ch->s.heap.get? b=some o->H b=none->∃sl,h'.get? b=some {o with slots:=sl})(free:∀b o,b∉ch->s.heap.get? b=some o->H b=none->H' b=none)
 (there:∀b o,b∉ch->s.heap.get? b=some o->∃o',h'.get? b=some o')
 (JX:∀b xs,H b=some (.tup xs)->H' b=some (.tup xs))(Js:∀b o u,H b=some (.La o u)->H' b=some (.La o u))(IM:∀b ps,H b=some (.JQ ps)->∃more,H' b=some (.JQ (ps++more)))
 (ns:∀m,s.heap.Ns X.env.locals m->h'.Ns X.env.locals m)(Ak:Ee X.prog X.w H' h')(hg:AllBare g'):
 Inv X pins σ H' {s with heap:=h',gens:=g',drawn:=d',toks:=t'}:=by
 have neL:∀b o,X.s₀.heap.get? b=some o->b≠X.env.locals:=λb o e=>Nat.ne_of_lt (Nat.lt_of_lt_of_le (Heap.lt_size e) I.ok.above)
 have neC:∀b o,X.s₀.heap.get? b=some o->b∉X.ex->b∉ch:=λb o e hx hb=>by
  rcases(hch b hb).1 with z|z
  .exact hx z
  .exact absurd (Nat.lt_of_lt_of_le (Heap.lt_size e) z) (Nat.lt_irrefl _)
 have cellK:∀x c,X.env.cells.lookup x=some c->∀v,s.heap.IsCell c v->h'.IsCell c v:=λx c e v ⟨o,ho,hd⟩=>by
  have nch:c∉ch:=λz=>(hch c z).2.2.1 x c e rfl
  by_cases hc:c∈X.fs
  .obtain⟨sl,q⟩:=slot c o (I.VJ x c e) hc nch ho (I.DB x c e);exact⟨_,q,hd⟩
  .exact⟨o,keep c o (I.VJ x c e) hc nch ho (I.DB x c e),hd⟩
 refine⟨I.ok,I.os,hg,⟨λb o e n hb hx=>?_,λb o e n hb hx=>?_,λb o e n hx=>?_,λb o e hx=>?_,λb xs e=>JX b xs (I.base.JX b xs e),λb o xs e=>Js b o xs (I.base.Js b o xs e),λb ps e=>?_⟩,?_,λx c e=>?_,?_,λx c e=>?_,λp hp=>?_,Ak,I.len⟩
 .exact keep b o (neL b o e) hb (neC b o e hx) (I.base.keep b o e n hb hx) (I.base.free b o e n hx)
 .obtain⟨sl,e1⟩:=I.base.slot b o e n hb hx;obtain⟨sl',e2⟩:=slot b _ (neL b o e) hb (neC b o e hx) e1 (I.base.free b o e n hx);exact⟨sl',e2⟩
 .obtain⟨o',e1⟩:=I.base.there b o e hx;exact free b o' (neC b o e hx) e1 (I.base.free b o e n hx)
 .obtain⟨o',e1⟩:=I.base.there b o e hx;exact there b o' (neC b o e hx) e1
 .obtain⟨m1,e1⟩:=I.base.IM b ps e;obtain⟨m2,e2⟩:=IM b _ e1;exact⟨m1++m2,by rw[e2,Array.append_assoc]⟩
 .obtain⟨m,hn,hl⟩:=I.loc;refine⟨m,ns m hn,λi x v e1 e2 e3=>?_⟩;obtain⟨u,r,l⟩:=hl i x v e1 e2 e3;refine⟨u,r,?_⟩;rcases l with l|⟨k,c,e,z⟩
  .exact .inl l
  .exact .inr ⟨k,c,e,cellK x c e _ z⟩
 .obtain⟨v,z⟩:=I.cell x c e;exact⟨v,cellK x c e v z⟩
 .obtain⟨m,⟨o,_,_,ho,_⟩,_⟩:=I.loc;exact free _ o (λz=>(hch _ z).2.1 rfl) ho I.free
 .obtain⟨v,o,ho,hd⟩:=I.cell x c e;exact free c o (λz=>(hch c z).2.2.1 x c e rfl) ho (I.DB x c e)
 .obtain⟨e,n,ne,nf,d⟩:=I.pin p hp;have nch:p.1∉ch:=λz=>(hch p.1 z).2.2.2 p hp rfl
  exact⟨keep p.1 p.2 ne nf nch e n,free p.1 p.2 nch e n,ne,nf,d⟩
theorem Inv.un(I:Inv X pins σ H s)(u:Un X.fs [] H H' s.heap h')(Ak:Ee X.prog X.w H' h'):Inv X pins σ H' {s with heap:=h',toks:=t'}:=by
 obtain⟨m,⟨o,es,ep,ho,r⟩,_⟩:=id I.loc;obtain⟨sl,hL⟩:=u.any ho I.free (by simp)
 exact I.step (g':=s.gens) (d':=s.drawn) (ch:=[]) (λ_ z=>nomatch z) (λb o _ hb _ e n=>u.keep b o e n hb (by simp)) (λb o _ hb _ e n=>u.slot b o e n hb (by simp)) (λb o _ e n=>u.free b o e n (by simp)) (λb o _ e=>u.there b o e (by simp)) u.JX u.Js u.IM (λm' hm=>by
  obtain⟨o',es',ep',ho',r'⟩:=hm;rw[ho]at ho';cases ho'
  exact⟨_,es',ep',hL,r'⟩) Ak I.bare
theorem Inv.call(I:Inv X pins σ H s)(u:Un (Lb X.stack) ch H H' s.heap h')(Ak:Ee X.prog X.w H' h')(hg:AllBare g')
 (hch:∀b∈ch,(b∈X.ex\/X.s₀.heap.objs.size<=b)/\b≠X.env.locals/\(∀x c,X.env.cells.lookup x=some c->c≠b)/\∀p∈X.pn++pins,p.1≠b):
 Inv X pins σ H' {s with heap:=h',gens:=g',drawn:=d',toks:=t'}:=by
 obtain⟨m,⟨o,es,ep,ho,r⟩,_⟩:=id I.loc;obtain⟨sl,hL⟩:=u.any ho I.free λz=>(hch _ z).2.1 rfl
 exact I.step (ch:=ch) hch (λb o hL hb hc e n=>u.keep b o e n (λz=>(mK (I.GJ b z)).elim hL hb) hc) (λb o _ _ hc e n=>u.any e n hc) (λb o hc e n=>u.free b o e n hc) (λb o hc e=>u.there b o e hc) u.JX u.Js u.IM (λm' hm=>by
  obtain⟨o',es',ep',ho',r'⟩:=hm;rw[ho]at ho';cases ho'
  exact⟨_,es',ep',hL,r'⟩) Ak hg
variable{it:Addr}
theorem Inv.turned(I:Inv X pins σ H s)(k:∀b o,b≠it->s.heap.get? b=some o->h'.get? b=some o)(hn:H it=none)(hL:it≠X.env.locals)
 (h1:it∈X.ex\/X.s₀.heap.objs.size<=it)(h2:∀x c,X.env.cells.lookup x=some c->c≠it)(h3:∀p∈X.pn++pins,p.1≠it):Inv X pins σ H {s with heap:=h',toks:=t'}:=by
 have nit:∀b u,H b=some u->b≠it:=λb u e z=>by rw[z,hn]at e;cases e
 refine I.step (g':=s.gens) (d':=s.drawn) (ch:=[it]) (λb hb=>?_) (λb o _ _ hc e _=>k b o (λz=>hc (by simp[z])) e) (λb o _ _ hc e _=>⟨o.slots,k b o (λz=>hc (by simp[z])) e⟩) (λ_ _ _ _ n=>n)
  (λb o hc e=>⟨o,k b o (λz=>hc (by simp[z])) e⟩) (λ_ _ e=>e) (λ_ _ _ e=>e) (λb ps e=>⟨#[],by rw[e];simp⟩) (λm hm=>?_) (λb u e=>?_) I.bare
 .have e:b=it:=by simpa using hb
  subst e;exact⟨h1,hL,h2,h3⟩
 .obtain⟨o,es,ep,ho,r⟩:=hm;exact⟨o,es,ep,k _ o (Ne.symm hL) ho,r⟩
 .refine(I.Ak b u e).Lj (λc v hc q=>k c v ?_ q) (λ_ q=>q) λ_ _ q=>q
  rcases hc with z|z
  .rw[z];exact nit b u e
  .exact nit c _ z
theorem Inv.tok(I:Inv X pins σ H s)(t:Nat):Inv X pins σ H {s with toks:=t}:=I.un (h':=s.heap) (t':=t) Un.refl I.Ak
theorem Inv.kept(I:Inv X pins σ H s)(k:∀b u,s.heap.get? b=some u->h'.get? b=some u):Inv X pins σ H {s with heap:=h',toks:=t'}:=I.un (Un.kept k) (I.Ak.kept k)
theorem Inv.laid{a:Addr}(I:Inv X pins σ H s)(k:∀b u,s.heap.get? b=some u->h'.get? b=some u)(hp:s.heap.objs.size<=a)(new:BM X.prog X.w (upd H a o) h' a o):
 Inv X pins σ (upd H a o) {s with heap:=h',toks:=t'}:=I.un (Un.laid k hp (I.Ak.fresh hp)) (I.Ak.laid k hp new)
theorem Inv.write{e:Addr}(I:Inv X pins σ H s)(mu:eQ (H x))(he:e=x\/H e=some (.own x))(k:∀b u,b≠e->s.heap.get? b=some u->h'.get? b=some u)(heo:∃u,h'.get? e=some u)
 (new:BM X.prog X.w (upd H x o) h' x o):Inv X pins σ (upd H x o) {s with heap:=h',toks:=t'}:=I.un (Un.write mu he k heo) (I.Ak.write mu he k heo new)
theorem Inv.D5{pins':List (Addr×Obj)}(I:Inv X pins σ H s)(h:∀p∈pins',s.heap.get? p.1=some p.2/\H p.1=none/\p.1≠X.env.locals/\p.1∉X.fs/\∀v,p.2.data≠.cell v):Inv X pins' σ H s:=
 ⟨I.ok,I.os,I.bare,I.base,I.loc,I.cell,I.free,I.DB,λp hp=>(mem_append.mp hp).elim (λz=>I.pin p (mL z)) (h p),I.Ak,I.len⟩
variable{N:List Str}{j:Nat}
theorem Kh(hN:N.Nodup){i:Nat}{x:Str}(a:N[i]? =some x)(b:N[j]? =some x):i=j:=by
 obtain⟨h1,e1⟩:=List.getElem?_eq_some_iff.mp a;obtain⟨h2,e2⟩:=List.getElem?_eq_some_iff.mp b;exact(List.getElem_inj hN).mp (e1.trans e2.symm)
variable{M:Model}{A:Around}
theorem HR{E:Value->Shared->Prop}{i:Nat}{x:Str}{Q:Unit->Shared->Prop}(I:Inv X pins σ H s)(hN:X.N.Nodup)(hi:X.N[i]? =some x)(hx:Loc X.env.scope x)(r:RelV v u)
 (h:∀s',Inv X pins (σ.set i (some v)) H s'->(∃a,Heap.SameBut a s.heap s'.heap/\(a=X.env.locals\/X.env.cells.lookup x=some a))->Q () s')(hf:X.fn x=true\/X.env.scope.names.lookup x=some .local:=by first|exact .inl rfl|exact .inr rfl|assumption):wpAny M A (storeName X.env x u) Q E s:=by
 obtain⟨m,hn,hl⟩:=id I.loc;have hcls:(X.env.scope.kind == .class || (X.env.scope.kind == .module && X.env.locals != X.env.globals))=false:=by rw[I.ok.kind];rfl
 have hiσ:i < σ.length:=by rw[I.len];exact(List.getElem?_eq_some_iff.mp hi).1
 have VJ:=I.VJ
 have tracked:∀{a:Addr} {h':Heap},(∃o,s.heap.get? a=some o/\H a=none)->Heap.SameBut a s.heap h'->Ee X.prog X.w H h':=λ{a h'} ha hs b ob e=>by
  obtain⟨_,_,hfree⟩:=ha;refine(I.Ak b ob e).Lj (λc w' hc q=>(hs.2 c ?_).trans q) (λ_ q=>q) λ_ _ q=>q
  rintro rfl
  rcases hc with rfl|hc
  .rw[hfree]at e;cases e
  .rw[hfree]at hc;cases hc
 rcases hx with hk|hk
 .refine wpAny_storeName_local hk hn (λh' hn' hs=>?_) hcls;obtain⟨oL,_,_,hoL,_⟩:=id hn;refine h _ ⟨I.ok,I.os,I.bare,⟨λb o e n hb hx=>?_,λb o e n hb hx=>?_,I.base.free,λb o e hx=>?_,I.base.JX,I.base.Js,I.base.IM⟩,⟨_,hn',λj y v' e1 e2 e3=>?_⟩,λy c e=>?_,I.free,I.DB,λp hp=>?_,tracked ⟨oL,hoL,I.free⟩ hs,by simpa using I.len⟩ ⟨_,hs,.inl rfl⟩
  .exact(hs.2 b (Nat.ne_of_lt (Nat.lt_of_lt_of_le (Heap.lt_size e) I.ok.above))).trans (I.base.keep b o e n hb hx)
  .obtain⟨sl,e1⟩:=I.base.slot b o e n hb hx;exact⟨sl,(hs.2 b (Nat.ne_of_lt (Nat.lt_of_lt_of_le (Heap.lt_size e) I.ok.above))).trans e1⟩
  .obtain⟨o',e1⟩:=I.base.there b o e hx;exact⟨o',(hs.2 b (Nat.ne_of_lt (Nat.lt_of_lt_of_le (Heap.lt_size e) I.ok.above))).trans e1⟩
  .by_cases hj:j=i
   .subst hj;rw[hi]at e1;cases e1;rw[List.getElem?_set_self hiσ]at e2;cases e2;exact⟨u,r,.inl ⟨hk,by simp⟩⟩
   .rw[List.getElem?_set_ne (Ne.symm hj)]at e2;obtain⟨u',r',q⟩:=hl j y v' e1 e2 e3;refine⟨u',r',?_⟩;rcases q with⟨k,e⟩|⟨k,c,e,z⟩
    .refine .inl ⟨k,?_⟩;have:y≠x:=λe=>hj (Kh hN e1 (e▸hi))
     simp[this,e]
    .exact .inr ⟨k,c,e,z.sameBut hs (VJ y c e)⟩
  .obtain⟨w',z⟩:=I.cell y c e;exact⟨w',z.sameBut hs (VJ y c e)⟩
  .obtain⟨e,n,ne,nf,d⟩:=I.pin p hp;exact⟨(hs.2 p.1 ne).trans e,n,ne,nf,d⟩
 .have hfn:X.fn x=true:=by
   rcases hf with z|z
   .exact z
   .rw[z]at hk;cases hk
  obtain⟨c,hc⟩:=I.ok.has x (.inl hk);obtain⟨w',z⟩:=I.cell x c hc;refine wpAny_storeName_cell I.ok.kind hk hc z (λh' hc' hs=>?_);obtain⟨oc,hoc,hocd⟩:=id z;refine h {s with heap:=h'} ⟨I.ok,I.os,I.bare,⟨λb o e n hb hx=>?_,λb o e n hb hx=>?_,I.base.free,λb o e hx=>?_,I.base.JX,I.base.Js,I.base.IM⟩,⟨m,hn.sameBut hs (Ne.symm (VJ x c hc)),λj y v' e1 e2 e3=>?_⟩,λy c' e=>?_,I.free,I.DB,λp hp=>?_,tracked ⟨oc,hoc,I.DB x c hc⟩ hs,by simpa using I.len⟩ ⟨c,hs,.inr hc⟩
  .exact(hs.2 b (Nat.ne_of_lt (Nat.lt_of_lt_of_le (Heap.lt_size e) (I.ok.Zj x c hfn hc)))).trans (I.base.keep b o e n hb hx)
  .obtain⟨sl,e1⟩:=I.base.slot b o e n hb hx;exact⟨sl,(hs.2 b (Nat.ne_of_lt (Nat.lt_of_lt_of_le (Heap.lt_size e) (I.ok.Zj x c hfn hc)))).trans e1⟩
  .obtain⟨o',e1⟩:=I.base.there b o e hx;exact⟨o',(hs.2 b (Nat.ne_of_lt (Nat.lt_of_lt_of_le (Heap.lt_size e) (I.ok.Zj x c hfn hc)))).trans e1⟩
  .by_cases hj:j=i
   .subst hj;rw[hi]at e1;cases e1;rw[List.getElem?_set_self hiσ]at e2;cases e2;exact⟨u,r,.inr ⟨.inl hk,c,hc,hc'⟩⟩
   .rw[List.getElem?_set_ne (Ne.symm hj)]at e2;obtain⟨u',r',q⟩:=hl j y v' e1 e2 e3;refine⟨u',r',?_⟩;rcases q with q|⟨k,c',e,z'⟩
    .exact .inl q
    .refine .inr ⟨k,c',e,z'.sameBut hs ?_⟩
     rintro rfl
     exact hj (Kh hN e1 (I.ok.inj _ _ _ e hc▸hi))
  .by_cases hcc:c'=c
   .subst hcc;exact⟨_,hc'⟩
   .obtain⟨w2,z2⟩:=I.cell y c' e;exact⟨w2,z2.sameBut hs hcc⟩
  .obtain⟨e,n,ne,nf,d⟩:=I.pin p hp;refine⟨(hs.2 p.1 ?_).trans e,n,ne,nf,d⟩;intro q;rw[q,hoc]at e;have q':oc=p.2:=Option.some.inj e;exact d w' (by rw[<-q'];exact hocd)
theorem K2{E:Value->Shared->Prop}{i:Nat}{x:Str}{Q:Unit->Shared->Prop}(I:Inv X pins σ H s)(hN:X.N.Nodup)(hi:X.N[i]? =some x)(hx:Loc X.env.scope x)(r:RelV v u)
 (h:∀s',Inv X pins (σ.set i (some v)) H s'->Q () s')(hf:X.fn x=true\/X.env.scope.names.lookup x=some .local:=by first|exact .inl rfl|exact .inr rfl|assumption):wpAny M A (storeName X.env x u) Q E s:=
 HR I hN hi hx r (λs' I' _=>h s' I') hf
theorem Inv.cA{s':Shared}(I:Inv X pins σ H s)(ho:s'.os=s.os)(u:Un (Lb X.stack) ch H H' s.heap s'.heap)(Ak:Ee X.prog X.w H' s'.heap)(hg:AllBare s'.gens)
 (hch:∀b∈ch,(b∈X.ex\/X.s₀.heap.objs.size<=b)/\b≠X.env.locals/\(∀x c,X.env.cells.lookup x=some c->c≠b)/\∀p∈X.pn++pins,p.1≠b):Inv X pins σ H' s':=by
 obtain⟨h',g',d',t',o'⟩:=s';have e:o'=s.os:=ho;subst e;exact I.call (g':=g') (t':=t') (d':=d') u Ak hg hch
abbrev XK:=Value->Option Addr->Hp->Prop
abbrev St:=List (Option V)
abbrev VK:=V->Hp->Prop
abbrev TE:=St->Hp->VK->Prop
abbrev TT:=St->Hp->(Bool->Hp->Prop)->Prop
abbrev TA:=St->Hp->(List V->Hp->Prop)->Prop
structure Ends where
 nx:St->Hp->Prop
 rt:VK
 bk:St->Hp->Prop:=λ_ _=>False
 ct:St->Hp->Prop:=λ_ _=>False
abbrev TS:=Ends->St->Hp->Prop
def EP(X:Cx)(pins:List (Addr×Obj))(σ:St)(Q:VK)(u:Value)(s':Shared):Prop:=∃v H',Inv X pins σ H' s'/\RelV v u/\Q v H'
def TP(X:Cx)(pins:List (Addr×Obj))(σ:St)(Q:Bool->Hp->Prop)(b:Bool)(s':Shared):Prop:=∃H',Inv X pins σ H' s'/\Q b H'
def AP(X:Cx)(pins:List (Addr×Obj))(σ:St)(Q:List V->Hp->Prop)(us:List Value)(s':Shared):Prop:=∃vs H',Inv X pins σ H' s'/\Vals vs us/\Q vs H'
def SP(X:Cx)(pins:List (Addr×Obj))(D:Ends)(f:Flow)(s':Shared):Prop:=
 match f with
 |.next=>∃σ' H',Inv X pins σ' H' s'/\D.nx σ' H'
 |.brk=>∃σ' H',Inv X pins σ' H' s'/\D.bk σ' H'
 |.cont=>∃σ' H',Inv X pins σ' H' s'/\D.ct σ' H'
 |.ret u=>∃v σ' H',Inv X pins σ' H' s'/\RelV v u/\D.rt v H'
def PE(X:Cx)(e:Expr)(t:TE):Prop:=
 ∀(pins:List (Addr×Obj)) (s:Shared) (σ:St) (H:Hp) (Q:VK),Inv X pins σ H s->t σ H Q->wpAny (model X.prog X.w) X.A (eval e X.env) (EP X pins σ Q) X.xe s
def PT(X:Cx)(e:Expr)(t:TT):Prop:=
 ∀(pins:List (Addr×Obj)) (s:Shared) (σ:St) (H:Hp) (Q:Bool->Hp->Prop),Inv X pins σ H s->t σ H Q->wpAny (model X.prog X.w) X.A (isTrue e X.env (eval e X.env)) (TP X pins σ Q) X.xe s
def PW(X:Cx)(e:Expr)(t:TT):Prop:=
 ∀(whole:Sem Value) (pins:List (Addr×Obj)) (s:Shared) (σ:St) (H:Hp) (Q:Bool->Hp->Prop),Inv X pins σ H s->t σ H Q->wpAny (model X.prog X.w) X.A (isTrue e X.env whole) (TP X pins σ Q) X.xe s
variable{X:Cx}
theorem PW.pt{t:TT}(h:PW X e t):PT X e t:=h _
def PA(X:Cx)(es:List Expr)(t:TA):Prop:=
 ∀(pos:Pos) (pins:List (Addr×Obj)) (s:Shared) (σ:St) (H:Hp) (Q:List V->Hp->Prop),Inv X pins σ H s->t σ H Q->wpAny (model X.prog X.w) X.A (spliced (backTo pos (starEach es X.env))) (AP X pins σ Q) X.xe s
def PS(X:Cx)(st:Stmt)(t:TS):Prop:=
 ∀(pins:List (Addr×Obj)) (s:Shared) (σ:St) (H:Hp) (D:Ends),Inv X pins σ H s->t D σ H->wpAny (model X.prog X.w) X.A (exec st X.env) (SP X pins D) X.xe s
def Lc(X:Cx)(st:List Stmt)(t:TS):Prop:=
 ∀(pins:List (Addr×Obj)) (s:Shared) (σ:St) (H:Hp) (D:Ends),Inv X pins σ H s->t D σ H->wpAny (model X.prog X.w) X.A (execs st X.env) (SP X pins D) X.xe s
variable{s:Shared}
theorem B4{α:Type}{t:Sem α}{Q Q':α->Shared->Prop}{E:Value->Shared->Prop}(h:wpAny M A t Q E s)(hQ:∀a s,Q a s->Q' a s):wpAny M A t Q' E s:=wpAny_mono h hQ λ_ _ x=>x
section
variable{pins:List (Addr×Obj)}{s:Shared}{H:Hp}
theorem bin{ta tb:TE}(ha:PE X a ta)(hb:PE X b tb){σ:St}{R:V->V->Hp->Prop}(I:Inv X pins σ H s)(h:ta σ H λx H1=>tb σ H1 λy H2=>R x y H2)
 {α:Type}{Q:α->Shared->Prop}{f:Value->Value->Sem α}
 (hf:∀v u s2 x y H2,Inv X pins σ H2 s2->RelV x v->RelV y u->R x y H2->wpAny (model X.prog X.w) X.A (f v u) Q X.xe s2):
 wpAny (model X.prog X.w) X.A (eval a X.env) (λv s₁=>wpAny (model X.prog X.w) X.A (eval b X.env) (λu s₂=>wpAny (model X.prog X.w) X.A (f v u) Q X.xe s₂) X.xe s₁) X.xe s:=by
 refine B4 (ha pins s σ H _ I h) λv s1 ⟨x,H1,I1,r1,q1⟩=>?_
 refine B4 (hb pins s1 σ H1 _ I1 q1) λu s2 ⟨y,H2,I2,r2,q2⟩=>?_
 exact hf v u s2 x y H2 I2 r1 r2 q2
def Fq(i:Nat):TE:=λσ H Q=>∃v,σ[i]? =some (some v)/\Q v H
def tC(v:V):TE:=λ_ H Q=>Q v H
theorem Lr{i:Nat}{x:Str}{pos:Pos}(hN:X.N[i]? =some x)(hv:cZ X.env.scope x)(hd:(x == ("__debug__":Str))=false:=by decide)(hcd:(x == ("__classdict__":Str))=false:=by decide):PE X (.Name x pos) (Fq i):=by
 intro pins s σ H Q I h;obtain⟨v,e,h⟩:=h;obtain⟨m,hn,hl⟩:=I.loc;obtain⟨u,r,l⟩:=hl i x v hN e hv;have fin:EP X pins σ Q u s:=⟨v,H,I,r,h⟩;rcases l with⟨hk,hm⟩|⟨hk,c,hc,hcell⟩
 .exact wpAny_Name (wpAny_loadName_local I.ok.kind hk hn hm fin) hd
 .rcases hk with hk|hk
  .exact wpAny_Name (wpAny_loadName_cell I.ok.kind hk hc hcell fin) hd
  .exact wpAny_Name (wpAny_loadName_free I.ok.kind hk hc hcell fin hcd) hd
theorem WZ{i j pos}:PE X (.Constant (.int i) j pos) (tC (.int i)):=λ_ _ _ H _ I h=>wpAny_Constant_int ⟨.int i,H,I.tok _,⟨_,rfl⟩,h⟩
theorem aK{b j pos}:PE X (.Constant (.bool b) j pos) (tC (.bl b)):=λ_ _ _ H _ I h=>Constant_bool ⟨.bl b,H,I,rfl,h⟩
theorem WX{j pos}:PE X (.Constant .none j pos) (tC .Az):=λ_ _ _ H _ I h=>Constant_none ⟨.Az,H,I,rfl,h⟩
theorem P6{x j pos}:PE X (.Constant (.str x) j pos) (tC (.str x)):=λ_ _ _ H _ I h=>Calls.Constant_str ⟨.str x,H,I.tok _,⟨_,rfl⟩,h⟩
def Gl(X:Cx)(x:Str):Prop:=X.env.kindOf x=some .globalImplicit
theorem EY{E:Value->Shared->Prop}{σ:St}{u:Value}{pos:Pos}{Q:Value->Shared->Prop}(I:Inv X pins σ H s)(hg:Gl X x)(hm:X.mg x=some u)(h:Q u s)
 (hd:(x == ("__debug__":Str))=false:=by decide):wpAny (model X.prog X.w) X.A (eval (.Name x pos) X.env) Q E s:=
 Calls.Name_function_global I.ok.kind hg (Calls.loadGlobal_global (by rw[I.ok.glob];exact I.mod.glob.keeps I.bk) hm h) hd
theorem Fx{E:Value->Shared->Prop}{σ:St}{u:Value}{pos:Pos}{Q:Value->Shared->Prop}(I:Inv X pins σ H s)(hg:Gl X x)(hm:X.mg x=none)(hv:bootBuiltins x=some u)(h:Q u s)
 (hn:x≠"__name__":=by decide)(hd:(x == ("__debug__":Str))=false:=by decide):wpAny (model X.prog X.w) X.A (eval (.Name x pos) X.env) Q E s:=by
 obtain⟨mb,h1,h2⟩:=I.mod.blt;exact Calls.Name_function_global I.ok.kind hg (Calls.loadGlobal_builtin (by rw[I.ok.glob];exact I.mod.glob.keeps I.bk) hm (by rw[I.ok.blt];exact h1.keeps I.bk) ((h2 x hn).trans hv) h) hd
theorem Mr{u:Value}{pos:Pos}(hg:Gl X x)(hm:X.mg x=some u)(r:RelV v u)(hd:(x == ("__debug__":Str))=false:=by decide):PE X (.Name x pos) (tC v):=
 λ_ _ _ H _ I h=>EY I hg hm ⟨v,H,I,r,h⟩ hd
theorem SH{u:Value}{pos:Pos}(hg:Gl X x)(hm:X.mg x=none)(hv:bootBuiltins x=some u)(r:RelV v u)(hn:x≠"__name__":=by decide)(hd:(x == ("__debug__":Str))=false:=by decide):PE X (.Name x pos) (tC v):=
 λ_ _ _ H _ I h=>Fx I hg hm hv ⟨v,H,I,r,h⟩ hn hd
variable{a b:Expr}{ta tb:TE}{pos:Pos}
variable{tA tB':TT}{rest:List Expr}
def ZJ(t u:TT):TT:=λσ H Q=>t σ H λc H1=>if c=true then u σ H1 Q else Q false H1
def ib(t u:TT):TT:=λσ H Q=>t σ H λc H1=>if c=true then Q true H1 else u σ H1 Q
def ff(t:TT):TT:=λσ H Q=>t σ H λc H1=>Q (!c) H1
theorem Sk(ha:PT X a tA):PW X (.BoolOp .And [a] pos) tA:=by
 intro wh pins s σ H Q I h;refine isTrue_and (B4 (ha pins s σ H Q I h) λc s1 e=>?_);cases c with
 |true=>exact isTrue_and_nil e
 |false=>exact e
theorem WJ(ha:PT X a tA):PW X (.BoolOp .Or [a] pos) tA:=by
 intro wh pins s σ H Q I h;refine isTrue_or (B4 (ha pins s σ H Q I h) λc s1 e=>?_);cases c with
 |false=>exact isTrue_or_nil e
 |true=>exact e
theorem WK(ha:PT X a tA)(hb:PW X (.BoolOp .And (b::rest) pos) tB'):PW X (.BoolOp .And (a::b::rest) pos) (ZJ tA tB'):=by
 intro wh pins s σ H Q I h;refine isTrue_and (B4 (ha pins s σ H _ I h) λc s1 ⟨H1,I1,q1⟩=>?_);cases c with
 |true=>exact hb wh pins s1 σ H1 Q I1 q1
 |false=>exact⟨H1,I1,q1⟩
theorem aD(ha:PT X a tA)(hb:PW X (.BoolOp .Or (b::rest) pos) tB'):PW X (.BoolOp .Or (a::b::rest) pos) (ib tA tB'):=by
 intro wh pins s σ H Q I h;refine isTrue_or (B4 (ha pins s σ H _ I h) λc s1 ⟨H1,I1,q1⟩=>?_);cases c with
 |true=>exact⟨H1,I1,q1⟩
 |false=>exact hb wh pins s1 σ H1 Q I1 q1
theorem WL(ha:PT X a tA):PT X (.UnaryOp .Not a pos) (ff tA):=by
 intro pins s σ H Q I h;exact isTrue_not (ha pins s σ H (λc H1=>Q (!c) H1) I h)
noncomputable def Vb(ta tb:TE):TE:=λσ H Q=>ta σ H λx H1=>∃c,x= .bl c/\if c=true then tb σ H1 Q else Q (.bl false) H1
noncomputable def ZF(ta tb:TE):TE:=λσ H Q=>ta σ H λx H1=>∃c,x= .bl c/\if c=true then Q (.bl true) H1 else tb σ H1 Q
def ZG(ta:TE):TE:=λσ H Q=>ta σ H λx H1=>∃c,x= .bl c/\Q (.bl (!c)) H1
theorem WV{op}{t:TE}(h:PE X a t):PE X (.BoolOp op [a] pos) t:=λpins s σ H Q I hw=>BoolOp_one (h pins s σ H Q I hw)
theorem X4(ha:PE X a ta)(hb:PE X (.BoolOp .And (b::rest) pos) tb):PE X (.BoolOp .And (a::b::rest) pos) (Vb ta tb):=by
 intro pins s σ H Q I h;refine BoolOp_and (B4 (ha pins s σ H _ I h) λv s1 ⟨x,H1,I1,r1,q1⟩=>?_);obtain⟨c,rfl,q1⟩:=q1;cases r1;refine wpAny_truthy_bool ?_;cases c with
 |true=>exact hb pins s1 σ H1 Q I1 q1
 |false=>exact⟨.bl false,H1,I1,rfl,q1⟩
theorem aH(ha:PE X a ta)(hb:PE X (.BoolOp .Or (b::rest) pos) tb):PE X (.BoolOp .Or (a::b::rest) pos) (ZF ta tb):=by
 intro pins s σ H Q I h;refine BoolOp_or (B4 (ha pins s σ H _ I h) λv s1 ⟨x,H1,I1,r1,q1⟩=>?_);obtain⟨c,rfl,q1⟩:=q1;cases r1;refine wpAny_truthy_bool ?_;cases c with
 |false=>exact hb pins s1 σ H1 Q I1 q1
 |true=>exact⟨.bl true,H1,I1,rfl,q1⟩
theorem WW(ha:PE X a ta):PE X (.UnaryOp .Not a pos) (ZG ta):=by
 intro pins s σ H Q I h;refine UnaryOp_ (B4 (ha pins s σ H _ I h) λv s1 ⟨x,H1,I1,r1,q1⟩=>?_);obtain⟨c,rfl,q1⟩:=q1;cases r1;exact not_of (wpAny_truthy_bool ⟨.bl (!c),H1,I1,rfl,q1⟩)
end
def E2(K:PySem.W.Frag)(H:Hp)(a:Addr)(xs:List V):Prop:=
 Rd H a (.lst xs)\/
  ∃(o:Obj) (its:Array Value) (n:Nat),K.lookup a=some o/\o.cls= .type "list"/\o.dict=none/\o.data= .seq its n/\its.size<=sizeLine/\Vals xs its.toList
def Ey(K:PySem.W.Frag)(H:Hp)(a:Addr)(xs:List V):Prop:=
 Rd H a (.tup xs)\/
  ∃(o:Obj) (its:Array Value) (n:Nat),K.lookup a=some o/\o.cls= .type "tuple"/\o.data= .seq its n/\its.size<=sizeLine/\Vals xs its.toList
noncomputable def hV:Value->Option V
 |.none=>some .Az
 |.bool b=>some (.bl b)
 |.int i _=>some (.int i)
 |.str x _=>some (.str x)
 |.bytes b _=>some (.VM b)
 |.float b _=>some (.dP b)
 |.ref a=>some (.ref a)
 |.type n=>some (.ty n)
 |_=>none
theorem RelV.abs(r:RelV x u):hV u=some x:=by
 cases x with
 |Az=>cases r;rfl
 |bl _=>cases r;rfl
 |int _=>obtain⟨t,rfl⟩:=r;rfl
 |str _=>obtain⟨t,rfl⟩:=r;rfl
 |VM _=>obtain⟨t,rfl⟩:=r;rfl
 |dP _=>obtain⟨t,rfl⟩:=r;rfl
 |ref _=>cases r;rfl
 |ty _=>cases r;rfl
theorem RelV.inj(r:RelV x u)(q:RelV y u):x=y:=Option.some.inj (r.abs.symm.trans q.abs)
theorem Vals.inj:∀{xs ys:List V} {us:List Value},Vals xs us->Vals ys us->xs=ys
 |_,_,_,.nil,.nil=>rfl
 |_,_,_,.cons r t,.cons r' t'=>by rw[r.inj r',Vals.inj t t']
section
variable{σ:St}{a:Addr}{xs ys:List V}
theorem E2.of{K:PySem.W.Frag}(h:H a=some (.lst xs)):E2 K H a xs:=.inl (.inl h)
theorem Ey.of{K:PySem.W.Frag}(h:H a=some (.tup xs)):Ey K H a xs:=.inl (.inl h)
theorem Inv.list(I:Inv X pins σ H s)(h:E2 X.K H a xs):∃its:List Value,Vals xs its/\PlainL s.heap a its.toArray/\xs.length<=sizeLine:=by
 rcases h with h|⟨o,its,n,hk,hc,hd,hs,hz,r⟩
 .obtain⟨z,its,n,r,e⟩:=h.ok I.Ak;exact⟨its,r,⟨_,n,e,rfl,rfl,rfl⟩,z⟩
 .refine⟨its.toList,r,⟨o,n,I.Bm a o hk,hc,hd,by simpa using hs⟩,?_⟩;have e:=r.length;simp only[Array.length_toList]at e
  lia
theorem Inv.tuple(I:Inv X pins σ H s)(h:Ey X.K H a xs):∃its:List Value,Vals xs its/\IsTup s.heap a its.toArray/\xs.length<=sizeLine:=by
 rcases h with h|⟨o,its,n,hk,hc,hs,hz,r⟩
 .obtain⟨z,its,r,p⟩:=h.ok I.Ak;exact⟨its,r,p,z⟩
 .refine⟨its.toList,r,⟨o,I.Bm a o hk,hc,n,by simpa using hs⟩,?_⟩;have e:=r.length;simp only[Array.length_toList]at e
  lia
theorem Inv.PK(I:Inv X pins σ H s)(h:E2 X.K H a xs)(h':E2 X.K H a ys):xs=ys:=by
 obtain⟨its,r,⟨o,n,e,_,_,d⟩,_⟩:=I.list h;obtain⟨its',r',⟨o',n',e',_,_,d'⟩,_⟩:=I.list h';rw[e]at e';cases e';rw[d]at d';injection d' with d1 _
 have:its=its':=by simpa using congrArg Array.toList d1
 subst this;exact r.inj r'
theorem Inv.N7(I:Inv X pins σ H s)(h:Ey X.K H a xs)(h':Ey X.K H a ys):xs=ys:=by
 obtain⟨its,r,⟨o,e,_,n,d⟩,_⟩:=I.tuple h;obtain⟨its',r',⟨o',e',_,n',d'⟩,_⟩:=I.tuple h';rw[e]at e';cases e';rw[d]at d';injection d' with d1 _
 have:its=its':=by simpa using congrArg Array.toList d1
 subst this;exact r.inj r'
end
abbrev Cx.HC(X:Cx)(E:Value->Shared->Prop):Cx:={X with xe:=E}
abbrev Cx.Zc(X:Cx):Cx:=X.HC λ_ _=>False
theorem Cx.Ok.HC(ok:X.Ok)(E:Value->Shared->Prop):(X.HC E).Ok:=
 ⟨ok.mod,ok.kind,ok.glob,ok.blt,ok.above,ok.inj,ok.has,ok.Zj,ok.hd,ok.frames,ok.dA,ok.eJ,ok.bs,ok.RI,ok.Pn,ok.Qj,ok.Es,ok.VF⟩
theorem Cx.Ok.Dr{E:Value->Shared->Prop}(ok:(X.HC E).Ok):X.Ok:=
 ⟨ok.mod,ok.kind,ok.glob,ok.blt,ok.above,ok.inj,ok.has,ok.Zj,ok.hd,ok.frames,ok.dA,ok.eJ,ok.bs,ok.RI,ok.Pn,ok.Qj,ok.Es,ok.VF⟩
section
variable{σ:St}{E:Value->Shared->Prop}
theorem Inv.HC(I:Inv X pins σ H s)(E:Value->Shared->Prop):Inv (X.HC E) pins σ H s:=⟨I.ok.HC E,I.os,I.bare,I.base,I.loc,I.cell,I.free,I.DB,I.pin,I.Ak,I.len⟩
theorem Inv.Dr(I:Inv (X.HC E) pins σ H s):Inv X pins σ H s:=⟨I.ok.Dr,I.os,I.bare,I.base,I.loc,I.cell,I.free,I.DB,I.pin,I.Ak,I.len⟩
theorem SP.Dr{D:Ends}{f:Flow}{s':Shared}(h:SP (X.HC E) pins D f s'):SP X pins D f s':=by
 cases f with
 |next=>obtain⟨σ',H',I,q⟩:=h;exact⟨σ',H',I.Dr,q⟩
 |brk=>obtain⟨σ',H',I,q⟩:=h;exact⟨σ',H',I.Dr,q⟩
 |cont=>obtain⟨σ',H',I,q⟩:=h;exact⟨σ',H',I.Dr,q⟩
 |ret u=>obtain⟨v,σ',H',I,r,q⟩:=h;exact⟨v,σ',H',I.Dr,r,q⟩
theorem Lc.Zc{st:List Stmt}{t:TS}(h:Lc X.Zc st t):Lc X st t:=λpins s σ H D I hw=>
 wpAny_mono (h pins s σ H D (I.HC _) hw) (λ_ _ q=>q.Dr) λ_ _ z=>False.elim z
end
section
variable{st:Stmt}{rest:List Stmt}{t u:TS}{e:Expr}{te:TE}{pos:Pos}
def Mc:TS:=λD σ H=>D.nx σ H
def ZD(t u:TS):TS:=λD σ H=>t {D with nx:=u D} σ H
theorem Sn:Lc X [] Mc:=λ_ _ σ H _ I h=>wpAny_execs_nil ⟨σ,H,I,h⟩
theorem OV(h1:PS X st t)(h2:Lc X rest u):Lc X (st::rest) (ZD t u):=by
 intro pins s σ H D I h;refine wpAny_execs_cons (B4 (h1 pins s σ H {D with nx:=u D} I h) λf s1 q=>?_);cases f with
 |next=>
   obtain⟨σ',H',I',q⟩:=q;exact h2 pins s1 σ' H' D I' q
 |ret v=>exact q
 |brk=>exact q
 |cont=>exact q
def Oo:TS:=λD σ H=>D.bk σ H
def Va:TS:=λD σ H=>D.ct σ H
theorem Sr:PS X (.Pass pos) Mc:=λ_ _ σ H _ I h=>wpAny_Pass ⟨σ,H,I,h⟩
theorem OY:PS X (.Break pos) Oo:=λ_ _ σ H _ I h=>wpAny_Break ⟨σ,H,I,h⟩
theorem Kf:PS X (.Continue pos) Va:=λ_ _ σ H _ I h=>wpAny_Continue ⟨σ,H,I,h⟩
theorem Inv.quiet{pins:List (Addr×Obj)}{σ:St}{H:Hp}{s:Shared}(I:Inv X pins σ H s):interactive X.env=false:=by simp[interactive,I.ok.kind]
theorem WQ{x j pos pos'}:PS X (.Expr (.Constant (.str x) j pos) pos') Mc:=λ_ s σ H _ I h=>wpAny_Expr (Calls.Constant_str (show SP X _ _ .next {s with toks:=s.toks+1}from⟨σ,H,I.tok _,h⟩)) I.quiet
def V9(te:TE):TS:=λD σ H=>te σ H λ_ H1=>D.nx σ H1
theorem Ss(he:PE X e te)(hs:swapsWith e none pos.line X.env=pure false:=by rfl):PS X (.Expr e pos) (V9 te):=by
 intro pins s σ H D I h;exact wpAny_Expr_any (B4 (he pins s σ H _ I h) λv s1 ⟨x,H1,I1,r1,q1⟩=>⟨σ,H1,I1,q1⟩) I.quiet hs
def ZE(te:TE):TS:=λD σ H=>te σ H D.rt
theorem WM(he:PE X e te):PS X (.Return (some e) pos) (ZE te):=by
 intro pins s σ H D I h;exact wpAny_Return_some (B4 (he pins s σ H _ I h) λv s1 ⟨x,H1,I1,r1,q1⟩=>⟨x,σ,H1,I1,r1,q1⟩)
def V6:TS:=λD _ H=>D.rt .Az H
theorem Sq:PS X (.Return none pos) V6:=λ_ _ σ H _ I h=>wpAny_Return_none ⟨.Az,σ,H,I,rfl,h⟩
def ZH(c:TT)(t u:TS):TS:=λD σ H=>c σ H λb H1=>if b=true then t D σ H1 else u D σ H1
theorem aE{a b:List Stmt}{tc:TT}(hc:PT X c tc)(ha:Lc X a t)(hb:Lc X b u):PS X (.If c a b pos) (ZH tc t u):=by
 intro pins s σ H D I h;refine wpAny_If (B4 (hc pins s σ H _ I h) λd s1 ⟨H1,I1,q1⟩=>?_);cases d with
 |true=>exact ha pins s1 σ H1 D I1 q1
 |false=>exact hb pins s1 σ H1 D I1 q1
end
abbrev TG:=V->St->Hp->(St->Hp->Prop)->Prop
abbrev VR:=List V->St->Hp->(St->Hp->Prop)->Prop
def PG(X:Cx)(target:Expr)(t:TG):Prop:=
 ∀ (pins:List (Addr×Obj)) (s:Shared) (σ:St) (H:Hp) (v:V) (u:Value) (Q:St->Hp->Prop),Inv X pins σ H s->RelV v u->t v σ H Q->
   wpAny (model X.prog X.w) X.A (assign target X.env u) (λ_ s'=>∃σ' H',Inv X pins σ' H' s'/\Q σ' H') X.xe s
def dh(X:Cx)(ts:List Expr)(t:VR):Prop:=
 ∀ (pins:List (Addr×Obj)) (s:Shared) (σ:St) (H:Hp) (vs:List V) (us:List Value) (Q:St->Hp->Prop),Inv X pins σ H s->Vals vs us->t vs σ H Q->
   wpAny (model X.prog X.w) X.A (assignInOrder ((assignEach ts X.env).map (·.2)) us) (λ_ s'=>∃σ' H',Inv X pins σ' H' s'/\Q σ' H') X.xe s
section
variable{pos:Pos}
def Hl(i:Nat):TG:=λv σ H Q=>Q (σ.set i (some v)) H
theorem Mq{i:Nat}{x:Str}(hN:X.N.Nodup)(hi:X.N[i]? =some x)(hx:Loc X.env.scope x)(hf:X.fn x=true\/X.env.scope.names.lookup x=some .local:=by first|exact .inl rfl|exact .inr rfl|assumption):PG X (.Name x pos) (Hl i):=by
 intro pins s σ H v u Q I r h;exact wpAny_assign_Name (K2 I hN hi hx r (λs' I'=>⟨_,H,I',h⟩) hf)
def bM:VR:=λvs σ H Q=>vs=[]/\Q σ H
def VE(t:TG)(u:VR):VR:=λvs σ H Q=>∃v r,vs=v::r/\t v σ H λσ' H'=>u r σ' H' Q
theorem SA:dh X [] bM:=by
 intro pins s σ H vs us Q I r h;obtain⟨e,h⟩:=h;subst e;cases r;exact assignInOrder_nil ⟨σ,H,I,h⟩
theorem P4{es:List Expr}{t:TG}{u:VR}(h1:PG X e t)(h2:dh X es u)
 (hs:(assignEach (e::es) X.env).map (·.2)=assign e X.env::(assignEach es X.env).map (·.2):=by rfl):dh X (e::es) (VE t u):=by
 intro pins s σ H vs us Q I r h;obtain⟨v,vr,e1,h⟩:=h;subst e1;cases r with
 |cons r rr=>
   rw[hs];refine assignInOrder_cons (B4 (h1 pins s σ H _ _ _ I r h) λ_ s1 ⟨σ1,H1,I1,q1⟩=>?_);exact h2 pins s1 σ1 H1 _ _ Q I1 rr q1
noncomputable def XG(K:PySem.W.Frag)(n:Nat)(t:VR):TG:=λv σ H Q=>∃a xs,v= .ref a/\Ey K H a xs/\xs.length=n/\t xs σ H Q
theorem WT{es:List Expr}{k:Nat}{t:VR}{n:Nat}(hc:X.calm=true)(h:dh X es t)
 (hn:(assignEach es X.env).length=n:=by rfl)(hst:(assignEach es X.env).findIdx? (·.1)=none:=by rfl):PG X (.Tuple es k pos) (XG X.K n t):=by
 intro pins s σ H v u Q I r hw;obtain⟨a,xs,e1,hq,hl,hw⟩:=hw;subst e1;cases r;obtain⟨its,rv,ht,hz⟩:=I.tuple hq;refine assign_Tuple_tuple (I.ok.hd hc) ht (by simp[hn,<-hl,rv.length]) hst λh' hx=>?_
 have I1:Inv X pins σ H {s with heap:=h'}:=I.kept (t':=s.toks) λb o e=>hx b o (Nat.ne_of_lt (Heap.lt_size e)) e
 exact h pins _ σ H xs _ Q I1 (by simpa using rv) hw
def Oq(te:TE)(g:TG):TS:=λD σ H=>te σ H λx H1=>g x σ H1 D.nx
variable{te:TE}
theorem WR{tg:Expr}{g:TG}(he:PE X e te)(hg:PG X tg g)(hs:swapsWithSole [tg] e pos.line X.env=pure false:=by rfl)(hw:swappedStores [tg] e X.env=pure none:=by rfl)
 (h1:(assignEach [tg] X.env).map (·.2)=[assign tg X.env]:=by rfl):PS X (.Assign [tg] e pos) (Oq te g):=by
 intro pins s σ H D I h;refine wpAny_Assign_stores (B4 (he pins s σ H _ I h) λv s1 ⟨x,H1,I1,r1,q1⟩=>?_) hs hw;rw[h1];exact B4 (hg pins s1 σ H1 x v _ I1 r1 q1) λ_ s2 q=>q
theorem GW{i:Nat}{x:Str}{pos':Pos}(hN:X.N.Nodup)(hi:X.N[i]? =some x)(hx:Loc X.env.scope x)(he:PE X e te)(hs:swapsWith e (some (.Name x pos')) pos.line X.env=pure false:=by rfl)(hf:X.fn x=true\/X.env.scope.names.lookup x=some .local:=by first|exact .inl rfl|exact .inr rfl|assumption):
 PS X (.Assign [.Name x pos'] e pos) (Oq te (Hl i)):=by
 intro pins s σ H D I h;refine wpAny_Assign_Name (B4 (he pins s σ H _ I h) λv s1 ⟨y,H1,I1,r1,q1⟩=>?_) hs;exact K2 I1 hN hi hx r1 (λs2 I2=>⟨_,H1,I2,q1⟩) hf
end
section
variable{pos:Pos}
noncomputable def Ol(c:TT)(tb:TS):TS:=λD σ H=>∃W:Nat->St->Hp->Prop,(∃m,W m σ H)/\∀m σ H,W m σ H->
 c σ H λb H1=>if b=true then ∃N:St->Hp->Prop,(∀σ' H',N σ' H'->∃m',m' < m/\W m' σ' H')/\tb {D with nx:=N,ct:=N,bk:=D.nx} σ H1 else D.nx σ H1
theorem OW{body:List Stmt}{tc:TT}{tb:TS}(hp:PassesOwn (model X.prog X.w) X.A X.env X.xe)(hc:PT X c tc)(hb:Lc X body tb):PS X (.While c body [] pos) (Ol tc tb):=by
 intro pins s σ H D I h;obtain⟨W,⟨m0,w0⟩,turn⟩:=h;refine wpAny_While (codeAny_whileLoop (λn s'=>∃σ' H',Inv X pins σ' H' s'/\W n σ' H') ?_ m0 ⟨σ,H,I,w0⟩)
 rintro n s1 ⟨σ1,H1,I1,w1⟩
 refine wpAny_passesOwn hp (B4 (hc pins s1 σ1 H1 _ I1 (turn n σ1 H1 w1)) λb s2 ⟨H2,I2,q2⟩=>?_);cases b with
 |true=>
   obtain⟨N,hN,q2⟩:=q2;rw[iP rfl];refine wpAny_passesOwn hp (B4 (hb pins s2 σ1 H2 _ I2 q2) λf s3 q3=>?_);cases f with
   |next=>
     obtain⟨σ3,H3,I3,n3⟩:=q3;obtain⟨m',hm,w3⟩:=hN σ3 H3 n3;exact⟨m',hm,σ3,H3,I3,w3⟩
   |cont=>
     obtain⟨σ3,H3,I3,n3⟩:=q3;obtain⟨m',hm,w3⟩:=hN σ3 H3 n3;exact⟨m',hm,σ3,H3,I3,w3⟩
   |brk=>exact q3
   |ret v=>exact q3
 |false=>
   rw[iN Bool.false_ne_true];exact wpAny_execs_nil ⟨σ1,H2,I2,q2⟩
end
structure It where
 go:Nat->Hp->Prop
 O4:Nat->Hp->V->Hp->Prop
 stop:Nat->Hp->Prop
def FN(X:Cx)(pins:List (Addr×Obj))(H:Hp)(b:Addr):Prop:=
 H b=none/\b≠X.env.locals/\b∉X.fs/\(b∈X.ex\/X.s₀.heap.objs.size<=b)/\(∀x c,X.env.cells.lookup x=some c->c≠b)/\∀p∈X.pn++pins,p.1≠b
theorem Inv.Qe{pins:List (Addr×Obj)}{σ:St}{H':Hp}{b:Addr}(I:Inv X pins σ H s)(hb:s.heap.objs.size<=b)(hn:H' b=none):FN X pins H' b:=by
 refine⟨hn,Nat.ne_of_gt (Nat.lt_of_lt_of_le I.lt hb),I.Xg hb,.inr (Nat.le_trans I.sz hb),λx c e z=>?_,λp hp z=>?_⟩
 .obtain⟨v,q⟩:=I.cell x c e;exact absurd (Nat.lt_of_lt_of_le q.lt (by rw[z];exact hb)) (Nat.lt_irrefl _)
 .exact absurd (Nat.lt_of_lt_of_le (Heap.lt_size (I.pin p hp).1) (by rw[z];exact hb)) (Nat.lt_irrefl _)
structure Turn(P:Program)(w:World)(K:PySem.W.Frag)(tg:Expr)(J:It)(fp:List Addr)(it:Addr)(tn:Nat->Heap->Prop):Prop where
 mem:it∈fp
 obj:∀i h,tn i h->∀b∈fp,∃o,h.get? b=some o/\∀v,o.data≠.cell v
 keep:∀i h h',tn i h->(∀b∈fp,∀o,h.get? b=some o->h'.get? b=some o)->tn i h'
 item:∀(X:Cx),X.prog=P->X.w=w->X.K=K->X.calm=true->∀(i:Nat) (pins:List (Addr×Obj)) (s:Shared) (σ:St) (H:Hp) (E:Value->Shared->Prop),Inv X pins σ H s->(∀b∈fp,FN X pins H b)->tn i s.heap->J.go i H->
  wpAny (model P w) X.A (pyNext (.ref it)) (λr s1=>∃u,r=some u/\
   wpAny (model P w) X.A (letOwnedTupleGo tg (.ref it) u) (λ_ s2=>∃x H',Inv X pins σ H' s2/\RelV x u/\J.O4 i H x H'/\tn (i+1) s2.heap/\∀b∈fp,H' b=none) E s1) E s
 done:∀(X:Cx),X.prog=P->X.w=w->X.K=K->X.calm=true->∀(i:Nat) (pins:List (Addr×Obj)) (s:Shared) (σ:St) (H:Hp) (E:Value->Shared->Prop),Inv X pins σ H s->(∀b∈fp,FN X pins H b)->tn i s.heap->J.stop i H->
  wpAny (model P w) X.A (pyNext (.ref it)) (λr s1=>r=none/\Inv X pins σ H s1) E s
 self:∀(A:Around) (i:Nat) (s:Shared) (Q:Value->Shared->Prop) (E:Value->Shared->Prop),tn i s.heap->Q (.ref it) s->wpAny (model P w) A (pyIter (.ref it)) Q E s
abbrev TI:=St->Hp->(It->Hp->Prop)->Prop
def iB(X:Cx)(pins:List (Addr×Obj))(σ:St)(tg:Expr)(R:It->Hp->Prop)(itv:Value)(s2:Shared):Prop:=
 ∃(it:Addr) (fp:List Addr) (tn:Nat->Heap->Prop) (J:It) (H':Hp),itv= .ref it/\Inv X pins σ H' s2/\Turn X.prog X.w X.K tg J fp it tn/\tn 0 s2.heap/\(∀b∈fp,FN X pins H' b)/\R J H'
def PI(X:Cx)(tg iter:Expr)(wi:TI):Prop:=
 ∀ (pins:List (Addr×Obj)) (s:Shared) (σ:St) (H:Hp) (R:It->Hp->Prop),Inv X pins σ H s->wi σ H R->
   wpAny (model X.prog X.w) X.A (eval iter X.env) (λv s1=>wpAny (model X.prog X.w) X.A (pyIter v) (iB X pins σ tg R) X.xe s1) X.xe s
theorem KC{E:Value->Shared->Prop}{tg:Expr}{u:Value}{o:Obj}{n:String}{vs:Array Value}{Q:Unit->Shared->Prop}(ho:s.heap.get? it=some o)(hc:o.cls= .type n)(hd:o.data= .fields vs)
 (hn:["enumerate","zip","dict_itemiterator","dict_reverseitemiterator","odict_iterator","itertools.zip_longest","itertools.pairwise"].contains n=false)(hQ:Q () s):wpAny M A (letOwnedTupleGo tg (.ref it) u) Q E s:=by
 unfold letOwnedTupleGo
 cases tg <;>first
  |exact wP hQ
  |(cases u<;>first
   |exact wP hQ
   | (refine wB (wpAny_load ho ?_)
      rw[hc,hd];show wpAny M A (if(["enumerate","zip","dict_itemiterator","dict_reverseitemiterator","odict_iterator","itertools.zip_longest","itertools.pairwise"].contains n && vs[0]? == some (rawInt _))=true then _ else _) Q E s;rw[iN (by intro h;rw[hn,Bool.false_and]at h;cases h)]
      exact wP hQ))
noncomputable def iE(K:PySem.W.Frag)(a:Addr):It:=
 ⟨λi H=>∃xs x,E2 K H a xs/\xs[i]? =some x,λi H x H'=>H'=H/\∀xs,E2 K H a xs->xs[i]? =some x,λi H=>∃xs,E2 K H a xs/\xs.length<=i⟩
noncomputable def iC(K:PySem.W.Frag)(a:Addr):It:=
 ⟨λi H=>∃xs x,Ey K H a xs/\xs[i]? =some x,λi H x H'=>H'=H/\∀xs,Ey K H a xs->xs[i]? =some x,λi H=>∃xs,Ey K H a xs/\xs.length<=i⟩
def Zp(lo:Int)(n:Nat):It:=⟨λi _=>i < n,λi H x H'=>H'=H/\x= .int (lo+i),λi _=>n<=i⟩
theorem N6{P:Program}{K:PySem.W.Frag}{tg:Expr}(a it:Addr):Turn P w K tg (iE K a) [it] it (λi h=>h.IsListIter it a i) where
 mem:=by simp
 obj:=λi h st b hb=>by
  have e:b=it:=by simpa using hb
  subst e;obtain⟨o,e,c,d⟩:=st;exact⟨o,e,λv z=>by rw[d]at z;cases z⟩
 keep:=λi h h' st k=>st.at λo e=>k it (by simp) o e
 item:=by
  intro X hP hw hK hc i pins s σ H E I hf st hg;subst hP hw hK;obtain⟨xs,x,hq,hx⟩:=hg;obtain⟨its,rv,p,hz⟩:=I.list hq;obtain⟨u,hu,ru⟩:=rv.get hx;obtain⟨f0,f1,f2,f3,f4,f5⟩:=hf it (by simp);refine wpAny_pyNext_list_item st p.isList (x:=u) (by simpa using hu) λh' st' sb=>?_
  have I1:Inv X pins σ H {s with heap:=h'}:=I.turned (t':=s.toks) (λb o hb e=>(sb.2 b hb).trans e) f0 f1 f3 f4 f5;obtain⟨o,e,c,d⟩:=id st';exact⟨u,rfl,KC (s:={s with heap:=h'}) e c d (by decide) ⟨x,H,I1,ru,⟨rfl,λys hy=>by rw[I.PK hy hq];exact hx⟩,st',λb hb=>(hf b hb).1⟩⟩
 done:=by
  intro X hP hw hK hc i pins s σ H E I hf st hg;subst hP hw hK;obtain⟨xs,hq,hx⟩:=hg;obtain⟨its,rv,p,hz⟩:=I.list hq;obtain⟨f0,f1,f2,f3,f4,f5⟩:=hf it (by simp);have hl:=rv.length;exact wpAny_pyNext_list_end (I.ok.hd hc) st p.isList (by simp;lia) λh' eb=>⟨rfl,I.turned (t':=s.toks) (λb o hb e=>eb b o hb e) f0 f1 f3 f4 f5⟩
 self:=λ_ _ _ _ _ st h=>wpAny_pyIter_listiter st h
theorem Lf{P:Program}{K:PySem.W.Frag}{tg:Expr}(a it:Addr):Turn P w K tg (iC K a) [it] it (λi h=>h.IsTupleIter it a i) where
 mem:=by simp
 obj:=λi h st b hb=>by
  have e:b=it:=by simpa using hb
  subst e;obtain⟨o,e,c,d⟩:=st;exact⟨o,e,λv z=>by rw[d]at z;cases z⟩
 keep:=λi h h' st k=>st.at λo e=>k it (by simp) o e
 item:=by
  intro X hP hw hK hc i pins s σ H E I hf st hg;subst hP hw hK;obtain⟨xs,x,hq,hx⟩:=hg;obtain⟨its,rv,p,hz⟩:=I.tuple hq;obtain⟨u,hu,ru⟩:=rv.get hx;obtain⟨f0,f1,f2,f3,f4,f5⟩:=hf it (by simp);refine wpAny_pyNext_tuple_item st (show s.heap.IsTuple a its.toArray from p) (x:=u) (by simpa using hu) λh' st' sb=>?_
  have I1:Inv X pins σ H {s with heap:=h'}:=I.turned (t':=s.toks) (λb o hb e=>(sb.2 b hb).trans e) f0 f1 f3 f4 f5;obtain⟨o,e,c,d⟩:=id st';exact⟨u,rfl,KC (s:={s with heap:=h'}) e c d (by decide) ⟨x,H,I1,ru,⟨rfl,λys hy=>by rw[I.N7 hy hq];exact hx⟩,st',λb hb=>(hf b hb).1⟩⟩
 done:=by
  intro X hP hw hK hc i pins s σ H E I hf st hg;subst hP hw hK;obtain⟨xs,hq,hx⟩:=hg;obtain⟨its,rv,p,hz⟩:=I.tuple hq;obtain⟨f0,f1,f2,f3,f4,f5⟩:=hf it (by simp);have hl:=rv.length;exact wpAny_pyNext_tuple_end (I.ok.hd hc) st (show s.heap.IsTuple a its.toArray from p) (by simp;lia) λh' eb=>⟨rfl,I.turned (t':=s.toks) (λb o hb e=>eb b o hb e) f0 f1 f3 f4 f5⟩
 self:=λ_ _ _ _ _ st h=>wpAny_pyIter_tupleiter st h
theorem Lg{P:Program}{K:PySem.W.Frag}{tg:Expr}(it:Addr)(lo:Int)(n:Nat):Turn P w K tg (Zp lo n) [it] it (λi h=>IsRangeIter h it (lo + (i:Nat) * 1) ((n:Int) - (i:Nat)) 1) where
 mem:=by simp
 obj :=λi h st b hb=>by
  have e:b=it:=by simpa using hb
  subst e
  exact⟨_,st,λv z=>by
   have z':Data.fields _=Data.cell v:=z
   cases z'⟩
 keep:=λi h h' st k=>k it (by simp) _ st
 item:=by
  intro X hP hw hK hc i pins s σ H E I hf st hg;subst hP hw hK;obtain⟨f0,f1,f2,f3,f4,f5⟩:=hf it (by simp);have W:=Walks.range (prog:=X.prog) (w:=X.w) (I.ok.hd hc) it lo 1 n;refine W.item i s _ _ hg st λv h' tk hv st' kk=>?_
  obtain⟨t,rfl⟩:=hv;have I1:Inv X pins σ H {s with heap:=h',toks:=tk}:=I.turned (λb o hb e=>kk b o (by simpa using hb) e) f0 f1 f3 f4 f5;refine⟨_,rfl,KC (s:={s with heap:=h',toks:=tk}) (n:="range_iterator") st' rfl rfl (by decide) ⟨.int (lo+i),H,I1,⟨t,?_⟩,⟨rfl,rfl⟩,st',λb hb=>(hf b hb).1⟩⟩;rw[Int.mul_one]
 done:=by
  intro X hP hw hK hc i pins s σ H E I hf st hg;subst hP hw hK;obtain⟨f0,f1,f2,f3,f4,f5⟩:=hf it (by simp);exact wpAny_pyNext_range_end (I.ok.hd hc) st (by have:n<=i:=hg;lia) λh' eb=>⟨rfl,I.turned (t':=s.toks) (λb o hb e=>eb b o hb e) f0 f1 f3 f4 f5⟩
 self:=λ_ _ _ _ _ st h=>wpAny_pyIter_rangeiter st h
section
variable{tg:Expr}
variable{pins:List (Addr×Obj)}{H:Hp}{s:Shared}
theorem Kc{σ:St}{R:It->Hp->Prop}{E:Value->Shared->Prop}{lo hi:Int}{t u v:Tok}{tk:Nat}(I:Inv X pins σ H s)(h1: -(2 ^ 62)<=lo)(h2:lo < 2 ^ 62)(h3: -(2 ^ 62)<=hi)(h4:hi < 2 ^ 62)
 (q:R (Zp lo (hi-lo).toNat) H):wpAny (model X.prog X.w) X.A (pyIter (.ref s.heap.objs.size)) (iB X pins σ tg R) E {s with heap:=s.heap.push {cls:=.type "range",data:=.fields #[.int lo t,.int hi u,.int 1 v]},toks:=tk}:=by
 refine wpAny_pyIter_range (IsRange.new ..) (small_one h1 h2 h3 h4) ?_;have I1:Inv X pins σ H {s with heap:=s.heap.push {cls:=.type "range",data:=.fields #[.int lo t,.int hi u,.int 1 v]},toks:=tk}:=I.kept λb o e=>gP e
 refine⟨(s.heap.push {cls:=.type "range",data:=.fields #[.int lo t,.int hi u,.int 1 v]}).objs.size,[(s.heap.push {cls:=.type "range",data:=.fields #[.int lo t,.int hi u,.int 1 v]}).objs.size],_,_,H,rfl,
  I1.kept (t':=tk) λb o e=>gP e,Lg _ lo (hi-lo).toNat,?_,λb hb=>?_,q⟩
 .have e1:lo+((0:Nat):Int)*1=lo:=by simp
  have e2:(((hi-lo).toNat:Nat):Int)-((0:Nat):Int)=Builtin.Range.rangeSize lo hi 1:=by rw[rangeSize_one];split<;>lia
  show IsRangeIter _ _ (lo+((0:Nat):Int)*1) ((((hi-lo).toNat:Nat):Int)-((0:Nat):Int)) 1;rw[e1,e2];exact Heap.get?_push_size _ rfl
 .have e:b=(s.heap.push {cls:=.type "range",data:=.fields #[.int lo t,.int hi u,.int 1 v]}).objs.size:=by simpa using hb
  subst e;exact I1.Qe (lR) (I1.Ak.fresh (lR))
noncomputable def bE(ta:TA):TI:=λσ H R=>ta σ H λvs H1=>∃j:Int,vs=[.int j]/\-(2 ^ 62)<=j/\j < 2 ^ 62/\R (Zp 0 j.toNat) H1
noncomputable def bD(ta:TA):TI:=λσ H R=>ta σ H λvs H1=>∃i j:Int,vs=[.int i,.int j]/\(-(2 ^ 62)<=i/\i < 2 ^ 62/\-(2 ^ 62)<=j/\j < 2 ^ 62)/\R (Zp i (j-i).toNat) H1
theorem Np{a:Expr}{ta:TA}{p pos:Pos}(hg:Gl X "range")(hm:X.mg "range"=none)(ha:PA X [a] ta)(hs:starEach [a] X.env=[(false,eval a X.env)]:=by rfl):PI X tg (.Call (.Name "range" p) [a] [] pos) (bE ta):=by
 intro pins s σ H R I h;refine Call_ (Fx I hg hm boot_range (PyProof.Rows.callWith_type1 (B4 (ha pos pins s σ H _ I h) λus s1 ⟨vs,H1,I1,r1,q1⟩=>?_) hs rfl));obtain⟨j,e,q1,q2,q⟩:=q1;subst e;cases r1 with
 |cons r rr=>
   cases rr;obtain⟨t,rfl⟩:=r;exact call_range_1 (Kc I1 (by lia) (by lia) q1 q2 (by simpa using q))
theorem Nn{a b:Expr}{ta:TA}{p pos:Pos}(hg:Gl X "range")(hm:X.mg "range"=none)(ha:PA X [a,b] ta)(hs:starEach [a,b] X.env=[(false,eval a X.env),(false,eval b X.env)]:=by rfl)(hs2:starEach [b] X.env=[(false,eval b X.env)]:=by rfl):
 PI X tg (.Call (.Name "range" p) [a,b] [] pos) (bD ta):=by
 intro pins s σ H R I h;refine Call_ (Fx I hg hm boot_range (PyProof.Rows.callWith_type1 (B4 (ha pos pins s σ H _ I h) λus s1 ⟨vs,H1,I1,r1,q1⟩=>?_) (by rw[hs,hs2]) (by rw[hs2];rfl)));obtain⟨i,j,e,⟨q1,q2,q3,q4⟩,q⟩:=q1;subst e;cases r1 with
 |cons r rr=>
   cases rr with
   |cons r' rr=>
     cases rr;obtain⟨t,rfl⟩:=r;obtain⟨t',rfl⟩:=r';exact call_range_2 (Kc I1 q1 q2 q3 q4 q)
noncomputable def ZI(wi:TI)(g:TG)(tb:TS):TS:=λD σ H=>wi σ H λJ H1=>∃W:Nat->Nat->St->Hp->Prop,(∃m,W 0 m σ H1)/\∀i m σ H,W i m σ H->
 (J.stop i H/\D.nx σ H)\/(J.go i H/\∃N:St->Hp->Prop,(∀σ' H',N σ' H'->∃m',m' < m/\W (i+1) m' σ' H')/\∀x H',J.O4 i H x H'->g x σ H' λσ2 H2=>tb {D with nx:=N,ct:=N,bk:=D.nx} σ2 H2)
def IY(fp:List Addr)(h:Heap):List (Addr×Obj):=fp.filterMap λb=>(h.get? b).map λo=>(b,o)
variable{fp:List Addr}{h:Heap}
theorem BP{b:Addr}{o:Obj}(hb:b∈fp)(e:h.get? b=some o):(b,o)∈IY fp h:=mem_filterMap.mpr ⟨b,hb,by rw[e];rfl⟩
theorem Nt{p:Addr×Obj}(hp:p∈IY fp h):p.1∈fp/\h.get? p.1=some p.2:=by
 obtain⟨b,hb,e⟩:=mem_filterMap.mp hp;cases q:h.get? b with
 |none=>rw[q]at e;cases e
 |some o=>
   rw[q]at e;have e':(b,o)=p:=Option.some.inj e;subst e';exact⟨hb,q⟩
theorem Inv.pinned{σ:St}(I:Inv X pins σ H s)(hf:∀b∈fp,FN X pins H b)(ho:∀b∈fp,∃o,s.heap.get? b=some o/\∀v,o.data≠.cell v):Inv X (pins++IY fp s.heap) σ H s:=
 I.D5 λp hp=>(mem_append.mp hp).elim (λz=>I.pin p (mR z)) λz=>by
  obtain⟨hb,e⟩:=Nt z;obtain⟨f0,f1,f2,_⟩:=hf p.1 hb;obtain⟨o,e',d⟩:=ho p.1 hb;rw[e]at e';cases e';exact⟨e,f0,f1,f2,d⟩
theorem Inv.GB{pl:List (Addr×Obj)}{σ:St}(I:Inv X (pins++pl) σ H s):Inv X pins σ H s:=I.D5 λp hp=>I.pin p (mR (mL hp))
theorem WN{iter:Expr}{body:List Stmt}{wi:TI}{g:TG}{tb:TS}{pos:Pos}(hp:PassesOwn (model X.prog X.w) X.A X.env X.xe)(hc:X.calm=true)(hi:PI X tg iter wi)(hg:PG X tg g)(hb:Lc X body tb)
 (hs:∀x,foldedSetIterable iter X.env x=pure x:=by intro _;rfl):PS X (.For tg iter body [] pos) (ZI wi g tb):=by
 intro pins s σ H D I h;refine wpAny_For (B4 (hi pins s σ H _ I h) λv s1 h1=>B4 h1 λitv s2 h2=>?_) hs;obtain⟨it,fp,tn,J,H2,e,I2,T,st2,f2,W,⟨m0,w0⟩,turn⟩:=h2;subst e;have stat:∀{H':Hp},(∀b∈fp,H' b=none)->∀b∈fp,FN X pins H' b:=λhn b hb=>⟨hn b hb,(f2 b hb).2⟩
 refine codeAny_forLoop_any (λn s'=>∃i σ' H',Inv X pins σ' H' s'/\tn i s'.heap/\(∀b∈fp,H' b=none)/\W i n σ' H') ?_ m0 ⟨0,σ,H2,I2,st2,λb hb=>(f2 b hb).1,w0⟩
 rintro n s3 ⟨i,σ3,H3,I3,st3,fr3,w3⟩
 rcases turn i n σ3 H3 w3 with⟨stop,qn⟩|⟨go,N,hN,step⟩
 .refine wpAny_passesOwn hp (B4 (T.done X rfl rfl rfl hc i pins s3 σ3 H3 X.xe I3 (stat fr3) st3 stop) λr s4 ⟨hr,I4⟩=>?_);subst hr;exact wpAny_execs_nil ⟨σ3,H3,I4,qn⟩
 .refine wpAny_passesOwn hp (B4 (T.item X rfl rfl rfl hc i pins s3 σ3 H3 X.xe I3 (stat fr3) st3 go) λr s4 ⟨u,hr,h4⟩=>?_);subst hr;refine wpAny_passesOwn hp (B4 h4 λ_ s5 ⟨x,H5,I5,r5,y5,st5,fr5⟩=>?_);have I5':=I5.pinned (stat fr5) (T.obj _ _ st5);refine wpAny_passesOwn hp (B4 (hg _ s5 σ3 H5 x u _ I5' r5 (step x H5 y5)) λ_ s6 ⟨σ6,H6,I6,q6⟩=>?_);refine wpAny_passesOwn hp (B4 (hb _ s6 σ6 H6 _ I6 q6) λf s7 q7=>?_)
  have again:∀{σ7:St} {H7:Hp},Inv X (pins++IY fp s5.heap) σ7 H7 s7->N σ7 H7->∃m,m < n/\∃i σ' H',Inv X pins σ' H' s7/\tn i s7.heap/\(∀b∈fp,H' b=none)/\W i m σ' H':=λ{σ7 H7} I7 n7=>by
   obtain⟨m',hm,w7⟩:=hN σ7 H7 n7;refine⟨m',hm,i+1,σ7,H7,I7.GB,T.keep _ _ _ st5 λb hb o e=>(I7.pin (b,o) (mR (mR (BP hb e)))).1,λb hb=>?_,w7⟩;obtain⟨o,e,d⟩:=T.obj _ _ st5 b hb;exact(I7.pin (b,o) (mR (mR (BP hb e)))).2.1
  cases f with
  |next=>obtain⟨σ7,H7,I7,n7⟩:=q7;exact again I7 n7
  |cont=>obtain⟨σ7,H7,I7,n7⟩:=q7;exact again I7 n7
  |brk=>obtain⟨σ7,H7,I7,q7⟩:=q7;exact⟨σ7,H7,I7.GB,q7⟩
  |ret v=>obtain⟨x7,σ7,H7,I7,r7,q7⟩:=q7;exact⟨x7,σ7,H7,I7.GB,r7,q7⟩
end
abbrev R2:=V->V->Hp->VK->Prop
def C4(X:Cx)(f:Value->Value->Sem Value)(r:R2):Prop:=
 ∀ (pins:List (Addr×Obj)) (s:Shared) (σ:St) (H:Hp) (x y:V) (v u:Value) (Q:VK),Inv X pins σ H s->RelV x v->RelV y u->r x y H Q->
   wpAny (model X.prog X.w) X.A (f v u) (EP X pins σ Q) X.xe s
def VQ(X:Cx)(f:Value->Sem Value)(r:V->Hp->VK->Prop):Prop:=
 ∀ (pins:List (Addr×Obj)) (s:Shared) (σ:St) (H:Hp) (x:V) (v:Value) (Q:VK),Inv X pins σ H s->RelV x v->r x H Q->
   wpAny (model X.prog X.w) X.A (f v) (EP X pins σ Q) X.xe s
def B5(X:Cx)(f:Value)(r:List V->Hp->VK->Prop):Prop:=
 ∀ (pins:List (Addr×Obj)) (s:Shared) (σ:St) (H:Hp) (xs:List V) (us:List Value) (Q:VK),Inv X pins σ H s->Vals xs us->r xs H Q->
   wpAny (model X.prog X.w) X.A (call f us) (EP X pins σ Q) X.xe s
def dc(X:Cx)(r:V->Hp->(Bool->Hp->Prop)->Prop):Prop:=
 ∀ (pins:List (Addr×Obj)) (s:Shared) (σ:St) (H:Hp) (x:V) (v:Value) (Q:Bool->Hp->Prop),Inv X pins σ H s->RelV x v->r x H Q->
   wpAny (model X.prog X.w) X.A (truthy v) (TP X pins σ Q) X.xe s
def dy(r:R2)(ta tb:TE):TE:=λσ H Q=>ta σ H λx H1=>tb σ H1 λy H2=>r x y H2 Q
def iG(r:V->Hp->VK->Prop)(ta:TE):TE:=λσ H Q=>ta σ H λx H1=>r x H1 Q
noncomputable def rI(C:Int->Int->Prop)(g:Int->Int->V):R2:=λx y H Q=>∃i j,x= .int i/\y= .int j/\C i j/\Q (g i j) H
def Vk(g:Int->Int->V):R2:=λx y H Q=>∃i j,x= .int i/\y= .int j/\Q (g i j) H
def rU(g:Int->V):V->Hp->VK->Prop:=λx H Q=>∃i,x= .int i/\Q (g i) H
section
variable{a b c:Expr}{ta tb tc:TE}{pos:Pos}
theorem Yt(ha:PE X a ta)(hb:PE X b tb){pins:List (Addr×Obj)}{s:Shared}{σ:St}{H:Hp}{R:V->V->Hp->Prop}(I:Inv X pins σ H s)
 (h:ta σ H λx H1=>tb σ H1 λy H2=>R x y H2){Q:Value->Shared->Prop}{f:Value->Value->Sem Value}
 (hf:∀v u s2 x y H2,Inv X pins σ H2 s2->RelV x v->RelV y u->R x y H2->wpAny (model X.prog X.w) X.A (f v u) Q X.xe s2):
 wpAny (model X.prog X.w) X.A (eval a X.env) (λv s₁=>wpAny (model X.prog X.w) X.A (eval b X.env) (λu s₂=>wpAny (model X.prog X.w) X.A (f v u) Q X.xe s₂) X.xe s₁) X.xe s:=by
 refine B4 (ha pins s σ H _ I h) λv s1 ⟨x,H1,I1,r1,q1⟩=>?_
 refine B4 (hb pins s1 σ H1 _ I1 q1) λu s2 ⟨y,H2,I2,r2,q2⟩=>?_
 exact hf v u s2 x y H2 I2 r1 r2 q2
theorem aI{op:Operator}{r:R2}(ho:C4 X (binaryOp op) r)(ha:PE X a ta)(hb:PE X b tb):PE X (.BinOp a op b pos) (dy r ta tb):=by
 intro pins s σ H Q I h;exact wpAny_BinOp (Yt ha hb I h λv u s2 x y H2 I2 rx ry q=>ho pins s2 σ H2 x y v u Q I2 rx ry q)
theorem aG{op:UnaryOp}{r:V->Hp->VK->Prop}(ho:VQ X (unaryOp op) r)(ha:PE X a ta):PE X (.UnaryOp op a pos) (iG r ta):=by
 intro pins s σ H Q I h;exact UnaryOp_ (B4 (ha pins s σ H _ I h) λv s1 ⟨x,H1,I1,r1,q1⟩=>ho pins s1 σ H1 x v Q I1 r1 q1)
theorem dB{f:Value->Value->Sem Value}{C:Int->Int->Prop}{g:Int->Int->Int}
 (rule:∀(i j:Int) (t u:Tok) (s:Shared) (Q:Value->Shared->Prop) (E:Value->Shared->Prop),C i j->Q (.int (g i j) s.toks) {s with toks:=s.toks+1}->wpAny (model X.prog X.w) X.A (f (.int i t) (.int j u)) Q E s):
 C4 X f (rI C λi j=>.int (g i j)):=by
 intro pins s σ H x y v u Q I rx ry h;obtain⟨i,j,rfl,rfl,hc,q⟩:=h;obtain⟨t,rfl⟩:=rx;obtain⟨t',rfl⟩:=ry;exact rule i j t t' s _ _ hc ⟨.int (g i j),H,I.tok _,⟨_,rfl⟩,q⟩
theorem aS{f:Value->Value->Sem Value}{g:Int->Int->Int}
 (rule:∀(i j:Int) (t u:Tok) (s:Shared) (Q:Value->Shared->Prop) (E:Value->Shared->Prop),Q (.int (g i j) s.toks) {s with toks:=s.toks+1}->wpAny (model X.prog X.w) X.A (f (.int i t) (.int j u)) Q E s):
 C4 X f (Vk λi j=>.int (g i j)):=by
 intro pins s σ H x y v u Q I rx ry h;obtain⟨i,j,rfl,rfl,q⟩:=h;obtain⟨t,rfl⟩:=rx;obtain⟨t',rfl⟩:=ry;exact rule i j t t' s _ _ ⟨.int (g i j),H,I.tok _,⟨_,rfl⟩,q⟩
theorem SM{f:Value->Value->Sem Value}{g:Int->Int->Bool}
 (rule:∀(i j:Int) (t u:Tok) (s:Shared) (Q:Value->Shared->Prop) (E:Value->Shared->Prop),Q (.bool (g i j)) s->wpAny (model X.prog X.w) X.A (f (.int i t) (.int j u)) Q E s):
 C4 X f (Vk λi j=>.bl (g i j)):=by
 intro pins s σ H x y v u Q I rx ry h;obtain⟨i,j,rfl,rfl,q⟩:=h;obtain⟨t,rfl⟩:=rx;obtain⟨t',rfl⟩:=ry;exact rule i j t t' s _ _ ⟨.bl (g i j),H,I,rfl,q⟩
def i8(i j:Int):Prop:=0 < j/\j < 1073741824
def i7(i j:Int):Prop:=0<=j/\j<=1000000/\i.natAbs < 2 ^ 64
def Z8(i j:Int):Prop:=(-(2 ^ 64) < i/\i < 2 ^ 64)\/(-(2 ^ 64) < j/\j < 2 ^ 64)
theorem Z8.ok{i j:Int}(h:Z8 i j):IntMulOk i j:=by
 rcases h with⟨h1,h2⟩|⟨h1,h2⟩
 .exact .of_left (intBits_le_64 h1 h2)
 .exact .of_right (intBits_le_64 h1 h2)
theorem Xc:C4 X (binaryOp .Add) (Vk λi j=>.int (i+j)):=aS λ_ _ _ _ _ _ _ q=>add_int q
theorem X6:C4 X (binaryOp .Sub) (Vk λi j=>.int (i-j)):=aS λ_ _ _ _ _ _ _ q=>sub_int q
theorem X9:C4 X (binaryOp .Mult) (rI Z8 λi j=>.int (i*j)):=dB λ_ _ _ _ _ _ _ hc q=>mul_int q hc.ok
theorem SJ:C4 X (binaryOp .FloorDiv) (rI i8 λi j=>.int (i / j)):=dB λi j _ _ _ _ _ hc q=>by
 have h1:(0:Int) < j:=hc.1;have h2:j < 1073741824:=hc.2;exact floordiv_int (by lia) (by rw[Int.fdiv_eq_ediv_of_nonneg i (by lia)];exact q) (.inl (PyProof.noPylong_small (by lia)))
theorem Xa:C4 X (binaryOp .Mod) (rI (λ_ j=>0 < j) λi j=>.int (i % j)):=dB λi j _ _ _ _ _ hc q=>by
 have h1:(0:Int) < j:=hc;exact mod_int' (by lia) (by rw[Int.fmod_eq_emod_of_nonneg i (by lia)];exact q)
theorem X8:C4 X (binaryOp .Pow) (rI i7 λi j=>.int (i ^ j.toNat)):=dB λ_ _ _ _ _ _ _ hc q=>pow_int_small hc.1 hc.2.1 hc.2.2 q
theorem iF{f:Value->Sem Value}{g:Int->Int}
 (rule:∀(i:Int) (t:Tok) (s:Shared) (Q:Value->Shared->Prop) (E:Value->Shared->Prop),Q (.int (g i) s.toks) {s with toks:=s.toks+1}->wpAny (model X.prog X.w) X.A (f (.int i t)) Q E s):
 VQ X f (rU λi=>.int (g i)):=by
 intro pins s σ H x v Q I rx h;obtain⟨i,rfl,q⟩:=h;obtain⟨t,rfl⟩:=rx;exact rule i t s _ _ ⟨.int (g i),H,I.tok _,⟨_,rfl⟩,q⟩
theorem VU:VQ X (unaryOp .USub) (rU λi=>.int (-i)):=iF λ_ _ _ _ _ q=>neg_int q
end
section
variable{a b c:Expr}{ta tb tc:TE}{pos:Pos}
theorem XH{pins:List (Addr×Obj)}{σ:St}{H:Hp}{s:Shared}{Q:VK}{k k':Bool}(I:Inv X pins σ H s)(q:Q (.bl k) H)(e:k=k'):EP X pins σ Q (.bool k') s:=by
 subst e;exact⟨.bl k,H,I,rfl,q⟩
theorem aO:C4 X (compareOp .Lt) (Vk λi j=>.bl (decide (i < j))):=SM λ_ _ _ _ _ _ _ q=>lt_int q
theorem aP:C4 X (compareOp .LtE) (Vk λi j=>.bl (decide (i<=j))):=SM λ_ _ _ _ _ _ _ q=>le_int q
theorem aQ:C4 X (compareOp .Gt) (Vk λi j=>.bl (decide (j < i))):=SM λ_ _ _ _ _ _ _ q=>gt_int q
theorem aR:C4 X (compareOp .GtE) (Vk λi j=>.bl (decide (j<=i))):=SM λ_ _ _ _ _ _ _ q=>ge_int q
variable{op:CmpOp}
theorem SF{r:R2}(ho:C4 X (compareOp op) r)(ha:PE X a ta)(hb:PE X b tb)(hm:behindInMarks op b=false):PE X (.Compare a [op] [b] pos) (dy r ta tb):=by
 intro pins s σ H Q I h;exact wpAny_Compare1 (Yt ha hb I h λv u s2 x y H2 I2 rx ry q=>ho pins s2 σ H2 x y v u Q I2 rx ry q) hm
def V5(t:TE):TT:=λσ H Q=>t σ H λx H'=>∃k,x= .bl k/\Q k H'
theorem Sl{r:R2}(ho:C4 X (compareOp op) r)(ha:PE X a ta)(hb:PE X b tb)(hm:behindInMarks op b=false):PT X (.Compare a [op] [b] pos) (V5 (dy r ta tb)):=by
 intro pins s σ H Q I h
 refine wpAny_isTrue_Compare1 (B4 (ha pins s σ H _ I h) λv s1 ⟨x,H1,I1,r1,q1⟩=>B4 (hb pins s1 σ H1 _ I1 q1) λu s2 ⟨y,H2,I2,r2,q2⟩=>
  B4 (ho pins s2 σ H2 x y v u _ I2 r1 r2 q2) λc s3 ⟨z,H3,I3,r3,k,e,q3⟩=>?_) hm
 subst e;cases r3;exact wpAny_truthy_bool ⟨H3,I3,q3⟩
noncomputable def Om(r r':R2)(ta tb tc:TE):TE:=λσ H Q=>ta σ H λx H1=>tb σ H1 λy H2=>r x y H2 λz H3=>∃k,z= .bl k/\
 (if k=true then tc σ H3 λw' H4=>r' y w' H4 Q else Q (.bl false) H3)
variable{op':CmpOp}{r':R2}
theorem Pb{r:R2}(ho:C4 X (compareOp op) r)(ho':C4 X (compareOp op') r')(ha:PE X a ta)(hb:PE X b tb)(hc:PE X c tc)
 (hm:lastMarks [op,op'] [b,c]=false:=by with_unfolding_all rfl):PE X (.Compare a [op,op'] [b,c] pos) (Om r r' ta tb tc):=by
 intro pins s σ H Q I h
 refine Compare_chain (B4 (ha pins s σ H _ I h) λv s1 ⟨x,H1,I1,r1,q1⟩=>chain_link (B4 (hb pins s1 σ H1 _ I1 q1) λu s2 ⟨y,H2,I2,r2,q2⟩=>
  B4 (ho pins s2 σ H2 x y v u _ I2 r1 r2 q2) λd s3 ⟨z,H3,I3,r3,k,e,q3⟩=>?_)) hm
 subst e;cases r3;refine wpAny_truthy_bool ?_;cases k with
 |false=>exact ite_ff ⟨.bl false,H3,I3,rfl,q3⟩
 |true=>exact ite_tt (chain_last (B4 (hc pins s3 σ H3 _ I3 q3) λw' s4 ⟨z',H4,I4,r4,q4⟩=>ho' pins s4 σ H4 y z' u w' Q I4 r2 r4 q4))
theorem OU{r:R2}(ho:C4 X (compareOp op) r)(ho':C4 X (compareOp op') r')(ha:PE X a ta)(hb:PE X b tb)(hc:PE X c tc)
 (hm:lastMarks [op,op'] [b,c]=false:=by with_unfolding_all rfl):PT X (.Compare a [op,op'] [b,c] pos) (V5 (Om r r' ta tb tc)):=by
 intro pins s σ H Q I h
 refine isTrue_chain (B4 (ha pins s σ H _ I h) λv s1 ⟨x,H1,I1,r1,q1⟩=>test_link (B4 (hb pins s1 σ H1 _ I1 q1) λu s2 ⟨y,H2,I2,r2,q2⟩=>
  B4 (ho pins s2 σ H2 x y v u _ I2 r1 r2 q2) λd s3 ⟨z,H3,I3,r3,k,e,q3⟩=>?_)) hm
 subst e;cases r3;refine wpAny_truthy_bool ?_;cases k with
 |false=>
   obtain⟨k',e',q'⟩:=q3;cases e';exact ite_ff ⟨H3,I3,q'⟩
 |true=>
   refine ite_tt (test_last (B4 (hc pins s3 σ H3 _ I3 q3) λw' s4 ⟨z',H4,I4,r4,q4⟩=>B4 (ho' pins s4 σ H4 y z' u w' _ I4 r2 r4 q4) λd' s5 ⟨z2,H5,I5,r5,k2,e2,q5⟩=>?_));subst e2;cases r5;exact wpAny_truthy_bool ⟨H5,I5,q5⟩
def da(K:PySem.W.Frag)(x:V)(H:Hp)(k:Bool):Prop:=
 match x with
 |.Az=>k=false
 |.bl b=>k=b
 |.int i=>k=(i != 0)
 |.str y=>y.length<=sizeLine/\k=((y.length:Int) != 0)
 |.VM y=>y.size<=sizeLine/\k=((y.size:Int) != 0)
 |.ref p=>(∃xs,E2 K H p xs/\k= !xs.isEmpty)\/(∃xs,Ey K H p xs/\k= !xs.isEmpty)\/∃kvs,H p=some (.dK kvs)/\k= !kvs.isEmpty
 |_=>False
theorem LP{κ:Type}{kvs:List (κ×V)}{vs:List (κ×Value)}(r:KV kvs vs):(!vs.isEmpty)= !kvs.isEmpty:=by
 cases r<;>rfl
theorem Hi{xs:List V}{its:List Value}(r:Vals xs its):(!its.toArray.isEmpty)= !xs.isEmpty:=by
 cases r<;>simp
theorem Hf:(sizeLine:Nat) < 2 ^ 63:=by rw[sizeLine_eq];decide
theorem W4:dc X (λx H Q=>∃k,da X.K x H k/\Q k H):=by
 intro pins s σ H x v Q I rx h;obtain⟨k,e,q⟩:=h;have hl:=Hf;have hs:sizeLine=16777216:=sizeLine_eq;cases x with
 |Az=>
   cases rx;have e':k=false:=e;subst e';exact truthy_none ⟨H,I,q⟩
 |bl b=>
   cases rx;have e':k=b:=e;subst e';exact wpAny_truthy_bool ⟨H,I,q⟩
 |int i=>
   obtain⟨t,rfl⟩:=rx;have e':k=(i != 0):=e;subst e';exact PySem.P.truthy_int ⟨H,I,q⟩
 |str y=>
   obtain⟨t,rfl⟩:=rx;obtain⟨hy,e'⟩:y.length<=sizeLine/\k=((y.length:Int) != 0):=e;subst e';exact PySem.P.truthy_str (by lia) ⟨H,I.tok _,q⟩
 |VM y=>
   obtain⟨t,rfl⟩:=rx;obtain⟨hy,e'⟩:y.size<=sizeLine/\k=((y.size:Int) != 0):=e;subst e';exact PySem.W.truthy_bytes (by lia) ⟨H,I.tok _,q⟩
 |ref p=>
   cases rx;have e':(∃xs,E2 X.K H p xs/\k= !xs.isEmpty)\/(∃xs,Ey X.K H p xs/\k= !xs.isEmpty)\/∃kvs,H p=some (.dK kvs)/\k= !kvs.isEmpty:=e;rcases e' with⟨xs,hx,e'⟩|⟨xs,hx,e'⟩|⟨kvs,hx,e'⟩
   .subst e';obtain⟨its,r,pl,hz⟩:=I.list hx;have hlen:=r.length;exact wpAny_truthy_list pl.isList (by simp only[size_toArray];lia) ⟨H,I.tok _,by rw[Hi r];exact q⟩
   .subst e';obtain⟨its,r,pl,hz⟩:=I.tuple hx;have hlen:=r.length;exact truthy_tuple pl (by simp only[size_toArray];lia) ⟨H,I.tok _,by rw[Hi r];exact q⟩
   .subst e';obtain⟨hz,hS,vs,r,m⟩:kvs.length<=sizeLine/\(p == sysModules)=false/\∃vs,KV kvs vs/\s.heap.DictOf (J9 X.prog X.w) p vs:=I.Ak p _ hx;have hlen:kvs.length=vs.length:=Paired.length r;exact wpAny_truthy_dict hS m (by lia) ⟨H,I.tok _,by rw[LP r];exact q⟩
 |_=>exact(show False from e).elim
theorem Lw:C4 X (binaryOp .Add) (λx y H Q=>∃i j,x= .str i/\y= .str j/\i.length + j.length<=sizeLine/\Q (.str (i++j)) H):=by
 intro pins s σ H x y v u Q I rx ry h;obtain⟨i,j,rfl,rfl,hz,q⟩:=h;obtain⟨t,rfl⟩:=rx;obtain⟨t',rfl⟩:=ry;exact add_str (λt' tk=>⟨.str (i++j),H,I.tok _,⟨_,rfl⟩,q⟩) hz
variable{us:List Value}
theorem vals1{x:V}(r:Vals [x] us):∃u,us=[u]/\RelV x u:=by
 cases r with
 |cons r1 r2=>cases r2;exact⟨_,rfl,r1⟩
theorem vals2{x y:V}(r:Vals [x,y] us):∃u w',us=[u,w']/\RelV x u/\RelV y w':=by
 cases r with
 |cons r1 r2=>
   cases r2 with
   |cons r3 r4=>cases r4;exact⟨_,_,rfl,r1,r3⟩
theorem NV(hc:X.calm=true):B5 X (.builtin "min") (λxs H Q=>∃i j,xs=[.int i,.int j]/\Q (.int (if j < i then j else i)) H):=by
 intro pins s σ H xs us Q I r h;obtain⟨i,j,rfl,q⟩:=h;obtain⟨u,w',rfl,⟨t,rfl⟩,⟨t',rfl⟩⟩:=vals2 r;refine min_two_ints (I.ok.hd hc) λh' tk k=>⟨_,H,I.kept k,?_,q⟩
 by_cases hj:j < i
 .rw[iP hj,iP hj];exact⟨_,rfl⟩
 .rw[iN hj,iN hj];exact⟨_,rfl⟩
theorem IA:B5 X (.type "int") (λxs H Q=>(∃i,xs=[.int i]/\Q (.int i) H)\/∃k,xs=[.bl k]/\Q (.int (if k then 1 else 0)) H):=by
 intro pins s σ H xs us Q I r h;rcases h with⟨i,rfl,q⟩|⟨k,rfl,q⟩
 .obtain⟨u,rfl,t,rfl⟩:=vals1 r;exact call_int_int ⟨.int i,H,I,⟨_,rfl⟩,q⟩
 .obtain⟨u,rfl,r1⟩:=vals1 r;cases r1;exact call_int_bool ⟨.int (if k then 1 else 0),H,I.tok _,⟨_,rfl⟩,q⟩
def i4(K:PySem.W.Frag)(x:V)(H:Hp)(n:Nat):Prop:=
 match x with
 |.str y=>y.length<=sizeLine/\n=y.length
 |.VM y=>y.size<=sizeLine/\n=y.size
 |.ref p=>(∃xs,E2 K H p xs/\n=xs.length)\/∃xs,Ey K H p xs/\n=xs.length
 |_=>False
theorem Hw:B5 X (.builtin "len") (λxs H Q=>∃x n,xs=[x]/\i4 X.K x H n/\Q (.int n) H):=by
 intro pins s σ H xs us Q I r h;obtain⟨x,n,rfl,e,q⟩:=h;obtain⟨u,rfl,rx⟩:=vals1 r;have hl:=Hf;have hs:sizeLine=16777216:=sizeLine_eq;cases x with
 |str y=>
   obtain⟨t,rfl⟩:=rx;obtain⟨hy,e'⟩:y.length<=sizeLine/\n=y.length:=e;subst e';exact len_str (by lia) ⟨.int _,H,I.tok _,⟨_,rfl⟩,q⟩
 |VM y=>
   obtain⟨t,rfl⟩:=rx;obtain⟨hy,e'⟩:y.size<=sizeLine/\n=y.size:=e;subst e';exact PySem.W.len_bytes (by lia) ⟨.int _,H,I.tok _,⟨_,rfl⟩,q⟩
 |ref p=>
   cases rx;have e':(∃xs,E2 X.K H p xs/\n=xs.length)\/∃xs,Ey X.K H p xs/\n=xs.length:=e;rcases e' with⟨xs,hx,e'⟩|⟨xs,hx,e'⟩
   .subst e';obtain⟨its,r',pl,hz⟩:=I.list hx;have hlen:=r'.length;exact Calls.call_len_list pl.isList (by simp only[size_toArray];lia) ⟨.int xs.length,H,I.tok _,⟨_,by simp only[size_toArray];rw[hlen]⟩,q⟩
   .subst e';obtain⟨its,r',pl,hz⟩:=I.tuple hx;have hlen:=r'.length;exact len_tuple pl (by simp only[size_toArray];lia) ⟨.int xs.length,H,I.tok _,⟨_,by simp only[size_toArray];rw[hlen]⟩,q⟩
 |_=>exact(show False from e).elim
end
structure M7(h:Heap)(x dx C:Addr)(mA:Str->Option Value):Prop where
 obj:h.get? x=some (instObj C dx)
 ns:h.Ns1 dx mA
 ne:dx≠x
variable{dx:Addr}{mA:Str->Option Value}
theorem NB(n:h.Ns1 dx mA):∃od,h.get? dx=some od/\∀name,lookIn name od=some (mA name):=by
 obtain⟨o,es,ep,ho,hd,hk,_,hm⟩:=n;refine⟨o,ho,λname=>?_⟩;have e:=hm name;unfold nsFind findBy at e;rw[<-Array.find?_toList]at e;unfold lookIn;rw[hd];dsimp only;split
 .rename_i y q;rw[q]at e;exact congrArg some e
 .rename_i q;rw[q]at e
  have a:es.toList.any (·.refKey)=false:=by
   rw[List.any_eq_false];intro y hy;obtain⟨z,t,hkey⟩:=hk y (Array.mem_toList_iff.mp hy);simp[DictEntry.refKey,hkey]
  have a':¬es.toList.any (·.refKey)=true:=by rw[a];exact Bool.false_ne_true
  rw[iN a'];exact congrArg some e
theorem M7.look{C:Addr}(I:M7 h x dx C mA):∃od,InstAt h x (instObj C dx) C (some od)/\∀name,lookIn name od=some (mA name):=
 let⟨od,ho,hl⟩:=NB I.ns
 ⟨od,⟨I.obj,rfl,rfl,ho⟩,hl⟩
section
variable{prog:Program}{w:World}{A:Around}{E:Value->Shared->Prop}{K:PySem.W.Frag}{x dx C f:Addr}{mA:Str->Option Value}{name:Str}{v:Value}
theorem get_map{expr:Bool}{Q:Value->Shared->Prop}(X:K.In s.heap)(I:M7 s.heap x dx C mA)(hg:plainGet K C name=true)(hh:hasDictIn K C=true)
 (ha:findIn K (.ref C) name=some none)(hv:mA name=some v)(hv':handedIn v=true)(h:Q v {s with toks:=s.toks+1}):
 wpAny (model prog w) A (getAttr (.ref x) name expr) Q E s:=by
 obtain⟨od,J,hl⟩:=I.look;exact PySem.W.get_value X J (plainGet_of hg).1 (PySem.W.findObj_own hh ha rfl (by rw[hl,hv])) hv' h
theorem Qa{pl:Sem Bool}{Q:Value×List Value->Shared->Prop}(X:K.In s.heap)(I:M7 s.heap x dx C mA)(hg:plainGet K C name=true)
 (hf:findIn K (.ref C) name=some (some (.ref f)))(ht:isFn K (.ref f)=true)(hv:mA name=none)(h:Q (.ref f,[.ref x]) s):
 wpAny (model prog w) A (getMethod (.ref x) name pl) Q E s:=by
 obtain⟨od,J,hl⟩:=I.look;exact PySem.W.method_fn X J (plainGet_of hg).1 (plainGet_of hg).2 hf (beq_iff_eq.mp ht) (by show(lookIn name od).map (·.isSome)=some false;rw[hl,hv];rfl) h
theorem S2{ns:List Str}{Q:Unit->Shared->Prop}(X:K.In s.heap)(I:M7 s.heap x dx C mA)
 (hs:findIn K (.ref C) "__setattr__"=some (some (.builtin "object.__setattr__")))(hp:plainOver K C=true)(ht:takerIn K C name=some none)(hh:hasDictIn K C=true)
 (hw:PySem.Within mA ns)(hsz:ns.length<=sizeLine)
 (h:∀h',M7 h' x dx C (λy=>if y=name then some v else mA y)->Heap.SameBut dx s.heap h'->Q () {s with heap:=h',toks:=s.toks+2}):
 wpAny (model prog w) A (setAttr (.ref x) name v) Q E s:=by
 obtain⟨od,J,hl⟩:=I.look;refine PySem.W.set_plain X J hs (PySem.W.osa_open (s:={s with toks:=s.toks+1}) (r:=none) X J hp ht λb=>?_);obtain⟨cd,hc,hd'⟩:=PySem.W.any_some hh;have hx:s.heap.get? x=some ⟨.ref C,some dx,.plain,#[]⟩:=I.obj;refine wB (wP (wB (wB (wpAny_loadPart hx (wB (Looks.here (s:={s with toks:=s.toks+1}) (PySem.W.looks_clsIn X hc) ?_))))));rw[hd'];refine wP (a:=some dx) (wB (wP (wB ?_)));refine wpAny_nsSet1 (s:={s with toks:=s.toks+1}) I.ns λh' hn2 hs2=>?_
 obtain⟨oD,esD,epD,hoD,hdD,hcD⟩:=hn2.count (PySem.Within.cons name v hw);refine wB (wpAny_lookBehind hoD (by rw[hdD];exact pastItsLine_dict (Nat.le_trans hcD (by rw[lC];lia))) ?_);exact wP (h _ ⟨(hs2.2 _ (Ne.symm I.ne)).trans I.obj,hn2,I.ne⟩ hs2)
theorem PB{R:Result->Shared->Prop}{vs:List Value}{kw:List (Str×Value)}(X:K.In s.heap)(hm:makesIn K C=true)
 (hi:findIn K (.ref C) "__init__"=some (some (.ref f)))(hf:typeIn K (.ref f)=some (.type "function"))
 (h:codeAny (model prog w) (A.under (.builtin "type.__call__" ⟨.ref C::vs,kw⟩)) (.call (.ref f) ⟨.ref (s.heap.objs.size + 1)::vs,kw⟩) (PySem.W.InitBack (s.heap.objs.size + 1) R)
   {s with heap:=(s.heap.push emptyDict).push (instObj C s.heap.objs.size)}):
 codeAny (model prog w) A (.call (.ref C) ⟨vs,kw⟩) R s:=by
 obtain⟨hh,g,d,t,os⟩:=s;exact PySem.W.make_core (PySem.W.makes_of X hm) (PySem.W.looks_findIn X hi) (λself=>PySem.W.bind_fn X self hf) (.inl rfl) h
end
noncomputable def Bf(f:Str)(v:V):List (Str×V)->List (Str×V)
 |[]=>[(f,v)]
 |(g,x)::r=>if g=f then(g,v)::r else(g,x)::Bf f v r
theorem FW(f g:Str)(v:V):∀fs:List (Str×V),(Bf f v fs).lookup g=if g=f then some v else fs.lookup g
 | []=>by
   show List.lookup g [(f,v)]=_
   by_cases h:g=f
   .have hb:(g == f)=true:=beq_iff_eq.mpr h;simp only[List.lookup,hb,iP h]
   .have hb:(g == f)=false:=beq_eq_false_iff_ne.mpr h;simp only[List.lookup,hb,iN h]
 | (k, x)::r=>by
   have ih:=FW f g v r;rw[show Bf f v ((k,x)::r)=(if k=f then(k,v)::r else(k,x)::Bf f v r)from rfl]
   by_cases hk:k=f
   .rw[iP hk]
    by_cases h:g=k
    .have hb:(g == k)=true:=beq_iff_eq.mpr h;simp only[List.lookup,hb,iP (h.trans hk)]
    .have hb:(g == k)=false:=beq_eq_false_iff_ne.mpr h;simp only[List.lookup,hb,iN (λe:g=f=>h (e.trans hk.symm))]
   .rw[iN hk]
    by_cases h:g=k
    .have hb:(g == k)=true:=beq_iff_eq.mpr h;simp only[List.lookup,hb,iN (λe:g=f=>hk (h.symm.trans e))]
    .have hb:(g == k)=false:=beq_eq_false_iff_ne.mpr h;simp only[List.lookup,hb];exact ih
theorem FE(f:Str)(v:V):∀fs:List (Str×V),f∈(Bf f v fs).map (·.1)/\∀g,g∈fs.map (·.1)->g∈(Bf f v fs).map (·.1)
 |[]=>⟨by simp[Bf],λg h=>by simp at h⟩
 | (k, x)::r=>by
   obtain⟨i1,i2⟩:=FE f v r;rw[show Bf f v ((k,x)::r)=(if k=f then(k,v)::r else(k,x)::Bf f v r)from rfl]
   by_cases hk:k=f
   .rw[iP hk];subst hk;exact⟨by simp,λg h=>by simpa using h⟩
   .rw[iN hk];refine⟨?_,λg h=>?_⟩
    .rw[map_cons];exact mC i1
    .rw[map_cons]at h ⊢;rcases mK h with e|e
     .exact mem_cons.mpr (.inl e)
     .exact mC (i2 g e)
theorem FX(f:Str)(v:V):∀fs:List (Str×V),(Bf f v fs).length<=fs.length + 1
 |[]=>by simp[Bf]
 | (k,x)::r=>by
   have ih:=FX f v r;rw[show Bf f v ((k,x)::r)=(if k=f then(k,v)::r else(k,x)::Bf f v r)from rfl]
   by_cases hk:k=f
   .rw[iP hk,lC,lC];lia
   .rw[iN hk,lC,lC];lia
theorem HP.some_of{o:Option Value}(r:HP (some v) o):∃u,o=some u/\RelV v u:=by
 cases o with
 |none=>exact(show False from r).elim
 |some u=>exact⟨u,rfl,r⟩
theorem HP.none_of{o:Option Value}(r:HP none o):o=none:=by
 cases o with
 |none=>rfl
 |some u=>exact(show False from r).elim
theorem NL(r:RelV v u):handedIn u=true:=by
 cases v with
 |Az=>cases (show u=Value.none from r);rfl
 |bl b=>cases (show u=Value.bool b from r);rfl
 |int i=>obtain⟨t,e⟩:=(show ∃t,u=Value.int i t from r);cases e;rfl
 |str x=>obtain⟨t,e⟩:=(show ∃t,u=Value.str x t from r);cases e;rfl
 |VM b=>obtain⟨t,e⟩:=(show ∃t,u=Value.bytes b t from r);cases e;rfl
 |dP b=>obtain⟨t,e⟩:=(show ∃t,u=Value.float b t from r);cases e;rfl
 |ref a=>cases (show u=Value.ref a from r);rfl
 |ty n=>cases (show u=Value.type n from r);rfl
section
variable{P:Program}{w:World}{h:Heap}{a C dx:Addr}{fs fs':List (Str×V)}
theorem Jr(Ak:Ee P w H h)(e:H a=some (.ins C dx fs)):∃mA,M7 h a dx C mA/\(∀f,HP (fs.lookup f) (mA f))/\PySem.Within mA (fs.map (·.1))/\fs.length<=1000/\H dx=some (.own a):=by
 obtain⟨d,z,ne,ob,mA,n,r,q⟩:=(show BM P w H h a (.ins C dx fs)from Ak a _ e);exact⟨mA,⟨ob,n,ne⟩,r,q,z,d⟩
end
structure JT(K:PySem.W.Frag)(C:Addr):Prop where
 pg:plainGet K C Str.empty=true
 hd:hasDictIn K C=true
 po:plainOver K C=true
 sa:findIn K (.ref C) "__setattr__"=some (some (.builtin "object.__setattr__"))
theorem JT.get{K:PySem.W.Frag}{C:Addr}(c:JT K C)(f:Str):plainGet K C f=true:=c.pg
def By(K:PySem.W.Frag)(C:Addr)(f:Str):Prop:=findIn K (.ref C) f=some none
theorem By.ZC{K:PySem.W.Frag}{C:Addr}(n:By K C f):takerIn K C f=some none:=by
 unfold takerIn;rw[show findIn K (.ref C) f=some none from n];rfl
structure Meth(K:PySem.W.Frag)(C:Addr)(m:Str)(f:Addr):Prop where
 at_:findIn K (.ref C) m=some (some (.ref f))
 fn:isFn K (.ref f)=true
 kp:keepIn K (.ref f)=true
section
variable{σ:St}{a C dx:Addr}{fs:List (Str×V)}{f:Str}{v:V}{A:Around}{E:Value->Shared->Prop}
theorem LU{b:Bool}{Q:Value->Shared->Prop}(I:Inv X pins σ H s)(e:H a=some (.ins C dx fs))(c:JT X.K C)(n:By X.K C f)(l:fs.lookup f=some v)
 (h:∀u s',Inv X pins σ H s'->RelV v u->Q u s'):wpAny (model X.prog X.w) A (getAttr (.ref a) f b) Q E s:=by
 obtain⟨mA,O,r,_,_,_⟩:=Jr I.Ak e;obtain⟨u,hu,ru⟩:=HP.some_of (v:=v) (o:=mA f) (by rw[<-l];exact r f);exact get_map I.Bm O (c.get f) c.hd n hu (NL ru) (h u _ (I.tok _) ru)
theorem De{pl:Sem Bool}{Q:Value×List Value->Shared->Prop}(I:Inv X pins σ H s)(e:H a=some (.ins C dx fs))(c:JT X.K C)(k:Meth X.K C m g)(l:fs.lookup m=none)
 (h:Q (.ref g,[.ref a]) s):wpAny (model X.prog X.w) A (getMethod (.ref a) m pl) Q E s:=by
 obtain⟨mA,O,r,_,_,_⟩:=Jr I.Ak e;have hn:mA m=none:=HP.none_of (by rw[<-l];exact r m);exact Qa I.Bm O (c.get m) k.at_ k.fn hn h
theorem Ln{Q:Unit->Shared->Prop}(I:Inv X pins σ H s)(e:H a=some (.ins C dx fs))(c:JT X.K C)(n:By X.K C f)(hl:fs.length < 1000)(ry:RelV y u)
 (h:∀s',Inv X pins σ (upd H a (.ins C dx (Bf f y fs))) s'->Q () s'):wpAny (model X.prog X.w) A (setAttr (.ref a) f u) Q E s:=by
 obtain⟨mA,O,r,wi,_,ho⟩:=Jr I.Ak e;have hz:(fs.map (·.1)).length<=sizeLine:=by rw[lM,sizeLine_eq];lia
 refine S2 I.Bm O c.sa c.po n.ZC c.hd wi hz λh' O' sb=>h _ ?_
 have hd:∃o,h'.get? dx=some o:=let⟨o,_,_,e',_⟩:=O'.ns;⟨o,e'⟩;refine I.write (x:=a) (e:=dx) (by rw[e];exact True.intro) (.inr ho) (λb q hb z=>(sb.2 b hb).trans z) hd ?_;refine⟨by rw[Ab O.ne];exact ho,?_,O.ne,O'.obj,_,O'.ns,λg=>?_,λg hg=>?_⟩
 .have:=FX f y fs;lia
 .show HP ((Bf f y fs).lookup g) (if g=f then some u else mA g);rw[FW]
  by_cases q:g=f
  .rw[iP q,iP q];exact ry
  .rw[iN q,iN q];exact r g
 .by_cases q:g=f
  .rw[q];exact(FE f y fs).1
  .refine(FE f y fs).2 g (wi g λz=>hg ?_);show(if g=f then some u else mA g)=none;rw[iN q];exact z
theorem Inv.made(I:Inv X pins σ H s):Inv X pins σ (upd (upd H s.heap.objs.size (.own (s.heap.objs.size + 1))) (s.heap.objs.size + 1) (.ins C s.heap.objs.size []))
 {s with heap:=(s.heap.push emptyDict).push (instObj C s.heap.objs.size)}:=by
 have e1:(s.heap.push emptyDict).get? s.heap.objs.size=some emptyDict:=Heap.get?_push_size s.heap rfl
 have e2:((s.heap.push emptyDict).push (instObj C s.heap.objs.size)).get? (s.heap.objs.size + 1)=some (instObj C s.heap.objs.size):=by
  have:=Heap.get?_push_size (s.heap.push emptyDict) (o:=instObj C s.heap.objs.size) rfl;rwa[Heap.size_push]at this
 have e3:(s.heap.push emptyDict).Ns s.heap.objs.size (λ_=>none):=⟨emptyDict,#[],_,e1,rfl,(λe he=>absurd he (by simp)),λ_=>rfl⟩;have I1:=I.laid (a:=s.heap.objs.size) (o:=.own (s.heap.objs.size+1)) (h':=s.heap.push emptyDict) (t':=s.toks) (λb u q=>gP q) (lR) ⟨_,e1⟩;refine I1.laid (a:=s.heap.objs.size+1) (o:=.ins C s.heap.objs.size []) (t':=s.toks) (λb u q=>gP q) (Nat.le_of_eq (Heap.size_push _ _)) ?_;have ne:s.heap.objs.size≠s.heap.objs.size+1:=Nat.ne_of_lt (Nat.lt_succ_self _);refine⟨by rw[Ab ne,Ar],Nat.zero_le _,ne,e2,λ_=>none,(Heap.Ns1.of_empty e3).at λo q=>gP q,λ_=>True.intro,λy hy=>absurd rfl hy⟩
theorem Uo{prog:Program}{w:World}{env:Env}{pos:Pos}{s:Shared}{Q:Value->Shared->Prop}(hb:attributeBase e f env (eval e env)=eval e env)
 (h:wpAny (model prog w) A (eval e env) (λo s₁=>wpAny (model prog w) A (getAttr o f true) Q E s₁) E s):wpAny (model prog w) A (eval (.Attribute e f pos) env) Q E s:=
 Attribute_any_ h (by rw[arm_eval_Attribute,hb])
end
noncomputable def W5(K:PySem.W.Frag)(ta:TE)(f:Str):TE:=λσ H Q=>ta σ H λx H1=>∃a C dx fs v,x= .ref a/\H1 a=some (.ins C dx fs)/\JT K C/\By K C f/\fs.lookup f=some v/\Q v H1
noncomputable def fF(K:PySem.W.Frag)(ta tv:TE)(f:Str):TS:=λD σ H=>tv σ H λy H1=>ta σ H1 λx H2=>∃a C dx fs,x= .ref a/\H2 a=some (.ins C dx fs)/\JT K C/\By K C f/\fs.length < 1000/\
 D.nx σ (upd H2 a (.ins C dx (Bf f y fs)))
section
variable{o e value:Expr}{f:Str}{pos pos' tpos:Pos}{ta tv:TE}
theorem P9(he:PE X e ta)(hb:attributeBase e f X.env (eval e X.env)=eval e X.env):PE X (.Attribute e f pos) (W5 X.K ta f):=by
 intro pins s σ H Q I h;refine Uo hb (B4 (he pins s σ H _ I h) λu s1 ⟨x,H1,I1,rx,a,C,dx,fs,v,ex,ea,c,n,l,q⟩=>?_);subst ex;obtain rfl:u=Value.ref a:=rx;exact LU I1 ea c n l λu' s2 I2 ru=>⟨v,H1,I2,ru,q⟩
theorem WO(ha:PE X o ta)(hv:PE X value tv)(hs:swapsWith value (some (.Attribute o f pos')) pos.line X.env=pure false):PS X (.Assign [.Attribute o f pos'] value pos) (fF X.K ta tv f):=by
 intro pins s σ H D I h;refine plainObj_wpAny_Assign_Attribute (B4 (hv pins s σ H _ I h) λu s1 ⟨y,H1,I1,ry,q⟩=>B4 (ha pins s1 σ H1 _ I1 q) λov s2 ⟨x,H2,I2,rx,a,C,dx,fs,ex,ea,c,n,l,q2⟩=>?_) hs;subst ex;obtain rfl:ov=Value.ref a:=rx;exact Ln I2 ea c n l ry λs3 I3=>⟨σ,_,I3,q2⟩
theorem Vo{pl:Sem Bool}{apos:Pos}{args:List Expr}{pins:List (Addr×Obj)}{s:Shared}{σ:St}{H:Hp}{Q:Value->Shared->Prop}{te:TE}(he:PE X e te)(I:Inv X pins σ H s)
 (h:te σ H λx H1=>∃a C dx fs g,x= .ref a/\H1 a=some (.ins C dx fs)/\JT X.K C/\Meth X.K C m g/\fs.lookup m=none/\
   ∀s1,Inv X pins σ H1 s1->wpAny (model X.prog X.w) X.A (callWith pos (.ref g) [.ref a] (backTo pos (starEach args X.env)) (backToKw pos (keywordEach [] X.env))) Q X.xe s1)
 (ht:eval (.Call (.Attribute e m apos) args [] pos) X.env=(do
  let ov <-eval e X.env
  standAt apos.atName
  let(f,first) <-holding [ov] (getMethod ov m pl)
  callWith pos f first (backTo pos (starEach args X.env)) (backToKw pos (keywordEach [] X.env)))):
 wpAny (model X.prog X.w) X.A (eval (.Call (.Attribute e m apos) args [] pos) X.env) Q X.xe s:=by
 refine methodCall_KW (pl:=pl) (B4 (he pins s σ H _ I h) λu s1 ⟨x,H1,I1,rx,a,C,dx,fs,g,ex,ea,c,k,l,q⟩=>?_) ht;subst ex;obtain rfl:u=Value.ref a:=rx;exact De I1 ea c k l (q s1 I1)
end
structure Bk(k:Nat)(A:Around):Prop where
 hd:A.handled=none
 dp:A.depth+3*k+5 < recursionLimit
 un:A.units+16*k+200 < cLine
theorem Bk.mono{k:Nat}(r:Bk k A)(h:j<=k):Bk j A:=⟨r.hd,by have:=r.dp;lia,by have:=r.un;lia⟩
theorem Bk.deeper{k:Nat}(r:Bk (k + 1) A)(env:Env):Bk k (A.deeper env):=
 ⟨r.hd,by have:=r.dp;show A.depth+1+3*k+5 < _;lia,by have:=r.un;show A.units+3+16*k+200 < _;lia⟩
variable{kw:List (Str×Value)}
theorem LB{C:Addr}:(A.under (.builtin "type.__call__" ⟨.ref C::us,kw⟩)).depth=A.depth + 1:=by
 first|rfl|simp[Around.under,Code.weight,Code.isCreation,Code.isGuard,Code.isCaller,Code.frames,Code.isFrame,guardIds]
theorem LA{C:Addr}:(A.under (.builtin "type.__call__" ⟨.ref C::us,kw⟩)).units=A.units + 1:=by
 first|rfl|simp[Around.under,Code.cUnits,Code.frames,Code.isFrame]
theorem Bk.make{k:Nat}(r:Bk (k + 1) A)(C:Addr)(us:List Value)(kw:List (Str×Value)):Bk k (A.under (.builtin "type.__call__" ⟨.ref C::us,kw⟩)):=
 ⟨r.hd,by have:=r.dp;rw[LB];lia,by have:=r.un;rw[LA];lia⟩
theorem Bk.depth{k:Nat}(r:Bk k A):A.depth < recursionLimit:=by have:=r.dp;lia
def Dn:TA:=λ_ H Q=>Q [] H
def Bd(ta:TE)(tr:TA):TA:=λσ H Q=>ta σ H λx H1=>tr σ H1 λxs H2=>Q (x::xs) H2
section
variable{e:Expr}{es:List Expr}{te:TE}{t:TA}{pos:Pos}
theorem El:PA X [] Dn:=λ_ _ _ _ H Q I h=>Calls.spliced_nil ⟨[],H,I,.nil,h⟩
theorem Ce(ha:PE X e te)(hr:PA X es t)(hs:starEach (e::es) X.env=(false,eval e X.env)::starEach es X.env:=by rfl):PA X (e::es) (Bd te t):=by
 intro pos pins s σ H Q I h;rw[hs];show wpAny _ _ (spliced ((false,eval e X.env)::backTo pos (starEach es X.env))) _ _ s;refine Calls.spliced_cons (B4 (ha pins s σ H _ I h) λu s1 ⟨x,H1,I1,r1,q1⟩=>?_);exact B4 (hr pos pins s1 σ H1 _ I1 q1) λus s2 ⟨xs,H2,I2,r2,q2⟩=>⟨x::xs,H2,I2,.cons r1 r2,q2⟩
noncomputable def fe(t:TA):TE:=λσ H Q=>t σ H λxs H1=>xs.length<=sizeLine/\∀p,H1 p=none->Q (.ref p) (upd H1 p (.tup xs))
noncomputable def fg(t:TA):TE:=λσ H Q=>t σ H λxs H1=>xs.length<=sizeLine/\∀p,H1 p=none->Q (.ref p) (upd H1 p (.lst xs))
theorem WU{x1}(h:PA X es t):PE X (.Tuple es x1 pos) (fe t):=by
 intro pins s σ H Q I hq;refine wpAny_Tuple_spliced (B4 (h pos pins s σ H _ I hq) λus s1 ⟨xs,H1,I1,r,z,q⟩=>⟨by rw[<-r.length];exact z,?_⟩);have hf:H1 s1.heap.objs.size=none:=I1.Ak.fresh (lR);refine⟨.ref s1.heap.objs.size,upd H1 s1.heap.objs.size (.tup xs),I1.laid (t':=s1.toks) (λb u e=>gP e) (lR) ?_,rfl,q _ hf⟩;exact⟨z,us,r,⟨_,Heap.get?_push_size _ rfl,rfl,_,rfl⟩⟩
theorem WY(h:PA X es t):PE X (.List es pos) (fg t):=by
 intro pins s σ H Q I hq;refine wpAny_List_spliced (B4 (h pos pins s σ H _ I hq) λus s1 ⟨xs,H1,I1,r,z,q⟩=>⟨by rw[<-r.length];exact z,?_⟩);have hf:H1 s1.heap.objs.size=none:=I1.Ak.fresh (lR);refine⟨.ref s1.heap.objs.size,upd H1 s1.heap.objs.size (.lst xs),I1.laid (t':=s1.toks) (λb u e=>gP e) (lR) ?_,rfl,q _ hf⟩;exact⟨z,us,0,r,Heap.get?_push_size _ rfl⟩
end
abbrev Sp:=List V->Hp->VK->XK->Prop
abbrev Z7:=List Env->Hp->Shared->XK->Value->Shared->Prop
structure FO(P:Program)(w:World)(K:PySem.W.Frag)(mg:Str->Option Value)(base:Heap)(A:Around)(outer:List Env)(s:Shared)(H:Hp):Prop where
 frames:A.frames=some outer
 mod:Mod K mg base
 bs:∀b o,base.get? b=some o->s.heap.get? b=some o/\H b=none
 RI:base.objs.size<=s.heap.objs.size
 Es:s.heap.FunFrames base outer
 VF:∀b∈Lb outer,H b=none
 Ak:Ee P w H s.heap
 bare:AllBare s.gens
def CE(outer:List Env)(P:Program)(w:World)(H:Hp)(s:Shared)(Q:VK)(u:Value)(s':Shared):Prop:=
 ∃v H',s'.os=s.os/\AllBare s'.gens/\Un (Lb outer) [] H H' s.heap s'.heap/\Ee P w H' s'.heap/\RelV v u/\Q v H'
def CR(CX:Z7)(outer:List Env)(P:Program)(w:World)(H:Hp)(s:Shared)(Q:VK)(E:XK)(r:Result)(s':Shared):Prop:=
 match r with
 |.ok (.ret u)=>CE outer P w H s Q u s'
 |.ok _=>False
 |.error e=>CX outer H s E e s'
structure D1(P:Program)(w:World)(K:PySem.W.Frag)(mg:Str->Option Value)(base:Heap)(CX:Z7)(k:Nat)(f:Addr)(fd:FuncData)(ps:List Str)(sp:Sp):Prop where
 len:∀vs H Q E,sp vs H Q E->vs.length=ps.length
 run:∀(A:Around) (outer:List Env) (s:Shared) (H:Hp) (args:Args) (us:List Value) (vs:List V) (Q:VK) (E:XK),Bk k A->FO P w K mg base A outer s H->BindsTo s fd args (ps.zip us)->Vals vs us->sp vs H Q E->
  codeAny (model P w) A (.call (.ref f) args) (CR CX outer P w H s Q E) s
variable{mg:Str->Option Value}{CX:Z7}{ps:List Str}{sp:Sp}
theorem D1.imp{P:Program}{K:PySem.W.Frag}{base:Heap}{k:Nat}{fd:FuncData}{sp':Sp}(F:D1 P w K mg base CX k f fd ps sp)
 (h:∀vs H Q E,sp' vs H Q E->sp vs H Q E):D1 P w K mg base CX k f fd ps sp':=
 ⟨λvs H Q E q=>F.len vs H Q E (h _ _ _ _ q),λA outer s H args us vs Q E hr he hb hv hs=>F.run A outer s H args us vs Q E hr he hb hv (h _ _ _ _ hs)⟩
theorem FO.make{P:Program}{K:PySem.W.Frag}{base:Heap}{outer:List Env}(e:FO P w K mg base A outer s H)(C:Addr)(us:List Value)(kw:List (Str×Value)):
 FO P w K mg base (A.under (.builtin "type.__call__" ⟨.ref C::us,kw⟩)) outer s H:=⟨by first|exact e.frames|(simpa[Around.under,Code.envs,Code.isFrame,pushEnvs]using e.frames),e.mod,e.bs,e.RI,e.Es,e.VF,e.Ak,e.bare⟩
section
variable{σ:St}{s':Shared}
theorem Inv.XZ(I:Inv X pins σ H s):FO X.prog X.w X.K X.mg X.base X.A X.stack s H:=
 ⟨I.ok.frames,I.ok.mod,I.bs,Nat.le_trans I.ok.RI I.sz,I.stack,I.IS,I.Ak,I.bare⟩
theorem Inv.after{Q:VK}(I:Inv X pins σ H s)(h:CE X.stack X.prog X.w H s Q u s'):EP X pins σ Q u s':=by
 obtain⟨v,H',os,bare,un,Ak,r,q⟩:=h;obtain⟨hh,g,d,t,os'⟩:=s';obtain rfl:os'=s.os:=os;exact⟨v,H',I.call (h':=hh) (g':=g) (d':=d) (t':=t) (ch:=[]) un Ak bare (λb z=>absurd z (by simp)),r,q⟩
end
def K0(sp:Sp)(dvs:List V)(E:XK)(t:TA):TE:=λσ H Q=>t σ H λvs H1=>sp (vs++dvs) H1 Q E
noncomputable def V7(C:Addr)(m:Str)(sp:Sp)(dvs:List V)(E:XK)(ta:TE)(t:TA):TE:=λσ H Q=>ta σ H λx H1=>∃a dx fs,x= .ref a/\H1 a=some (.ins C dx fs)/\fs.lookup m=none/\
 t σ H1 λvs H2=>sp (x::(vs++dvs)) H2 Q E
noncomputable def JZ(C:Addr)(sp:Sp)(dvs:List V)(E:XK)(t:TA):TE:=λσ H Q=>t σ H λvs H1=>∀x dx,H1 x=none->H1 dx=none->dx≠x->
 sp (.ref x::(vs++dvs)) (upd (upd H1 dx (.own x)) x (.ins C dx [])) (λv H2=>v= .Az/\Q (.ref x) H2) E
def Binds(K:PySem.W.Frag)(fd:FuncData)(ps:List Str)(ds:List Value):Prop:=
 ∀(s:Shared) (us:List Value),K.In s.heap->(us++ds).length=ps.length->BindsTo s fd ⟨us,[]⟩ (ps.zip (us++ds))
theorem Binds.all{K:PySem.W.Frag}{fd:FuncData}(h:∀us:List Value,us.length=ps.length->bindArgs fd ⟨us,[]⟩=pure (ps.zip us)):Binds K fd ps []:=λs us _ hl=>by
 rw[append_nil]at hl ⊢;exact .of_eq (h us hl)
def Passes(CX:Z7)(X:Cx)(E:XK):Prop:=∀(pins:List (Addr×Obj)) (σ:St) (H:Hp) (s:Shared) (e:Value) (s':Shared),Inv X pins σ H s->CX X.stack H s E e s'->X.xe e s'
section
variable{CX:Z7}{k:Nat}{f C:Addr}{fd:FuncData}{ps:List Str}{sp:Sp}{dvs:List V}{ds:List Value}{E:XK}{x m:Str}{p pos apos:Pos}{e o:Expr}{es:List Expr}{ta:TE}{t:TA}
variable{pins:List (Addr×Obj)}{H:Hp}{s:Shared}{us:List Value}{vs:List V}
theorem GS{σ:St}{Q:VK}(F:D1 X.prog X.w X.K X.mg X.base CX k f fd ps sp)(hr:Bk k X.A)(hb:Binds X.K fd ps ds)(hd:Vals dvs ds)(hx:Passes CX X E)
 (I:Inv X pins σ H s)(r:Vals vs us)(h:sp (vs++dvs) H Q E):wpAny (model X.prog X.w) X.A (call (.ref f) us) (EP X pins σ Q) X.xe s:=by
 have r2:Vals (vs++dvs) (us++ds):=r.append hd;have hl:(us++ds).length=ps.length:=by rw[<-r2.length];exact F.len _ _ _ _ h
 refine wpAny_call (codeAny_mono (F.run X.A X.stack s H ⟨us,[]⟩ (us++ds) (vs++dvs) Q E hr I.XZ (hb s us I.Bm hl) r2 h) λr s' hq=>?_);cases r with
 |error e=>exact hx pins σ H s e s' I hq
 |ok fl=>
   cases fl with
   |ret u=>exact I.after hq
   |next=>exact False.elim hq
   |brk=>exact False.elim hq
   |cont=>exact False.elim hq
theorem SG(F:D1 X.prog X.w X.K X.mg X.base CX k f fd ps sp)(hr:Bk k X.A)(hg:Gl X x)(hm:X.mg x=some (.ref f))(hk:keepIn X.K (.ref f)=true)(hb:Binds X.K fd ps ds)(hd:Vals dvs ds)(hx:Passes CX X E)
 (ha:PA X (e::es) t)(hdb:(x == ("__debug__":Str))=false:=by decide)(he:starEach (e::es) X.env=(false,eval e X.env)::starEach es X.env:=by rfl)(hpl:(backTo pos (starEach es X.env)).any (·.1)=false:=by rfl):
 PE X (.Call (.Name x p) (e::es) [] pos) (K0 sp dvs E t):=by
 intro pins s σ H Q I h;refine wpAny_Call_Name_kw (EY I hg hm ?_ hdb);refine callWith_K (h₀:=X.base) I.ok.mod.C6 hk (B4 (ha pos pins s σ H _ I h) λus s1 ⟨vs,H1,I1,r,q⟩=>⟨I1.Bm,?_⟩) he hpl;exact GS F hr hb hd hx I1 r q
theorem Pc(F:D1 X.prog X.w X.K X.mg X.base CX k f fd ps sp)(hr:Bk k X.A)(hg:Gl X x)(hm:X.mg x=some (.ref f))(hk:keepIn X.K (.ref f)=true)(hb:Binds X.K fd ps ds)(hd:Vals dvs ds)(hx:Passes CX X E)
 (hdb:(x == ("__debug__":Str))=false:=by decide):PE X (.Call (.Name x p) [] [] pos) (K0 sp dvs E Dn):=by
 intro pins s σ H Q I h;refine wpAny_Call_Name_kw (EY I hg hm ?_ hdb);exact callWith_K0 I.Bm hk (GS (us:=[]) F hr hb hd hx I .nil h)
variable{pl:Sem Bool}
theorem SD(he:PE X o ta)(c:JT X.K C)(hm:Meth X.K C m f)(F:D1 X.prog X.w X.K X.mg X.base CX k f fd ps sp)(hr:Bk k X.A)(hb:Binds X.K fd ps ds)(hd:Vals dvs ds)(hx:Passes CX X E)(ha:PA X (e::es) t)
 (hst:starEach (e::es) X.env=(false,eval e X.env)::starEach es X.env:=by rfl)(hpl:(backTo pos (starEach es X.env)).any (·.1)=false:=by rfl)
 (ht:eval (.Call (.Attribute o m apos) (e::es) [] pos) X.env=(do
  let ov <-eval o X.env
  standAt apos.atName
  let(f,first) <-holding [ov] (getMethod ov m pl)
  callWith pos f first (backTo pos (starEach (e::es) X.env)) (backToKw pos (keywordEach [] X.env))):=by rfl):
 PE X (.Call (.Attribute o m apos) (e::es) [] pos) (V7 C m sp dvs E ta t):=by
 intro pins s σ H Q I h;refine methodCall_KW (pl:=pl) (B4 (he pins s σ H _ I h) λu s1 ⟨x,H1,I1,rx,a,dx,fs,ex,ea,l,q⟩=>?_) ht;subst ex;obtain rfl:u=Value.ref a:=rx;refine De I1 ea c hm l ?_;refine callWith_K (first:=[.ref a]) (h₀:=X.base) I.ok.mod.C6 hm.kp (B4 (ha pos pins s1 σ H1 _ I1 q) λus s2 ⟨vs,H2,I2,r,q2⟩=>⟨I2.Bm,?_⟩) hst hpl;exact GS (us:=.ref a::us) (vs:=.ref a::vs) F hr hb hd hx I2 (.cons rfl r) q2
theorem P7(he:PE X o ta)(c:JT X.K C)(hm:Meth X.K C m f)(F:D1 X.prog X.w X.K X.mg X.base CX k f fd ps sp)(hr:Bk k X.A)(hb:Binds X.K fd ps ds)(hd:Vals dvs ds)(hx:Passes CX X E)
 (ht:eval (.Call (.Attribute o m apos) [] [] pos) X.env=(do
  let ov <-eval o X.env
  standAt apos.atName
  let(f,first) <-holding [ov] (getMethod ov m pl)
  callWith pos f first (backTo pos (starEach [] X.env)) (backToKw pos (keywordEach [] X.env))):=by rfl):
 PE X (.Call (.Attribute o m apos) [] [] pos) (V7 C m sp dvs E ta Dn):=by
 intro pins s σ H Q I h;refine methodCall_KW (pl:=pl) (B4 (he pins s σ H _ I h) λu s1 ⟨x,H1,I1,rx,a,dx,fs,ex,ea,l,q⟩=>?_) ht;subst ex;obtain rfl:u=Value.ref a:=rx;refine De I1 ea c hm l ?_;exact callWith_K0 (first:=[.ref a]) I1.Bm hm.kp (GS (us:=[.ref a]) (vs:=[.ref a]) F hr hb hd hx I1 (.cons rfl .nil) q)
structure Mk(K:PySem.W.Frag)(C f:Addr):Prop where
 makes:makesIn K C=true
 init:findIn K (.ref C) "__init__"=some (some (.ref f))
 fn:isFn K (.ref f)=true
 kp:keepIn K (.ref C)=true
theorem K9{σ:St}{Q:VK}(M:Mk X.K C f)(F:D1 X.prog X.w X.K X.mg X.base CX k f fd ps sp)(hr:Bk (k + 1) X.A)(hb:Binds X.K fd ps ds)(hd:Vals dvs ds)
 (hx:Passes CX X E)(I:Inv X pins σ H s)(r:Vals vs us)
 (h:∀x dx,H x=none->H dx=none->dx≠x->sp (.ref x::(vs++dvs)) (upd (upd H dx (.own x)) x (.ins C dx [])) (λv H2=>v= .Az/\Q (.ref x) H2) E):
 wpAny (model X.prog X.w) X.A (call (.ref C) us) (EP X pins σ Q) X.xe s:=by
 have hq:=h (s.heap.objs.size+1) s.heap.objs.size (I.Ak.fresh (Nat.le_succ _)) (I.Ak.fresh (lR)) (Nat.ne_of_lt (Nat.lt_succ_self _));have I2:=Inv.made (C:=C) I;have r2:Vals (V.ref (s.heap.objs.size+1)::(vs++dvs)) (Value.ref (s.heap.objs.size+1)::(us++ds)):=.cons rfl (r.append hd)
 have hl:(Value.ref (s.heap.objs.size + 1)::us++ds).length=ps.length:=by
  have e:=r2.length;rw[F.len _ _ _ _ hq]at e;exact e.symm
 refine wpAny_call (PB (f:=f) I.Bm M.makes M.init (beq_iff_eq.mp M.fn) (codeAny_mono (F.run _ X.stack _ _ ⟨Value.ref (s.heap.objs.size + 1)::us,[]⟩ (Value.ref (s.heap.objs.size + 1)::(us++ds)) _ _ E (hr.make C us [])
  (I2.XZ.make C us []) (hb _ (Value.ref (s.heap.objs.size+1)::us) I2.Bm hl) r2 hq) λr s' hq'=>?_))
 cases r with
 |error e=>exact hx pins σ _ _ e s' I2 hq'
 |ok fl=>
   cases fl with
   |ret u=>
     obtain⟨v,H',I3,rv,ev,q3⟩:=I2.after hq';subst ev;exact⟨rv,⟨V.ref (s.heap.objs.size+1),H',I3,rfl,q3⟩⟩
   |next=>exact False.elim hq'
   |brk=>exact False.elim hq'
   |cont=>exact False.elim hq'
theorem SE(M:Mk X.K C f)(F:D1 X.prog X.w X.K X.mg X.base CX k f fd ps sp)(hr:Bk (k + 1) X.A)(hg:Gl X x)(hm:X.mg x=some (.ref C))(hb:Binds X.K fd ps ds)(hd:Vals dvs ds)(hx:Passes CX X E)
 (ha:PA X (e::es) t)(hdb:(x == ("__debug__":Str))=false:=by decide)(he:starEach (e::es) X.env=(false,eval e X.env)::starEach es X.env:=by rfl)(hpl:(backTo pos (starEach es X.env)).any (·.1)=false:=by rfl):
 PE X (.Call (.Name x p) (e::es) [] pos) (JZ C sp dvs E t):=by
 intro pins s σ H Q I h;refine wpAny_Call_Name_kw (EY I hg hm ?_ hdb);refine callWith_K (h₀:=X.base) I.ok.mod.C6 M.kp (B4 (ha pos pins s σ H _ I h) λus s1 ⟨vs,H1,I1,r,q⟩=>⟨I1.Bm,?_⟩) he hpl;exact K9 M F hr hb hd hx I1 r q
theorem P8(M:Mk X.K C f)(F:D1 X.prog X.w X.K X.mg X.base CX k f fd ps sp)(hr:Bk (k + 1) X.A)(hg:Gl X x)(hm:X.mg x=some (.ref C))(hb:Binds X.K fd ps ds)(hd:Vals dvs ds)(hx:Passes CX X E)
 (hdb:(x == ("__debug__":Str))=false:=by decide):PE X (.Call (.Name x p) [] [] pos) (JZ C sp dvs E Dn):=by
 intro pins s σ H Q I h;refine wpAny_Call_Name_kw (EY I hg hm ?_ hdb);exact callWith_K0 I.Bm M.kp (K9 (us:=[]) M F hr hb hd hx I .nil h)
end
structure DW(N P:List Str)(sc:Scope):Prop where
 kind:sc.kind= .function
 co:sc.isCoroutine=false
 gen:sc.isGenerator=false
 nd:N.Nodup
 pre:N.take P.length=P
 par:∀x∈P,sc.names.lookup x=some .local\/sc.names.lookup x=some .cell
 Xh:∀y∈sc.names,y.2≠.free
theorem ID{kindOf:Str->Option NameKind}{x:Str}:∀{binds:List (Str×Value)} {m:Str->Option Value},(∀v,(x,v)∉binds)->bindL kindOf binds m x=m x
 |[],_,_=>rfl
 | (n,v)::r,m,h=>by
   unfold bindL;rw[ID λw hw=>h w (mC hw)];split
   .have:x≠n:=by rintro rfl;exact h v mS
    simp[this]
   .rfl
theorem IF{kindOf:Str->Option NameKind}{x:Str}:∀{binds:List (Str×Value)} {m:Str->Option Value},(∀v,(x,v)∉binds)->bindC kindOf binds m x=m x
 |[],_,_=>rfl
 | (n,v)::r,m,h=>by
   unfold bindC;rw[IF λw hw=>h w (mC hw)];split
   .rfl
   .have:x≠n:=by rintro rfl;exact h v mS
    simp[this]
theorem IE{kindOf:Str->Option NameKind}{x:Str}{v:Value}:∀{P:List Str} {vs:List Value} {i:Nat} {m:Str->Option Value},P.Nodup->P[i]? =some x->vs[i]? =some v->kindOf x=some .local->
 bindL kindOf (P.zip vs) m x=some v
 |[],_,_,_,_,h,_,_=>by simp at h
 |_::_,[],_,_,_,_,h,_=>by simp at h
 | p::P,w::vs,0,m,nd,h1,h2,hk=>by
   simp at h1 h2;subst h1;subst h2;show bindL kindOf ((p,w)::P.zip vs) m p=_;unfold bindL;rw[ID λv hv=>(nodup_cons.mp nd).1 (of_mem_zip hv).1,iP hk];simp
 | p::P,w::vs,i + 1,m,nd,h1,h2,hk=>by
   show bindL kindOf ((p,w)::P.zip vs) m x=_;unfold bindL;exact IE (i:=i) (nodup_cons.mp nd).2 (by simpa using h1) (by simpa using h2) hk
theorem IG{kindOf:Str->Option NameKind}{x:Str}{v:Value}:∀{P:List Str} {vs:List Value} {i:Nat} {m:Str->Option Value},P.Nodup->P[i]? =some x->vs[i]? =some v->kindOf x≠some .local->
 bindC kindOf (P.zip vs) m x=some v
 |[],_,_,_,_,h,_,_=>by simp at h
 |_::_,[],_,_,_,_,h,_=>by simp at h
 | p::P,w::vs,0,m,nd,h1,h2,hk=>by
   simp at h1 h2;subst h1;subst h2;show bindC kindOf ((p,w)::P.zip vs) m p=_;unfold bindC;rw[IF λv hv=>(nodup_cons.mp nd).1 (of_mem_zip hv).1,iN hk];simp
 | p::P,w::vs,i + 1,m,nd,h1,h2,hk=>by
   show bindC kindOf ((p,w)::P.zip vs) m x=_;unfold bindC;exact IG (i:=i) (nodup_cons.mp nd).2 (by simpa using h1) (by simpa using h2) hk
def start(N:List Str)(vs:List V):St:=vs.map some++List.replicate (N.length-vs.length) none
noncomputable def KL(CX:Z7)(P:Program)(w:World)(K:PySem.W.Frag)(mg:Str->Option Value)(base:Heap)(N:List Str)(qual:Str)(scope:Scope)(f:Addr)(cd:Value)(A:Around)(outer:List Env)(s:Shared)(H:Hp)(E:XK):Cx where
 prog:=P
 w:=w
 K:=K
 mg:=mg
 base:=base
 A:=A.deeper (envOfC qual scope s.heap.objs.size f cd)
 N:=N
 s₀:=s
 H₀:=H
 env:=envOfC qual scope s.heap.objs.size f cd
 outer:=outer
 stack:=envOfC qual scope s.heap.objs.size f cd::outer
 ex:=[]
 calm:=true
 fn:=λ_=>true
 pn:=[]
 xe:=λe s'=>wpAny (model P w) (A.deeper (envOfC qual scope s.heap.objs.size f cd)) (leaving (envOfC qual scope s.heap.objs.size f cd) e) (λ_ s''=>CX outer H s E e s'') (λe' s''=>CX outer H s E e' s'') s'
theorem KQ{sc:Scope}{n:Nat}(h:sc.names.lookup x=some .cell):∃c,(cellsFrom n sc.names []).lookup x=some c:=by
 have q:=cellsFrom_some sc.names n [] (.inl h);exact Option.isSome_iff_exists.mp q
variable{qual:Str}
theorem NJ{P:Program}{K:PySem.W.Frag}{base:Heap}{scope:Scope}{cd:Value}{outer:List Env}{s1:Shared}{E:XK}{vs:List V}
 (S:DW N ps scope)(hd:A.handled=none)(e0:FO P w K mg base A outer s H)(hl:vs.length=ps.length)(r:Vals vs us)
 (x:InCallC s s.heap.objs.size (bindL (envOfC qual scope s.heap.objs.size f cd).kindOf (ps.zip us) λ_=>none) (cellsFrom (s.heap.objs.size+1) scope.names []) (bindC (envOfC qual scope s.heap.objs.size f cd).kindOf (ps.zip us) λ_=>none) s1):
 Inv (KL CX P w K mg base N qual scope f cd A outer s H E) [] (start N vs) H s1:=by
 have hpl:ps.length<=N.length:=by have:=congrArg List.length S.pre;rw[length_take]at this;lia
 obtain⟨h1,tk,rfl,hk⟩:=x.done;have noA:∀b:Addr,b∉(KL CX P w K mg base N qual scope f cd A outer s H E).ex:=λb z=>absurd (show b∈([]:List Addr)from z) (by simp)
 refine⟨⟨e0.mod,S.kind,rfl,rfl,lR,λy z c h1 h2=>?_,λy hy=>?_,λy c _ h=>?_,λ_=>hd,Around.frames_deeper e0.frames,.inr ⟨rfl,rfl⟩,λb z=>absurd z (noA b),e0.bs,e0.RI,λb _ _=>noA b,λb z=>absurd z (noA b),e0.Es,e0.VF⟩,
  rfl,e0.bare,Un.kept hk,⟨_,x.toInCall.ns,λi y v h1 h2 h3=>?_⟩,λy c h=>⟨_,x.cell y c h⟩,e0.Ak.fresh (lR),λy c h=>?_,λp hp=>absurd (show p∈([]:List (Addr×Obj))from hp) (by simp),e0.Ak.kept hk,?_⟩
 .exact name_of_addr x.apart (PySem.mem_of_lookup h1) (PySem.mem_of_lookup h2)
 .have hy:scope.names.lookup y=some .cell\/scope.names.lookup y=some .free:=hy;rcases hy with hy|hy
  .exact KQ hy
  .exact absurd rfl (S.Xh _ (PySem.mem_of_lookup hy))
 .exact Nat.le_of_lt (x.above y c (PySem.mem_of_lookup h))
 .have hi:i < vs.length:=by
   unfold start at h2
   by_cases hi:i < vs.length
   .exact hi
   .rw[List.getElem?_append_right (by simpa using hi)]at h2;rw[List.getElem?_replicate]at h2;split at h2<;>cases h2
  have ha:vs[i]? =some v:=by
   unfold start at h2;rw[List.getElem?_append_left (by simpa using hi),List.getElem?_map]at h2;cases e:vs[i]? with
   |none=>rw[e]at h2;cases h2
   |some a=>rw[e]at h2;cases h2;rfl
  obtain⟨u,hu,rv⟩:=r.get ha
  have hp:ps[i]? =some y:=by
   rw[<-S.pre,List.getElem?_take_of_lt (by lia)];exact h1
  have ndP:ps.Nodup:=by rw[<-S.pre];exact S.nd.sublist (List.take_sublist _ _)
  refine⟨u,rv,?_⟩;rcases S.par y (List.mem_of_getElem? hp)with k|k
  .exact .inl ⟨k,IE ndP hp hu k⟩
  .obtain⟨c,e⟩:=KQ (n:=s.heap.objs.size+1) k;refine .inr ⟨.inl k,c,e,?_⟩;have q:=x.cell y c e;rw[IG ndP hp hu (by show scope.names.lookup y≠_;rw[k];decide)]at q;exact q
 .exact e0.Ak.fresh (Nat.le_of_lt (x.above y c (PySem.mem_of_lookup h)))
 .unfold start;show _=N.length;rw[lA,lM,List.length_replicate]
  lia
theorem bO{P:Program}{K:PySem.W.Frag}{base:Heap}{k:Nat}{name:Str}{params:Arguments}{body:List Stmt}{scope:Scope}{dV kV doc pm cdv ct oc:Value}{an od:Option Addr}
 {osl:Array (Option Value)}(lk:K.lookup f=some ⟨oc,od,.func (PySem.W.fnOf name qual params body scope dV kV doc pm an cdv ct),osl⟩)(hcd:codeIn K cdv qual=true)(S:DW N ps scope)
 (len:∀vs H Q E,sp vs H Q E->vs.length=ps.length)
 (hbody:∀(A:Around) (outer:List Env) (s:Shared) (H:Hp) (vs:List V) (Q:VK) (E:XK),Bk k (A.deeper (envOfC qual scope s.heap.objs.size f cdv))->sp vs H Q E->
  ∃t,Lc (KL CX P w K mg base N qual scope f cdv A outer s H E) body t/\t {nx:=λ_ H'=>Q .Az H',rt:=Q} (start N vs) H):
 D1 P w K mg base CX (k+1) f (PySem.W.fnOf name qual params body scope dV kV doc pm an cdv ct) ps sp:=by
 refine⟨len,λA outer s H args us vs Q E hr e0 hb r hsp=>?_⟩;have hl:=len _ _ _ _ hsp;have KX:K.In s.heap:=e0.mod.C6.keeps λb o e=>(e0.bs b o e).1
 have lim:s.heap.NoLimit:=e0.mod.nolimit.keeps λb o e=>(e0.bs b o e).1
 have hkind:∀y∈ps.zip us,scope.names.lookup y.1=some .local\/(scope.names.lookup y.1=some .cell/\((cellsFrom (s.heap.objs.size + 1) scope.names []).lookup y.1).isSome=true):=λ⟨n,v⟩ hy=>by
  rcases S.par n (of_mem_zip hy).1 with q|q
  .exact .inl q
  .exact .inr ⟨q,cellsFrom_some _ _ _ (.inl q)⟩
 refine codeAny_call_function hr.depth (KX _ _ lk) rfl S.co S.gen rfl (PySem.W.codeRec_of KX hcd) (hb _ _ _ _ ?_);refine wpAny_newFunctionEnv_cells S.kind hkind λenv he s1 x=>?_
 subst he;refine⟨lim.keeps x.toInCall.keep,codeAny_func ?_⟩;obtain⟨t,ht,hq⟩:=hbody A outer s H vs Q E (hr.deeper _) hsp;have I:Inv (KL CX P w K mg base N qual scope f cdv A outer s H E) [] (start N vs) H s1:=NJ S hr.hd e0 hl r x;refine wpAny_mono (ht [] s1 (start N vs) H _ I hq) (λfl s' hs=>?_) λe s' hs=>hs
 have fin:∀{σ':St} {H':Hp} {v:V} {u:Value},Inv (KL CX P w K mg base N qual scope f cdv A outer s H E) [] σ' H' s'->RelV v u->Q v H'->CE outer P w H s Q u s':=
  λ{σ' H' v u} J rv q=>⟨v,H',J.os,J.bare,J.base,J.Ak,rv,q⟩
 cases fl with
 |ret u=>
   obtain⟨v,σ',H',J,rv,q⟩:=hs;exact fin J rv q
 |next=>
   obtain⟨σ',H',J,q⟩:=hs;exact fin (v:=V.Az) (u:=Value.none) J rfl q
 |brk=>
   obtain⟨_,_,_,q⟩:=hs;exact False.elim q
 |cont=>
   obtain⟨_,_,_,q⟩:=hs;exact False.elim q
section
variable{x:Str}{p pos:Pos}{e:Expr}{es:List Expr}{t:TA}{id T:String}{r:List V->Hp->VK->Prop}
def dz(r:List V->Hp->VK->Prop)(t:TA):TE:=λσ H Q=>t σ H λvs H1=>r vs H1 Q
theorem GY(hc:B5 X (.builtin id) r)(hg:Gl X x)(hm:X.mg x=none)(hv:bootBuiltins x=some (.builtin id))(ha:PA X (e::es) t)(hn:x≠"__name__":=by decide)(hdb:(x == ("__debug__":Str))=false:=by decide)
 (he:starEach (e::es) X.env=(false,eval e X.env)::starEach es X.env:=by rfl)(hpl:(backTo pos (starEach es X.env)).any (·.1)=false:=by rfl):PE X (.Call (.Name x p) (e::es) [] pos) (dz r t):=by
 intro pins s σ H Q I h;refine wpAny_Call_Name_kw (Fx I hg hm hv ?_ hn hdb);exact PyProof.Rows.callWith_builtin1 (B4 (ha pos pins s σ H _ I h) λus s1 ⟨vs,H1,I1,r1,q1⟩=>hc pins s1 σ H1 vs us Q I1 r1 q1) he hpl
theorem I0(hc:B5 X (.type T) r)(hg:Gl X x)(hm:X.mg x=none)(hv:bootBuiltins x=some (.type T))(ha:PA X (e::es) t)(hn:x≠"__name__":=by decide)(hdb:(x == ("__debug__":Str))=false:=by decide)
 (he:starEach (e::es) X.env=(false,eval e X.env)::starEach es X.env:=by rfl)(hpl:(backTo pos (starEach es X.env)).any (·.1)=false:=by rfl):PE X (.Call (.Name x p) (e::es) [] pos) (dz r t):=by
 intro pins s σ H Q I h;refine wpAny_Call_Name_kw (Fx I hg hm hv ?_ hn hdb);exact PyProof.Rows.callWith_type1 (B4 (ha pos pins s σ H _ I h) λus s1 ⟨vs,H1,I1,r1,q1⟩=>hc pins s1 σ H1 vs us Q I1 r1 q1) he hpl
end
end L2
namespace HT
open PySem PyProof.Rows
variable{prog:Program}{w:World}{A:Around}{E:Value->Shared->Prop}{s:Shared}
theorem U9{vs ws:List Value}{Q:Value->Shared->Prop}(ht:IsTup s.heap t vs.toArray)(hb:IsTup s.heap b ws.toArray)(hv:vs≠[])
 (h1:ws=[]->Q (.ref t) s)(h2:ws≠[]->Q (.ref s.heap.objs.size) {s with heap:=s.heap.push {cls:=.type "tuple",data:=.seq (vs++ws).toArray}})
 (hsz:vs.length+ws.length<=sizeLine):wpAny (model prog w) A (binaryOp .Add (.ref t) (.ref b)) Q E s:=by
 obtain⟨⟨cls,dd,data,sl⟩,ho,hc,n,hd⟩:=id ht;obtain⟨⟨cls2,dd2,data2,sl2⟩,ho2,hc2,n2,hd2⟩:=id hb;simp only at hc hd hc2 hd2;subst hc hd hc2 hd2;have e:vs.toArray++ws.toArray=(vs++ws).toArray:=by simp
 by_cases hw:ws=[]
 .exact concat_meets ⟨_,ho,rfl⟩ ⟨_,ho2,rfl⟩ noFill_tuple_add seq_tuple_add PySem.F.slot_tuple_add PySem.F.entry_tuple_add (PySem.F.args_tuple_add_2 _ _)
   (tuple_addW1 t b vs.toArray ws.toArray n n2 dd dd2 sl sl2 (by simpa using hv) (by simp[hw])) ⟨ho,ho2,h1 hw⟩
 .refine concat_meets ⟨_,ho,rfl⟩ ⟨_,ho2,rfl⟩ noFill_tuple_add seq_tuple_add PySem.F.slot_tuple_add PySem.F.entry_tuple_add (PySem.F.args_tuple_add_2 _ _)
   (tuple_addW2 t b vs.toArray ws.toArray n n2 dd dd2 sl sl2 (by simpa using hv) (by simpa using hw) (by rw[size_toArray,size_toArray];exact hsz)) ⟨ho,ho2,?_⟩
  rw[e];exact h2 hw
noncomputable def Bu(n d:Nat):Option Int->Nat
 |none=>d
 |some v=>if v < 0 then(v+(n:Int)).toNat else min v.toNat n
theorem Wy(n d:Nat)(hd:d<=n)(o:Option Int):Bu n d o<=n:=by
 cases o with
 |none=>exact hd
 |some v=>
   show(if v < 0 then(v+(n:Int)).toNat else min v.toNat n)<=n
   by_cases hv:v < 0
   .rw[iP hv];lia
   .rw[iN hv];exact Nat.min_le_right _ _
theorem JE(v:Int)(n d:Nat):(if v < 0 then max (v + (n:Int)) 0 else min v (n:Int))=((Bu n d (some v):Nat):Int):=by
 show(if v < 0 then max (v+(n:Int)) 0 else min v (n:Int))=(((if v < 0 then(v+(n:Int)).toNat else min v.toNat n):Nat):Int)
 by_cases hv:v < 0
 .simp only[iP hv];lia
 .simp only[iN hv];lia
theorem M5(lo hi:Option Int)(n:Nat):Builtin.Slice.sliceAdjust lo hi 1 (n:Int)=(((Bu n 0 lo:Nat):Int),((Bu n n hi:Nat):Int)):=by
 have h1:¬((1:Int) < 0):=by lia
 unfold Builtin.Slice.sliceAdjust;simp only[h1,if_false];refine Prod.ext ?_ ?_
 .cases lo with
  |none=>rfl
  |some v=>exact JE v n 0
 .cases hi with
  |none=>rfl
  |some v=>exact JE v n n
theorem Lq(i j:Nat):Builtin.Slice.slicePlaces (i:Int) (j:Int) 1=j - i:=by
 unfold Builtin.Slice.slicePlaces;have h1:(1:Int) > 0:=by lia
 simp only[h1,if_true,Int.ediv_one];split<;>lia
theorem GN{o:Option Int}{Q:Option Int->Shared->Prop}(p:IsPart v o)(h:Q o s):wpAny (model prog w) A (Builtin.Slice.slicePartIndex v) Q E s:=by
 cases p with
 |none=>exact slicePart_none h
 |int i t=>exact slicePart_int h
variable{sl:Addr}{vl vu:Value}
theorem CP{lo hi:Option Int}{n:Nat}{Q:Int×Int×Nat->Shared->Prop}(hs:s.heap.IsSliceOf sl vl vu .none)(pl:IsPart vl lo)(pu:IsPart vu hi)
 (h:Q (((Bu n 0 lo:Nat):Int),1,Bu n n hi-Bu n 0 lo) s):wpAny (model prog w) A (Builtin.Slice.sliceApplied (.ref sl) (pure (n:Int))) Q E s:=by
 obtain⟨os,hos,hcs,hds⟩:=id hs;unfold Builtin.Slice.sliceApplied Builtin.Slice.sliceFields;refine wB (wB (wpAny_field hos hds (x:=vl) rfl (wB (wpAny_field hos hds (x:=vu) rfl (wB (wpAny_field hos hds (x:=.none) rfl (wP ?_)))))));refine wB (slicePart_none ?_);show wpAny _ _ (if((1:Int) == 0)=true then _ else _) _ _ s;rw[iN (by decide)];refine wB (GN pl (wB (GN pu (wB (wP ?_)))));show wpAny _ _ (match Builtin.Slice.sliceAdjust lo hi 1 (n:Int)with|(lo,hi)=>pure (lo,(1:Int),Builtin.Slice.slicePlaces lo hi 1)) _ _ s;rw[M5 lo hi n];show wpAny _ _ (pure (((Bu n 0 lo:Nat):Int),(1:Int),Builtin.Slice.slicePlaces ((Bu n 0 lo:Nat):Int) ((Bu n n hi:Nat):Int) 1)) _ _ s;rw[Lq];exact wP h
theorem P1(xs:Array Value)(i k:Nat):((List.range k).filterMap λ(m:Nat)=>xs[((i:Int) + (m:Int) * 1).toNat]?).toArray=((xs.toList.drop i).take k).toArray:=by
 have e:(λ(m:Nat)=>xs[((i:Int) + (m:Int) * 1).toNat]?)=λm=>xs[i + m]? :=by
  funext m
  have:((i:Int)+(m:Int)*1).toNat=i+m:=by lia
  rw[this]
 rw[e];have:=pick_run xs i k;rw[List.filterMap_map]at this;have e2:((λx=>xs[x]?) ∘ λx=>i+x)=λm=>xs[i+m]? :=rfl
 rw[e2]at this;rw[this]
theorem F8{items:Array Value}{lo hi:Option Int}{Q:Value->Shared->Prop}(ht:IsTup s.heap t items)(hs:s.heap.IsSliceOf sl vl vu .none)(pl:IsPart vl lo)(pu:IsPart vu hi)
 (hw:¬(Bu items.size 0 lo=0/\Bu items.size items.size hi=items.size))
 (h:Q (.ref s.heap.objs.size) {s with heap:=s.heap.push {cls:=.type "tuple",data:=.seq ((items.toList.drop (Bu items.size 0 lo)).take (Bu items.size items.size hi-Bu items.size 0 lo)).toArray}})
 (hsz:items.size<=sizeLine):wpAny (model prog w) A (getItem (.ref t) (.ref sl)) Q E s:=by
 have htake:sizeOk (.seq ((items.toList.drop (Bu items.size 0 lo)).take (Bu items.size items.size hi - Bu items.size 0 lo)).toArray):=by
  show((items.toList.drop (Bu items.size 0 lo)).take (Bu items.size items.size hi-Bu items.size 0 lo)).toArray.size<=sizeLine;rw[size_toArray,length_take,length_drop,Array.length_toList]
  lia
 have hj:Bu items.size items.size hi<=items.size:=Wy _ _ (lR) hi;obtain⟨os,hos,hcs,hds⟩:=id hs;have hTs:s.TypeIs (.ref sl) "slice":=⟨os,hos,hcs⟩;unfold getItem
 try with_reducible refine wpAny_holding ?_
 first|refine wB (wP ?_)|skip
 refine wB (wpAny_sequenceKey ht.typeIs (by decide) ?_)
 refine wB (wpAny_callSpecial?_slot (name:=Str.ofString "__getitem__") ht.typeIs PyProof.Rows.slot_tuple_getitem
  (wpAny_call_entry PyProof.Rows.slot_tuple_getitem ht.typeIs entry_tuple_getitem ?_ (args_tuple_getitem _ _)))
 show wpAny _ _ (Builtin.Tuple.tupleItemsOf (.ref t) >>= _) _ _ s;refine wB (tupleItemsOf_ ht ?_);refine wB (wpAny_typeOf hTs ?_);rw[iP (by decide)];refine wB (CP hs pl pu ?_)
 have hno:¬((((Bu items.size 0 lo:Nat):Int) == 0 && (1:Int) == 1 && (Bu items.size items.size hi - Bu items.size 0 lo) == items.size)=true):=by
  intro q;rw[bA,bA]at q;have q1:((Bu items.size 0 lo:Nat):Int)=0:=eq_of_beq q.1.1;have q2:Bu items.size items.size hi-Bu items.size 0 lo=items.size:=eq_of_beq q.2;exact hw ⟨by lia,by lia⟩
 show wpAny _ _ (if(((Bu items.size 0 lo:Nat):Int) == 0 && (1:Int) == 1 && (Bu items.size items.size hi-Bu items.size 0 lo) == items.size)=true then _ else _) _ _ s;rw[iN hno,P1]
 first
  |exact wB (m:=Builtin.Tuple.tupleExact _) (wpAny_newObj_type (wP ⟨_,rfl,wP h⟩) htake)
  |exact wB (m:=Builtin.Tuple.tupleExact _) (wpAny_newObj_type (wB (wP (wP ⟨_,rfl,wP h⟩))) htake)
  |exact wB (wB (m:=Builtin.Tuple.tupleExact _) (wpAny_newObj_type (wP (wP ⟨_,rfl,wP h⟩)) htake))
  |exact wB (wB (m:=Builtin.Tuple.tupleExact _) (wpAny_newObj_type (wP ⟨_,rfl,wP h⟩) htake))
end HT
namespace L2
open PySem PySem.Spec PyProof.Rows
section
variable{X:Cx}{e:Expr}{te:TE}{lo hi:Option Expr}{tl th:TO}{pos p2:Pos}
def Zn(X:Cx)(r:V->Option Int->Option Int->Hp->VK->Prop):Prop:=
 ∀ (pins:List (Addr×Obj)) (s:Shared) (σ:St) (H:Hp) (x:V) (v vl vu:Value) (lo hi:Option Int) (sl:Addr) (Q:VK),Inv X pins σ H s->RelV x v->s.heap.IsSliceOf sl vl vu .none->IsPart vl lo->IsPart vu hi->r x lo hi H Q->
   ∃T id,typeLookup (.type T) "__getitem__"=pure (some (.builtin id))/\s.TypeIs v T/\wpAny (model X.prog X.w) X.A (getItem v (.ref sl)) (EP X pins σ Q) X.xe s
noncomputable def KO(xs:List V)(lo hi:Option Int):List V:=(xs.drop (HT.Bu xs.length 0 lo)).take (HT.Bu xs.length xs.length hi-HT.Bu xs.length 0 lo)
theorem G6(xs:List V)(lo hi:Option Int):(KO xs lo hi).length<=xs.length:=by
 unfold KO;rw[length_take,length_drop]
 lia
def fH(K:PySem.W.Frag):V->Option Int->Option Int->Hp->VK->Prop:=λx lo hi H Q=>∃a xs,x= .ref a/\Ey K H a xs/\
 ¬(HT.Bu xs.length 0 lo=0/\HT.Bu xs.length xs.length hi=xs.length)/\∀p,H p=none->Q (.ref p) (upd H p (.tup (KO xs lo hi)))
theorem Wc:Zn X (fH X.K):=by
 intro pins s σ H x v vl vu lo hi sl Q I rx hs pl pu h;obtain⟨a,xs,rfl,hx,hw,q⟩:=h;cases rx;obtain⟨its,r,ht,hz⟩:=I.tuple hx;have hlen:its.toArray.size=xs.length:=by rw[size_toArray];exact r.length.symm
 refine⟨"tuple",_,PyProof.Rows.slot_tuple_getitem.lookup,ht.typeIs,?_⟩;refine HT.F8 ht hs pl pu (by rw[hlen];exact hw) ?_ (by rw[hlen];exact hz);rw[hlen];refine⟨.ref s.heap.objs.size,_,I.laid (t':=s.toks) (o:=.tup (KO xs lo hi)) (λb ob q=>gP q) (lR) ?_,rfl,q _ (I.Ak.fresh (lR))⟩;exact⟨Nat.le_trans (G6 xs lo hi) hz,_,(r.drop (HT.Bu xs.length 0 lo)).take (HT.Bu xs.length xs.length hi-HT.Bu xs.length 0 lo),IsTup.new _ _⟩
noncomputable def av(K:PySem.W.Frag):R2:=λx y H Q=>∃a b xs ys,x= .ref a/\y= .ref b/\Ey K H a xs/\Ey K H b ys/\xs≠[]/\xs.length + ys.length<=sizeLine/\
 (ys=[]->Q (.ref a) H)/\(ys≠[]->∀p,H p=none->Q (.ref p) (upd H p (.tup (xs++ys))))
theorem Vals.J3{xs:List V}{us:List Value}(r:Vals xs us):us=[]↔xs=[]:=by
 cases r with
 |nil=>simp
 |cons _ _=>simp
theorem SK:C4 X (binaryOp .Add) (av X.K):=by
 intro pins s σ H x y v u Q I rx ry h;obtain⟨a,b,xs,ys,rfl,rfl,ha,hb,hx,hz,q1,q2⟩:=h;cases rx;cases ry;obtain⟨its,r1,p1,_⟩:=I.tuple ha;obtain⟨its2,r2,p2,_⟩:=I.tuple hb;refine HT.U9 p1 p2 (λz=>hx (r1.J3.mp z)) (λz=>⟨.ref a,H,I,rfl,q1 (r2.J3.mp z)⟩) (λz=>?_) (by rw[<-r1.length,<-r2.length];exact hz);refine⟨.ref s.heap.objs.size,_,I.laid (t':=s.toks) (o:=.tup (xs++ys)) (λb ob q=>gP q) (lR) ?_,rfl,q2 (λw=>z (r2.J3.mpr w)) _ (I.Ak.fresh (lR))⟩;exact⟨by rw[lA];exact hz,_,r1.append r2,IsTup.new _ _⟩
end
noncomputable def JR(n:Nat)(i:Int):Option Nat:=if 0<=i then(if i < n then some i.toNat else none)else if -(n:Int)<=i then some (i+n).toNat else none
def VO{α:Type}(xs:List α)(i:Int):Option α:=(JR xs.length i).bind λj=>xs[j]?
variable{n:Nat}
theorem Tn{j:Nat}(h:JR n i=some j):seqIndex? i n=some j/\j < n/\-(n:Int)<=i/\i < n:=by
 unfold JR at h
 by_cases h0:0<=i
 .rw[iP h0]at h
  by_cases h1:i < n
  .rw[iP h1]at h;have e:i.toNat=j:=Option.some.inj h;exact⟨by rw[seqIndex_of h0 h1,e],by lia,by lia,h1⟩
  .rw[iN h1]at h;cases h
 .rw[iN h0]at h
  by_cases h1: -(n:Int)<=i
  .rw[iP h1]at h;have e:(i+n).toNat=j:=Option.some.inj h;exact⟨by rw[seqIndex_neg (by lia) h1,e],by lia,h1,by lia⟩
  .rw[iN h1]at h;cases h
variable{α:Type}
theorem JL{xs:List α}{v:α}(h:VO xs i=some v):∃j,seqIndex? i xs.length=some j/\xs[j]? =some v/\j < xs.length/\-(xs.length:Int)<=i/\i < xs.length:=by
 unfold VO at h;cases e:JR xs.length i with
 |none=>rw[e]at h;cases h
 |some j=>
   rw[e]at h;obtain⟨h1,h2,h3,h4⟩:=Tn e;exact⟨j,h1,h,h2,h3,h4⟩
def JN(b:Expr):Prop:=∀o i,subscripted b false o i=operate [o,i] (getItem o i)
def V2(X:Cx)(r:R2):Prop:=
 ∀ (value slice:Expr) (pins:List (Addr×Obj)) (s:Shared) (σ:St) (H:Hp) (x y:V) (v u:Value) (Q:VK),Inv X pins σ H s->RelV x v->RelV y u->r x y H Q->
   subscripted slice false v u=operate [v,u] (getItem v u)->wpAny (model X.prog X.w) X.A (subscriptTail value slice v u) (EP X pins σ Q) X.xe s
def NY(X:Cx)(id:String)(r:V->List V->Hp->VK->Prop):Prop:=
 ∀ (pins:List (Addr×Obj)) (s:Shared) (σ:St) (H:Hp) (x:V) (xs:List V) (v:Value) (us:List Value) (Q:VK),Inv X pins σ H s->RelV x v->Vals xs us->r x xs H Q->
   wpAny (model X.prog X.w) X.A (call (.builtin id) (v::us)) (EP X pins σ Q) X.xe s
section
variable{X:Cx}{a b:Expr}{ta tb:TE}{pos:Pos}
theorem NY.or{id:String}{r r':V->List V->Hp->VK->Prop}(h:NY X id r)(h':NY X id r'):NY X id (λx xs H Q=>r x xs H Q\/r' x xs H Q):=by
 intro pins s σ H x xs v us Q I rx rs q;rcases q with q|q
 .exact h pins s σ H x xs v us Q I rx rs q
 .exact h' pins s σ H x xs v us Q I rx rs q
theorem aJ{r:R2}(hr:V2 X r)(ha:PE X a ta)(hb:PE X b tb)(hs:JN b):PE X (.Subscript a b pos) (dy r ta tb):=by
 intro pins s σ H Q I h;exact Subscript_ (Yt ha hb I h λv u s2 x y H2 I2 rx ry q=>hr a b pins s2 σ H2 x y v u Q I2 rx ry q (hs _ _))
noncomputable def fN(K:PySem.W.Frag):R2:=λx y H Q=>∃p xs i v,x= .ref p/\y= .int i/\E2 K H p xs/\VO xs i=some v/\Q v H
noncomputable def fL(K:PySem.W.Frag):R2:=λx y H Q=>∃p xs i v,x= .ref p/\y= .int i/\Ey K H p xs/\VO xs i=some v/\Q v H
noncomputable def fM:R2:=λx y H Q=>∃z i c,x= .str z/\y= .int i/\z.length<=sizeLine/\VO z.cps.toList i=some c/\Q (.str ⟨#[c]⟩) H
theorem Tj:V2 X (fN X.K):=by
 intro value slice pins s σ H x y v u Q I rx ry h hs;obtain⟨p,xs,i,z,rfl,rfl,hq,he,q⟩:=h;cases rx;obtain⟨t,rfl⟩:=ry;obtain⟨its,r,pl,hz⟩:=I.list hq;obtain⟨j,h1,h2,h3,h4,h5⟩:=JL he;obtain⟨w,ew,rw'⟩:=r.get h2;have hl:=r.length;have hn:=Hf;have fin:EP X pins σ Q w s:=⟨z,H,I,rw',q⟩
 by_cases h0:0<=i
 .have hj:i.toNat=j:=by
   rw[seqIndex_of h0 h5]at h1;exact Option.some.inj h1
  exact item_listR pl.isList h0 (by lia) (by rw[hj];simpa using ew) fin hs
 .have hj:(i + (its.toArray.size:Int)).toNat=j:=by
   rw[seqIndex_neg (by lia) h4]at h1;rw[size_toArray,<-hl];exact Option.some.inj h1
  exact subscriptTail_builtinR (x:=w) pl.isList.typeIs slot_list_getitem.lookup
   (wpAny_getItem_list_neg (Q:=λr s'=>r=w/\EP X pins σ Q r s') pl.isList (by lia) (by rw[size_toArray]<;>lia) (by lia) (by rw[hj];simpa using ew) ⟨rfl,fin⟩) hs
theorem XA:V2 X (fL X.K):=by
 intro value slice pins s σ H x y v u Q I rx ry h hs;obtain⟨p,xs,i,z,rfl,rfl,hq,he,q⟩:=h;cases rx;obtain⟨t,rfl⟩:=ry;obtain⟨its,r,pl,hz⟩:=I.tuple hq;obtain⟨j,h1,h2,h3,h4,h5⟩:=JL he;obtain⟨w,ew,rw'⟩:=r.get h2;have hl:=r.length;have hn:=Hf;have fin:EP X pins σ Q w s:=⟨z,H,I,rw',q⟩
 exact subscriptTail_builtinR (x:=w) pl.typeIs slot_tuple_getitem.lookup
  (getItem_tuple (j:=j) (Q:=λr s'=>r=w/\EP X pins σ Q r s') pl (by lia) (by lia) (by rw[size_toArray,<-hl];exact h1) (by simpa using ew) ⟨rfl,fin⟩) hs
theorem XB:V2 X fM:=by
 intro value slice pins s σ H x y v u Q I rx ry h hs;obtain⟨z,i,c,rfl,rfl,hz,he,q⟩:=h;obtain⟨t,rfl⟩:=rx;obtain⟨t',rfl⟩:=ry;obtain⟨j,h1,h2,h3,h4,h5⟩:=JL he;have hl:z.cps.toList.length=z.length:=by simp[Str.length]
 rw[hl]at h1 h4 h5;have hn:=Hf
 exact tail_any (typeIs_str s z t) slot_str_getitem.lookup (getItem_str (c:=c) (by
  have e1:decide (i < -(2 ^ 63:Int))=false:=dF (by lia);have e2:decide (i≥2 ^ 63)=false:=dF (by lia)
  rw[e1,e2,Bool.or_false]) (by rw[h1];simpa using h2) ⟨.str ⟨#[c]⟩,H,I.tok _,⟨_,rfl⟩,q⟩) hs
theorem IT(lo hi:Option Int)(n:Nat):(sliceBounds lo hi none n).1=((HT.Bu n 0 lo:Nat):Int)/\(sliceBounds lo hi none n).2.1=((HT.Bu n n hi:Nat):Int)/\(sliceBounds lo hi none n).2.2=1:=by
 refine⟨?_,?_,rfl⟩
 .cases lo with
  |none=>simp[sliceBounds,HT.Bu]
  |some i=>
    simp only[sliceBounds,HT.Bu,Option.getD_none,show(1:Int) > 0 by decide,if_true]
    by_cases h:i < 0
    .simp only[h,if_true]<;>lia
    .simp only[h,if_false]<;>lia
 .cases hi with
  |none=>simp[sliceBounds,HT.Bu]
  |some i=>
    simp only[sliceBounds,HT.Bu,Option.getD_none,show(1:Int) > 0 by decide,if_true]
    by_cases h:i < 0
    .simp only[h,if_true]<;>lia
    .simp only[h,if_false]<;>lia
theorem HD(its:List Value)(lo hi:Option Int):slicePick its.toArray lo hi none=((its.drop (HT.Bu its.length 0 lo)).take (HT.Bu its.length its.length hi - HT.Bu its.length 0 lo)).toArray:=by
 obtain⟨h1,h2,h3⟩:=IT lo hi its.toArray.size;unfold slicePick;rw[h1,h2,h3];simp only[sliceRange_one,pick_run,size_toArray]<;>rfl
def fJ(K:PySem.W.Frag):V->Option Int->Option Int->Hp->VK->Prop:=λx lo hi H Q=>∃a xs,x= .ref a/\E2 K H a xs/\∀p,H p=none->Q (.ref p) (upd H p (.lst (KO xs lo hi)))
theorem RZ:Zn X (fJ X.K):=by
 intro pins s σ H x v vl vu lo hi sl Q I rx hs pl pu h;obtain⟨a,xs,rfl,hx,q⟩:=h;cases rx;obtain⟨its,r,ht,hz⟩:=I.list hx;have hlen:=r.length;refine⟨"list",_,slot_list_getitem.lookup,ht.isList.typeIs,?_⟩;refine wpAny_getItem_list_slice ht.isList hs pl pu .none (by simp) ?_ (by rw[size_toArray]<;>lia);rw[HD,<-hlen];refine⟨.ref s.heap.objs.size,_,I.laid (t':=s.toks) (o:=.lst (KO xs lo hi)) (λb ob q=>gP q) (lR) ?_,rfl,q _ (I.Ak.fresh (lR))⟩;exact⟨Nat.le_trans (G6 xs lo hi) hz,_,0,(r.drop (HT.Bu xs.length 0 lo)).take (HT.Bu xs.length xs.length hi-HT.Bu xs.length 0 lo),Heap.get?_push_size _ rfl⟩
theorem JG:B5 X (.type "list") (λxs H Q=>∃p ys,xs=[.ref p]/\(E2 X.K H p ys\/Ey X.K H p ys)/\∀l,H l=none->Q (.ref l) (upd H l (.lst ys))):=by
 intro pins s σ H xs us Q I r h;obtain⟨p,ys,rfl,hq,q⟩:=h;obtain⟨u,rfl,rx⟩:=vals1 r;cases rx
 have fin:∀(its:List Value),Vals ys its->ys.length<=sizeLine->∀(h':Heap) (c':Nat),(∀b o',s.heap.get? b=some o'->h'.get? b=some o')->
  h'.get? s.heap.objs.size=some {cls:=.type "list",dict:=none,data:=.seq its.toArray c',slots:=#[]}->EP X pins σ Q (.ref s.heap.objs.size) {s with heap:=h'}:=λits r' hz h' c' kp e=>
  ⟨.ref s.heap.objs.size,_,I.laid (t':=s.toks) kp (lR) (show BM X.prog X.w _ h' _ (.lst ys)from⟨hz,its,c',r',e⟩),rfl,q _ (I.Ak.fresh (lR))⟩
 rcases hq with hq|hq
 .obtain⟨its,r',pl,hz⟩:=I.list hq;have hlen:=r'.length;obtain⟨o,ho,hc,n,hd⟩:=pl.isList;exact call_list_seq p (.inl rfl) ho hc hd (λh' c' kp e=>fin its r' hz h' c' kp e) (by simp only[size_toArray]<;>lia)
 .obtain⟨its,r',pl,hz⟩:=I.tuple hq;have hlen:=r'.length;obtain⟨o,ho,hc,n,hd⟩:=pl;exact call_list_seq p (.inr rfl) ho hc hd (λh' c' kp e=>fin its r' hz h' c' kp e) (by simp only[size_toArray]<;>lia)
theorem Eb:B5 X (.type "tuple") (λxs H Q=>∃p ys,xs=[.ref p]/\((E2 X.K H p ys/\∀l,H l=none->Q (.ref l) (upd H l (.tup ys)))\/(Ey X.K H p ys/\Q (.ref p) H))):=by
 intro pins s σ H xs us Q I r h;obtain⟨p,ys,rfl,h⟩:=h;obtain⟨u,rfl,rx⟩:=vals1 r;cases rx;rcases h with⟨hq,q⟩|⟨hq,q⟩
 .obtain⟨its,r',pl,hz⟩:=I.list hq;have hlen:=r'.length;refine call_tuple_list pl.isList (λh' kp=>?_) (by simp only[size_toArray]<;>lia);have I1:Inv X pins σ H {s with heap:=h'}:=I.kept (t':=s.toks) kp
  have I2:Inv X pins σ (upd H h'.objs.size (.tup ys)) {s with heap:=h'.push {cls:=.type "tuple",data:=.seq its.toArray}}:=
   I1.laid (t':=s.toks) (λb o e=>gP e) (lR) (show BM X.prog X.w _ _ _ (.tup ys)from⟨hz,its,r',IsTup.new _ _⟩)
  exact⟨.ref h'.objs.size,_,I2,rfl,q _ (I1.Ak.fresh (lR))⟩
 .obtain⟨its,r',pl,hz⟩:=I.tuple hq;exact call_tuple_same pl ⟨.ref p,H,I,rfl,q⟩
def dt(K:PySem.W.Frag)(T:String)(x:V)(H:Hp):Prop:=match x with
 |.str _=>T="str"
 |.int _=>T="int"
 | .ref p=>(T="list"/\∃xs,E2 K H p xs)\/(T="tuple"/\∃o,K.lookup p=some o/\o.cls= .type "tuple"/\o.dict=none)\/
  (T="dict"/\((∃kvs,H p=some (.dK kvs))\/∃kvs,H p=some (.dT kvs)))\/(T="set"/\∃S n,H p=some (.set S n))
 |_=>False
theorem Of{pins:List (Addr×Obj)}{σ:St}{H:Hp}{s:Shared}{T:String}(I:Inv X pins σ H s)(r:RelV x v)(ty:dt X.K T x H):
 s.TypeIs v T/\∀a,v= .ref a->∃ob,s.heap.get? a=some ob/\ob.dict=none:=by
 cases x with
 |str z=>
   obtain⟨t,rfl⟩:=r;cases (show T="str" from ty);exact⟨typeIs_str s z t,λ_ e=>nomatch e⟩
 |int i=>
   obtain⟨t,rfl⟩:=r;cases (show T="int" from ty);exact⟨typeIs_int s i t,λ_ e=>nomatch e⟩
 |ref p =>
   cases r;rcases ty with⟨rfl,xs,hq⟩|⟨rfl,o,hk,hc,hd⟩|⟨rfl,hk⟩|⟨rfl,S,n,hk⟩
   .obtain⟨its,_,pl,_⟩:=I.list hq;refine⟨pl.isList.typeIs,λa e=>?_⟩;cases e;obtain⟨o,n,e,c,hd,_⟩:=pl;exact⟨o,e,hd⟩
   .refine⟨⟨o,I.Bm p o hk,hc⟩,λa e=>?_⟩;cases e;exact⟨o,I.Bm _ o hk,hd⟩
   .have z:∃o,s.heap.get? p=some o/\o.ExactDict:=by
     rcases hk with⟨kvs,hk⟩|⟨kvs,hk⟩
     .obtain⟨_,_,_,_,o,_,_,e,ex,_⟩:=I.Ak p _ hk;exact⟨o,e,ex⟩
     .obtain⟨_,_,_,_,o,_,_,e,ex,_⟩:=I.Ak p _ hk;exact⟨o,e,ex⟩
    obtain⟨o,e,ex⟩:=z;refine⟨⟨o,e,ex.1⟩,λa e2=>?_⟩;cases e2;exact⟨o,e,ex.2.1⟩
   .obtain⟨o,_,_,_,e,ex,_⟩:=I.Ak p _ hk;refine⟨⟨o,e,ex.1⟩,λa e2=>?_⟩;cases e2;exact⟨o,e,ex.2.1⟩
 |_=>exact False.elim ty
noncomputable def fh(K:PySem.W.Frag)(T:String)(r:V->List V->Hp->VK->Prop)(to:TE):TE:=λσ H Q=>to σ H λx H1=>dt K T x H1/\r x [] H1 Q
noncomputable def iH(K:PySem.W.Frag)(T:String)(r:V->List V->Hp->VK->Prop)(to:TE)(t:TA):TE:=λσ H Q=>to σ H λx H1=>dt K T x H1/\t σ H1 λxs H2=>r x xs H2 Q
variable{o e:Expr}{es:List Expr}{to:TE}{t:TA}{name:Str}{apos cpos:Pos}{T id:String}{r:V->List V->Hp->VK->Prop}
theorem X0(pa:PlainAttrs T)(slot:Slot T name id)(hty:typeOf (.builtin id)=pure (.type "method_descriptor"))(hm:NY X id r)(ho:PE X o to)
 (hbase:attributeBase o name X.env (eval o X.env)=eval o X.env:=by rfl)(hline:(apos.endLine == cpos.line)=true:=by rfl):PE X (.Call (.Attribute o name apos) [] [] cpos) (fh X.K T r to):=by
 intro pins s σ H Q I h;refine wpAny_Call_method0_late hbase hline (B4 (ho pins s σ H _ I h) λv s1 ⟨x,H1,I1,r1,ty,q1⟩=>?_);obtain⟨h1,h2⟩:=Of I1 r1 ty;exact⟨T,id,pa,slot,hty,h1,h2,Calls.callWith_builtin rfl (PySem.evalArgs_none (hm pins s1 σ H1 x [] v [] Q I1 r1 .nil q1))⟩
theorem Pd(pa:PlainAttrs T)(slot:Slot T name id)(hty:typeOf (.builtin id)=pure (.type "method_descriptor"))(hm:NY X id r)(ho:PE X o to)(ha:PA X (e::es) t)
 (hbase:attributeBase o name X.env (eval o X.env)=eval o X.env:=by rfl)
 (hfew:((backTo cpos (starEach (e::es) X.env)).all (λx=>!x.1) && (backToKw cpos (keywordEach [] X.env)).all (λx=>x.1.isSome)
  && decide ((e::es).length+([]:List Keyword).length+(if([]:List Keyword).isEmpty then 0 else 1) < 30))=true:=by rfl)
 (hline:(apos.endLine == cpos.line)=true:=by rfl)(hs:starEach (e::es) X.env=(false,eval e X.env)::starEach es X.env:=by rfl)(hplain:(backTo cpos (starEach es X.env)).any (·.1)=false:=by rfl):
 PE X (.Call (.Attribute o name apos) (e::es) [] cpos) (iH X.K T r to t):=by
 intro pins s σ H Q I h;refine wpAny_Call_method_late hbase hfew hline rfl (B4 (ho pins s σ H _ I h) λv s1 ⟨x,H1,I1,r1,ty,q1⟩=>?_);obtain⟨h1,h2⟩:=Of I1 r1 ty;refine⟨T,id,pa,slot,hty,h1,h2,?_⟩;have hA:=ha cpos pins s1 σ H1 _ I1 q1;rw[hs]at hA ⊢;refine Calls.callWith_builtin (by show(false || (backTo cpos (starEach es X.env)).any (·.1))=false;rw[hplain]<;>rfl) (Calls.evalArgs_plain ?_);exact B4 hA λus s2 ⟨vs,H2,I2,r2,q2⟩=>hm pins s2 σ H2 x vs v us Q I2 r1 r2 q2
end
def i3(X:Cx)(id:String)(r:V->List V->Hp->VK->Prop):Prop:=
 ∀ (pins:List (Addr×Obj)) (s:Shared) (σ:St) (H:Hp) (x:V) (xs:List V) (v:Value) (us:List Value) (Q:VK),Inv X pins σ H s->RelV x v->Vals xs us->r x xs H Q->
   wpAny (model X.prog X.w) X.A (call (.builtin id) (v::us)) (EP X pins σ Q) X.xe s
theorem Vals.one:∀{x:V} {us:List Value},Vals [x] us->∃u,us=[u]/\RelV x u
 |_,_,.cons r .nil=>⟨_,rfl,r⟩
theorem Vals.zero:∀{us:List Value},Vals [] us->us=[]
 |_,.nil=>rfl
variable{xs:List V}{us:List Value}
theorem Vals.dropLast(h:Vals xs us):Vals xs.dropLast us.dropLast:=by
 induction h with
 |nil=>exact .nil
 |cons r t ih=>
   cases t with
   |nil=>exact .nil
   |cons q t'=>exact .cons r ih
theorem Vals.rep(h:Vals xs us):∀k:Nat,Vals (List.replicate k xs).flatten (List.replicate k us).flatten
 |0=>.nil
 | k + 1=>by
   rw[replicate_succ,replicate_succ,flatten_cons,flatten_cons];exact Vals.append h (Vals.rep h k)
theorem LX(l:List α):l.eraseIdx (l.length - 1)=l.dropLast:=by
 induction l with
 |nil=>rfl
 |cons a r ih=>
   cases r with
   |nil=>rfl
   |cons b r=>
     have e:(a::b::r).length - 1=((b::r).length - 1) + 1:=by
      have h1:(a::b::r).length=r.length+2:=rfl;have h2:(b::r).length=r.length+1:=rfl
      lia
     rw[e,List.eraseIdx_cons_succ,ih]
     all_goals rfl
theorem foldl_rep(its:List Value):∀(k:Nat) (acc:List Value),
 List.foldl (λx1 x2=>x1++x2) acc.toArray (List.replicate k its.toArray)=(acc++(List.replicate k its).flatten).toArray
 |0,acc=>by simp
 | k + 1,acc=>by
   have e:acc.toArray++its.toArray=(acc++its).toArray:=by simp
   have e2:(acc++its)++(List.replicate k its).flatten=acc++(List.replicate (k + 1) its).flatten:=by
    rw[replicate_succ,flatten_cons,append_assoc]
   rw[<-e2,<-foldl_rep its k (acc++its),<-e,replicate_succ,foldl_cons]
variable{X:Cx}{pins:List (Addr×Obj)}{σ:St}{H:Hp}{s:Shared}{l b:Addr}{xs ys zs:List V}
variable{its:List Value}{t':Nat}
theorem Inv.T6{its':List Value}{f:Array Value->Array Value}(I:Inv X pins σ H s)(hH:H l=some (.lst xs))
 (e:s.heap.get? l=some {cls:=.type "list",data:=.seq its.toArray n})(hf:f its.toArray=its'.toArray)(hv:Vals ys its')(hz:ys.length<=sizeLine):
 Inv X pins σ (upd H l (.lst ys)) {s with heap:=s.heap.update l (Obj.mapSeq f),toks:=t'}:=by
 have q:=PySem.IsL.update e f;rw[hf]at q;refine I.write (x:=l) (e:=l) (by rw[hH];exact trivial) (.inl rfl) (λb' u hb hu=>(Heap.get?_update_other s.heap (Obj.mapSeq f) (Ne.symm hb)).trans hu) ⟨_,q⟩ ?_;exact⟨hz,its',_,hv,q⟩
theorem Inv.bo(I:Inv X pins σ H s)(hv:Vals ys its)(hz:ys.length<=sizeLine):
 Inv X pins σ (upd H s.heap.objs.size (.lst ys)) {s with heap:=s.heap.push {cls:=.type "list",data:=.seq its.toArray},toks:=t'}:=
 I.laid (λ_ _ q=>gP q) (lR) ⟨hz,its,0,hv,Heap.get?_push_size _ rfl⟩
theorem Inv.fresh(I:Inv X pins σ H s):H s.heap.objs.size=none:=I.Ak.fresh (lR)
theorem Inv.Km(I:Inv X pins σ H s)(hH:H l=some (.lst xs)):xs.length<=sizeLine/\∃(its:List Value) (n:Nat),Vals xs its/\xs.length=its.length/\s.heap.get? l=some {cls:=.type "list",data:=.seq its.toArray n}:=by
 obtain⟨z,its,n,r,e⟩:=I.Ak l _ hH;exact⟨z,its,n,r,r.length,e⟩
theorem Hc(h:n<=sizeLine):Builtin.List.listTooLong n=false:=by
 unfold Builtin.List.listTooLong;exact dF (by lia)
def Mn:V->List V->Hp->VK->Prop:=λx vs H Q=>∃l xs y,x= .ref l/\vs=[y]/\H l=some (.lst xs)/\xs.length < sizeLine/\Q .Az (upd H l (.lst (xs++[y])))
theorem Nx:i3 X "list.append" Mn:=by
 intro pins s σ H x vs v us Q I rx rv h;obtain⟨l,xs,y,rfl,rfl,hH,hz,q⟩:=h;cases rx;obtain⟨u,rfl,ru⟩:=rv.one;obtain⟨z,its,n,r,hl,e⟩:=I.Km hH;refine call_meets F.slot_list_append ⟨_,e,rfl⟩ F.entry_list_append (F.args_list_append_2 _ _) (PySem.list_append l its.toArray n u (by rw[size_toArray];lia)) ⟨e,?_⟩;refine⟨.Az,_,I.T6 (its':=its++[u]) hH e (by simp) (r.append (.cons ru .nil)) ?_,rfl,q⟩;rw[lA,lS]
 lia
def IX:V->List V->Hp->VK->Prop:=λx vs H Q=>∃l b xs zs,x= .ref l/\vs=[.ref b]/\H l=some (.lst xs)/\H b=some (.lst zs)/\xs.length+zs.length<=sizeLine/\Q .Az (upd H l (.lst (xs++zs)))
theorem Nw:i3 X "list.extend" IX:=by
 intro pins s σ H x vs v us Q I rx rv h;obtain⟨l,b,xs,zs,rfl,rfl,hH,hB,hz,q⟩:=h;cases rx;obtain⟨u,rfl,ru⟩:=rv.one;cases ru;obtain⟨z,its,n,r,hl,e⟩:=I.Km hH;obtain⟨z2,its2,n2,r2,hl2,e2⟩:=I.Km hB;have hsz:its.toArray.size+its2.toArray.size<=sizeLine:=by rw[size_toArray,size_toArray];lia
 have hlong:¬(!its.toArray.isEmpty && Builtin.List.listTooLong (its.toArray.size + its2.toArray.size))=true:=by
  rw[Hc hsz,Bool.and_false];exact Bool.false_ne_true
 refine call_meets F.slot_list_extend ⟨_,e,rfl⟩ F.entry_list_extend (F.args_list_extend_2 _ _)
  (AutoSeq1.list_extend_list_list_0 l its.toArray n b its2.toArray n2 hlong (by rw[size_toArray];lia) (by lia)) ⟨e,e2,?_⟩
 refine⟨.Az,_,I.T6 (its':=its++its2) hH e (by simp) (r.append r2) ?_,rfl,q⟩;rw[lA]
 lia
def ar:V->List V->Hp->VK->Prop:=λx vs H Q=>∃l xs y,x= .ref l/\vs=[]/\H l=some (.lst xs)/\xs[xs.length-1]? =some y/\Q y (upd H l (.lst xs.dropLast))
theorem Xl:i3 X "list.pop" ar:=by
 intro pins s σ H x vs v us Q I rx rv h;obtain⟨l,xs,y,rfl,rfl,hH,hy,q⟩:=h;cases rx;have hus:=rv.zero;subst hus;obtain⟨z,its,n,r,hl,e⟩:=I.Km hH;obtain⟨u,hu,ru⟩:=r.get hy
 have hy':its.toArray[its.toArray.size - 1]? =some u:=by
  show its.toArray[its.length-1]? =some u;rw[<-Array.getElem?_toList,<-hl];exact hu
 refine call_meets F.slot_list_pop ⟨_,e,rfl⟩ F.entry_list_pop (F.args_list_pop_1 _) (MeetsSeq.list_pop_last l its.toArray n u hy' (by rw[size_toArray];lia)) ⟨e,?_⟩;refine⟨y,_,I.T6 (its':=its.dropLast) hH e ?_ r.dropLast ?_,ru,q⟩
 .show its.toArray.eraseIdxIfInBounds (its.toArray.size-1)=its.dropLast.toArray;rw[size_toArray,List.eraseIdxIfInBounds_toArray,LX]
 .rw[List.length_dropLast]
  lia
noncomputable def fO:R2:=λx y H Q=>∃l b xs zs,x= .ref l/\y= .ref b/\H l=some (.lst xs)/\H b=some (.lst zs)/\xs.length+zs.length<=sizeLine/\∀p,H p=none->Q (.ref p) (upd H p (.lst (xs++zs)))
theorem Xb:C4 X (binaryOp .Add) fO:=by
 intro pins s σ H x y v u Q I rx ry h;obtain⟨l,b,xs,zs,rfl,rfl,hH,hB,hz,q⟩:=h;cases rx;cases ry;obtain⟨z,its,n,r,hl,e⟩:=I.Km hH;obtain⟨z2,its2,n2,r2,hl2,e2⟩:=I.Km hB;refine PySem.P.add_list e e2 ?_ (by rw[size_toArray,size_toArray];lia);have ea:its.toArray++its2.toArray=(its++its2).toArray:=by simp
 rw[ea];exact⟨.ref _,_,I.bo (t':=s.toks) (r.append r2) (by rw[lA];lia),rfl,q _ I.fresh⟩
noncomputable def fK:R2:=λx y H Q=>∃l k xs,x= .ref l/\y= .int k/\H l=some (.lst xs)/\-(2 ^ 63)<=k/\k < 2 ^ 63/\xs.length * k.toNat<=sizeLine/\
 ∀p,H p=none->Q (.ref p) (upd H p (.lst (List.replicate k.toNat xs).flatten))
theorem len_rep(xs:List α)(k:Nat):(List.replicate k xs).flatten.length=k * xs.length:=by
 induction k with
 |zero=>simp
 |succ k ih=>rw[replicate_succ,flatten_cons,lA,ih,Nat.succ_mul,Nat.add_comm]
theorem X7:C4 X (binaryOp .Mult) fK:=by
 intro pins s σ H x y v u Q I rx ry h;obtain⟨l,k,xs,rfl,rfl,hH,h1,h2,hz,q⟩:=h;cases rx;obtain⟨t,rfl⟩:=ry;obtain⟨z,its,n,r,hl,e⟩:=I.Km hH;have hlen:its.toArray.size*k.toNat<=sizeLine:=by rw[size_toArray,<-hl];exact hz
 have hcap:¬its.toArray.size * k.toNat > (2 ^ 63 - 1) / 8:=by
  have:(sizeLine:Nat)<=(2 ^ 63-1)/8:=by decide
  lia
 have hfit:¬(!Builtin.List.listFitsIndex k)=true:=by
  rw[fitsIndex_both h1 h2];exact Bool.false_ne_true
 have hlong:¬Builtin.List.listTooLong (its.toArray.size * k.toNat)=true:=by
  rw[Hc hlen];exact Bool.false_ne_true
 have hnew:List.foldl (λx1 x2=>x1++x2) #[] (List.replicate (if its.toArray.isEmpty=true then 0 else k.toNat) its.toArray)=(List.replicate k.toNat its).flatten.toArray:=by
  have f0:∀m:Nat,List.foldl (λx1 x2=>x1++x2) #[] (List.replicate m its.toArray)=(List.replicate m its).flatten.toArray:=λm=>by
   have:=foldl_rep its m [];rw[nil_append]at this;exact this
  rw[f0];cases its with
  |nil=>simp
  |cons a r'=>rw[iN (by simp)]
 refine wpAny_binaryOp_repeat_ref (T:="list") (U:="int") (by decide) ⟨_,e,rfl⟩ (λs'=>typeIs_int s' k t) noFill_list_mul F.fills_int_mul F.slot_int_rmul repeat_list F.slot_int_index.lookup
  (call_meets F.slot_int_rmul (typeIs_int s k t) F.entry_int_rmul (F.args_int_rmul_2 _ _) (int___rmul___int_list k t l its.toArray n)
   ⟨e,rfl,⟨_,e,rfl⟩,call_meets F.slot_list_mul ⟨_,e,rfl⟩ F.entry_list_mul (F.args_list_mul_2 _ _) (AutoListH.list___mul___list_int_3 l its.toArray n k t hfit hcap hlong) ⟨e,?_⟩⟩)
 rw[hnew];exact⟨.ref _,_,I.bo (t':=s.toks) (r.rep k.toNat) (by rw[len_rep,Nat.mul_comm];exact hz),rfl,q _ I.fresh⟩
variable{prog:Program}{w:World}{A:Around}{E:Value->Shared->Prop}
variable{a:Addr}{y v:V}{u r:Value}{o:Option V}
variable{kvs:List (Key×V)}{k:Key}
structure M1(X:Cx)(o:Expr)(m:Str)(apos:Pos)(e:Expr)(cpos:Pos):Prop where
 base:attributeBase o m X.env (eval o X.env)=eval o X.env
 bR:((backTo cpos (starEach [e] X.env)).all (λx=>!x.1) && (backToKw cpos (keywordEach [] X.env)).all (λx=>x.1.isSome)
  && decide (([e]:List Expr).length+([]:List Keyword).length+(if([]:List Keyword).isEmpty then 0 else 1) < 30))=true
 line:(apos.endLine == cpos.line)=true
 trees:backTo cpos (starEach [e] X.env)=[(false,eval e X.env)]
structure M2(X:Cx)(o:Expr)(m:Str)(apos:Pos)(e f:Expr)(cpos:Pos):Prop where
 base:attributeBase o m X.env (eval o X.env)=eval o X.env
 bR:((backTo cpos (starEach [e,f] X.env)).all (λx=>!x.1) && (backToKw cpos (keywordEach [] X.env)).all (λx=>x.1.isSome)
  && decide (([e,f]:List Expr).length+([]:List Keyword).length+(if([]:List Keyword).isEmpty then 0 else 1) < 30))=true
 line:(apos.endLine == cpos.line)=true
 trees:backTo cpos (starEach [e,f] X.env)=[(false,eval e X.env),(false,eval f X.env)]
variable{d:V}
end L2
namespace Att
open PySem PySem.W PySem.Calls PyProof.Rows
variable{h:Heap}
theorem Ge{P:Params}:∀(ns:List Int) (vs:List Value),WellAll P h vs (ns.map WData.int)->IntsAre vs ns:=by
 intro ns
 induction ns with
 |nil=>
   intro vs w;rw[map_nil]at w;cases w;exact .nil
 |cons n ns ih=>
   intro vs w;rw[map_cons]at w;cases w with
   |cons a b=>
     cases a;exact .cons _ _ (ih _ b)
variable{n:Nat}
theorem Ng{l:OpenLaw}(hn:l.most=some n){P:Params}{args:List WData}{vals:List Value}
 (hpre:l.row.toRowW.claim.pre args=true)(hwl:WellAll P h vals args):
 ∃a vs ns,vals=[Value.ref a]/\args=[WData.list (ns.map WData.int)]/\h.get? a=some {cls:=.type "list",data:=.seq vs.toArray}/\IntsAre vs ns/\ns.length<=n:=by
 have hsh:WShape.hasAll [] args [.list .int]=true:=(pre_splitW hpre).1;have hc:l.pre.holds [] {args:=args}=true:=(pre_splitW hpre).2;obtain⟨d,r,rfl,h1,h2⟩:=hasAllW_cons hsh;obtain rfl:=hasAllW_nil h2;obtain⟨xs,rfl,h3⟩:=hasW_list h1;obtain⟨ns,rfl⟩:=items_int h3
 have hlen:ns.length<=n:=by
  unfold OpenLaw.pre at hc
  have h4:(WTm.not (.lt (.lit (.int (n:Int))) (.len (.arg 0)))).holds [] {args:=[.list (ns.map .int)]}=true:=by
   have h4:=(holds_andW hc).1;rw[hn]at h4;exact h4
  have h5:=condW_of h4 (w_not (w_lt w_lit (w_len_list (w_arg rfl))));rw[lM]at h5;refine Nat.le_of_not_lt λq=>?_
  have q':(n:Int) < ((ns.length:Nat):Int):=by lia
  first
   |(rw[decide_eq_true q']at h5;exact absurd h5 (by decide))
   |(simp at h5;lia)
 cases hwl with
 |cons w1 w2=>
   cases w2;cases w1 with
   |list ho hall=>exact⟨_,_,ns,rfl,rfl,ho,Ge ns _ hall,hlen⟩
theorem Nl(l:OpenLaw)(args:List WData):l.row.toRowW.claim.post args (.bool true) args=true:=
 postW_of (r:=l.row.toRowW) (X:=(true == true))
  (show WShape.has [] (.bool true) .bool=true by first|rfl|decide|simp[WShape.has,WShape.arms,WShape.armsAll])
  (show(WTm.eq .res (.lit (.bool true))).value [] {args:=args,res:=some (.bool true),after:=args}=some (.bool (true == true))from w_eq_bool (w_res rfl) w_lit) rfl
theorem KY{l:OpenLaw}{q:Program}{loose:List Str}{XP:(Str->Option Value)->Heap->Prop}{YP:World->Heap->Prop}{d:DefRec}
 (hn:l.most=some n)(hdf:d.params.defaults=[])
 (call:∀(w:World) (s₀ s₁:Shared) (mg mb:Str->Option Value) (fa:Addr) (o:Obj) (pm cd doc:Value) (a:Addr) (vs:List Value) (ns:List Int),
  Ground q loose [] XP w s₀ mg mb s₁.heap->YP w s₁.heap->
  s₁.heap.get? fa=some o->o.data= .func (docDef d.name d.params d.body d.scope pm cd doc)->s₁.heap.CodeRec cd d.name->mg d.name=some (.ref fa)->
  s₁.heap.get? a=some {cls:=.type "list",data:=.seq vs.toArray}->IntsAre vs ns->ns.length<=n->s₁.gens= #[]->
  codeAny (model l.prog w) callerA (.call (.ref fa) ⟨[.ref a],[]⟩) (λr s'=>r= .ok (.ret (.bool true))/\OldK s₁.heap s'.heap/\s'.os=s₁.os/\AllBare s'.gens) s₁):
 WalkO q loose XP YP l.row.toRowW d [] (λf vs=>PySem.call f vs):=by
 intro w s₀ s₁ mg mb G Y fa o pm cd doc dV kV ho hd hcd hD hmg hg args vals as hpre hlay hrd hwl hlo;obtain rfl:dV= .none:=Dflts.none hD hdf;obtain rfl:kV= .none:=Dflts.noKw hD;obtain⟨a,vs,ns,rfl,rfl,hobj,hints,hlen⟩:=Ng hn hpre hwl;refine enter_call (codeAny_mono (call w s₀ s₁ mg mb fa o pm cd doc a vs ns G Y ho (fd_plain hd) hcd hmg hobj hints hlen hg) λr s' hq=>?_);obtain⟨rfl,h2,h3,h4⟩:=hq;exact⟨.inl ⟨.bool true,.bool true,[],rfl,λ_=>rfl,.bool true,Nl l _,λ_=>⟨List.Pairwise.nil,λ_ hm=>(nomatch hm)⟩⟩,h2,h3,h4⟩
variable{prog:Program}{w:World}{A:Around}{E:Value->Shared->Prop}{s:Shared}{K:Frag}
end Att
namespace L2
open PySem PySem.Spec PyProof.Rows
theorem HQ:∀{vs:List Value} {ns:List Int},IntsAre vs ns->Vals (ns.map V.int) vs
 |_,_,.nil=>.nil
 |_,_,.cons n t h=>.cons ⟨t,rfl⟩ (HQ h)
noncomputable def inClass(s:Stmt)(j:Nat):Stmt:=match s with
 |.ClassDef _ _ _ body _ _ _ _ _ _ _=>body.getD j (.Pass ⟨0,0,0,0⟩)
 |_=>.Pass ⟨0,0,0,0⟩
noncomputable def Jy(s:Stmt):Arguments:=match s with
 |.FunctionDef _ a _ _ _ _ _ _ _ _=>a
 |_=>{posonlyargs:=[],args:=[],vararg:=none,kwonlyargs:=[],kw_defaults:=[],kwarg:=none,defaults:=[]}
def Df(s:Stmt):List Stmt:=match s with
 |.FunctionDef _ _ b _ _ _ _ _ _ _=>b
 |_=>[]
noncomputable def B2(s:Stmt):Scope:=match s with
 |.FunctionDef _ _ _ _ _ _ sc _ _ _=>sc
 |_=>{kind:=.function,names:=[],isGenerator:=false,isCoroutine:=false}
abbrev MY:Z7:=λ_ _ _ _ _ _=>False
abbrev E0:XK:=λ_ _ _=>False
theorem GZ{X:Cx}:Passes MY X E0:=λ_ _ _ _ _ _ _ h=>h.elim
structure BJ(K:PySem.W.Frag)(x qual:Str)(st:Stmt)(f:Addr)(fd:FuncData):Prop where
 ex:∃(oc:Value) (od:Option Addr) (kV doc pm:Value) (an:Option Addr) (cdv ct:Value) (osl:Array (Option Value)),
   fd=PySem.W.fnOf x qual (Jy st) (Df st) (B2 st) .none kV doc pm an cdv ct/\K.lookup f=some ⟨oc,od,.func fd,osl⟩/\codeIn K cdv qual=true
 kp:keepIn K (.ref f)=true
section
variable{P:Program}{w:World}{K:PySem.W.Frag}{mg:Str->Option Value}{base:Heap}
theorem BJ.binds{qual:Str}{st:Stmt}{fd:FuncData}{ps:List Str}(F:BJ K x qual st f fd)
 (h:∀(kV doc pm:Value) (an:Option Addr) (cdv ct:Value) (us:List Value),us.length=ps.length->bindArgs (PySem.W.fnOf x qual (Jy st) (Df st) (B2 st) .none kV doc pm an cdv ct) ⟨us,[]⟩=pure (ps.zip us)):Binds K fd ps []:=by
 obtain⟨oc,od,kV,doc,pm,an,cdv,ct,osl,rfl,lk,hcd⟩:=F.ex;exact .all (h kV doc pm an cdv ct)
end
variable{X:Cx}
theorem Tq{A B:Prop}(h:B):if false=true then A else B:=by
 rw[iN Bool.false_ne_true];exact h
theorem Tp{A B:Prop}(h:A):if true=true then A else B:=by
 rw[iP rfl];exact h
def BI(H H':Hp):Prop:=∀b o,H b=some o->H' b=some o
theorem BI.refl(H:Hp):BI H H:=λ_ _ h=>h
variable{H:Hp}
theorem BI.trans{H1 H2:Hp}(a:BI H H1)(b:BI H1 H2):BI H H2:=λc o h=>b c o (a c o h)
theorem BI.free{H':Hp}(e:BI H H')(h:H' l=Option.none):H l=Option.none:=by
 cases q:H l with
 |none=>rfl
 |some o=>
   rw[e l o q]at h;cases h
noncomputable def G7(cells:List (Str×Addr)):List (Str×NameKind)->List (Str×Addr)->List (Str×Addr)
 |[],cs=>cs
 |(n,k)::r,cs=>if(k == NameKind.free)=true then G7 cells r ((n,(cells.lookup n).getD 0)::cs)else G7 cells r cs
variable{env:Env}
theorem MP:∀(l:List (Str×NameKind)) (cs:List (Str×Addr)),(∀x∈l,x.2= .free->∃c,env.cells.lookup x.1=some c)->
 (forIn l cs (λ(x:Str×NameKind) (r:List (Str×Addr))=>(match x with|(name,kind)=>if(kind == NameKind.free)=true then(do let a <-cellOf env name;pure (ForInStep.yield ((name,a)::r)))else pure (ForInStep.yield r):Sem _)))=(pure (G7 env.cells l cs):Sem _)
 |[],cs,_=>by simp[G7]
 | (n, k)::r,cs,h=>by
   have ih:=λcs'=>MP r cs' λx hx=>h x (mC hx)
   rw[List.forIn_cons]
   by_cases hk:k= .free
   .subst hk;obtain⟨c,e⟩:=h (n,.free) mS rfl
    have hb:(if(NameKind.free == NameKind.free)=true then(do let a <-cellOf env n;pure (ForInStep.yield ((n,a)::cs)))else pure (ForInStep.yield cs):Sem (ForInStep (List (Str×Addr))))=pure (ForInStep.yield ((n,c)::cs)):=by
     have e:env.cells.lookup n=some c:=e;rw[iP (by rfl)];unfold cellOf;rw[e];exact pure_bind _ _
    show((if(NameKind.free == NameKind.free)=true then(do let a <-cellOf env n;pure (ForInStep.yield ((n,a)::cs)))else pure (ForInStep.yield cs):Sem (ForInStep (List (Str×Addr)))) >>= _)=_;rw[hb,pure_bind];refine(ih _).trans ?_;have e:env.cells.lookup n=some c:=e;show _=pure (if(NameKind.free == NameKind.free)=true then G7 env.cells r ((n,(env.cells.lookup n).getD 0)::cs)else G7 env.cells r cs);rw[iP (by rfl),e];rfl
   .have hb:(k == NameKind.free)=false:=by simpa using hk
    show((if(k == NameKind.free)=true then(do let a <-cellOf env n;pure (ForInStep.yield ((n,a)::cs)))else pure (ForInStep.yield cs):Sem (ForInStep (List (Str×Addr)))) >>= _)=_;rw[iN (by rw[hb];decide),pure_bind];refine(ih _).trans ?_;show _=pure (if(k == NameKind.free)=true then G7 env.cells r ((n,(env.cells.lookup n).getD 0)::cs)else G7 env.cells r cs);rw[iN (by rw[hb];decide)]
theorem Cp{scope:Scope}(h:∀x∈scope.names,x.2= .free->∃c,env.cells.lookup x.1=some c):closureFor scope env=pure (G7 env.cells scope.names []):=by
 unfold closureFor;have:=MP (env:=env) scope.names [] h
 first
  |(simp only[bind_pure];exact this)
  |(rw[show(forIn scope.names ([]:List (Str×Addr)) _:Sem _)=_ from this];rfl)
theorem Fe{cells:List (Str×Addr)}{c:Addr}:∀(l:List (Str×NameKind)) (cs:List (Str×Addr)),(∀y∈l,y.2= .free->∃c,cells.lookup y.1=some c)->(∀y d,cs.lookup y=some d->cells.lookup y=some d)->
 (G7 cells l cs).lookup x=some c->cells.lookup x=some c
 |[],cs,_,hc,e=>hc x c e
 | (n, k)::r,cs,hl,hc,e=>by
   have hl':∀y∈r,y.2= .free->∃c,cells.lookup y.1=some c:=λy hy=>hl y (mC hy)
   unfold G7 at e
   by_cases hk:(k == NameKind.free)=true
   .rw[iP hk]at e;refine Fe r _ hl' (λy d q=>?_) e;obtain⟨d',e'⟩:=hl (n,k) mS (by simpa using hk);rw[lookup_cons]at q;cases hy:y == n with
    |true=>
      rw[hy]at q;have:y=n:=by simpa using hy
      subst this;dsimp only at e';rw[e']at q ⊢;exact q
    |false=>rw[hy]at q;exact hc y d q
   .rw[iN hk]at e;exact Fe r cs hl' hc e
theorem DU{cells:List (Str×Addr)}{x:Str}:∀(l:List (Str×NameKind)) (cs:List (Str×Addr)),((∃y∈l,y.1=x/\y.2= .free)\/∃c,cs.lookup x=some c)->∃c,(G7 cells l cs).lookup x=some c
 | [],cs,h=>by
   rcases h with⟨y,hy,_⟩|h
   .simp at hy
   .exact h
 | (n, k)::r,cs,h=>by
   unfold G7
   by_cases hk:(k == NameKind.free)=true
   .rw [iP hk];refine DU r _ ?_;rcases h with⟨y,hy,e1,e2⟩|⟨c,h⟩
    .rcases mK hy with q|q
     .refine .inr ?_;subst q;have e1:n=x:=e1;subst e1;exact⟨_,by rw[lookup_cons];simp;rfl⟩
     .exact .inl ⟨y,q,e1,e2⟩
    .refine .inr ?_;rw[lookup_cons];cases hy:x == n with
     |true=>exact⟨_,rfl⟩
     |false=>exact⟨c,h⟩
   .rw [iN hk];refine DU r cs ?_;rcases h with⟨y,hy,e1,e2⟩|h
    .rcases mK hy with q|q
     .subst q;have e2:k= .free:=e2;subst e2;exact absurd rfl hk
     .exact .inl ⟨y,q,e1,e2⟩
    .exact .inr h
noncomputable def AU(X:Cx)(N:List Str)(scope:Scope)(C:Addr)(s:Shared)(H:Hp)(fp:List Addr):Cx where
 prog:=X.prog
 w:=X.w
 K:=X.K
 mg:=X.mg
 base:=X.base
 A:=X.A
 N:=N
 s₀:=s
 H₀:=H
 env:=compEnvC scope (G7 X.env.cells scope.names []) C X.env
 outer:=X.stack
 stack:=X.stack
 ex:=fp
 calm:=X.calm
 fn:=λ_=>false
 pn:=[]
 xe:=λ_ _=>False
def BL(fr:List (Option Nat))(σ:St):St:=fr.map λo=>o.bind λi=>(σ[i]?).join
noncomputable def M3(N0:List Str)(sc0:Scope)(N:List Str)(scope:Scope)(fr:List (Option Nat)):Bool:=
 (scope.kind == .function) && scope.names.all (λy=>y.2 != .cell) && scope.names.all (λy=>y.2 != .local || scope.names.lookup y.1 == some .local) &&
 scope.names.all (λy=>y.2 != .free || sc0.names.lookup y.1 == some .cell || sc0.names.lookup y.1 == some .free) && (fr.length == N.length) &&
 (List.range fr.length).all λj=>match fr[j]? with
  |some (some i)=>(N[j]? == N0[i]?) && (match N[j]? with|some x=>scope.names.lookup x == some .free|none=>false)
  |_=>true
structure Dj(N0:List Str)(sc0:Scope)(N:List Str)(scope:Scope)(fr:List (Option Nat)):Prop where
 kind:scope.kind= .function
 Dw:∀y∈scope.names,y.2≠.cell
 own:∀y∈scope.names,y.2= .local->scope.names.lookup y.1=some .local
 free:∀y∈scope.names,y.2= .free->sc0.names.lookup y.1=some .cell\/sc0.names.lookup y.1=some .free
 len:fr.length=N.length
 TB:∀(j i:Nat),fr[j]? =some (some i)->∃x,N[j]? =some x/\N0[i]? =some x/\scope.names.lookup x=some .free
theorem Dj.of{N0:List Str}{sc0:Scope}{N:List Str}{scope:Scope}{fr:List (Option Nat)}(h:M3 N0 sc0 N scope fr=true):Dj N0 sc0 N scope fr:=by
 unfold M3 at h;simp only[bA,all_eq_true]at h;obtain⟨⟨⟨⟨⟨h1,h2⟩,h3⟩,h4⟩,h5⟩,h6⟩:=h;refine⟨by simpa using h1,λy hy=>by simpa using h2 y hy,λy hy e=>?_,λy hy e=>?_,by simpa using h5,λj i e=>?_⟩
 .have:=h3 y hy;simp[e]at this;exact this
 .have:=h4 y hy;simp[e]at this;exact this
 .have hj:j < fr.length:=(List.getElem?_eq_some_iff.mp e).1;have q:=h6 j (mem_range.mpr hj);rw[e]at q;dsimp only at q;rw[bA]at q;obtain⟨q1,q2⟩:=q;cases ex:N[j]? with
  |none=>rw[ex]at q2;cases q2
  |some x=>
    rw[ex]at q1 q2;exact⟨x,rfl,(by simpa using q1:some x=N0[i]?).symm,by simpa using q2⟩
theorem Bw{env:Env}:∀{names:List (Str×NameKind)} {x:Str},names.lookup x=some .free->
 (names.map λ(n,k)=>if(k == NameKind.free && env.scope.kind == .function && env.kindOf n == some .cell)then(n,NameKind.cell)else(n,k)).lookup x=some .free\/
 (names.map λ(n,k)=>if(k == NameKind.free && env.scope.kind == .function && env.kindOf n == some .cell)then(n,NameKind.cell)else(n,k)).lookup x=some .cell
 |[],_,h=>by simp at h
 | (n,k)::r,x,h=>by
   have ih:=@Bw env r x;show List.lookup x ((if(k == NameKind.free && env.scope.kind == .function && env.kindOf n == some .cell)=true then(n,NameKind.cell)else(n,k))::_)=_\/List.lookup x ((if(k == NameKind.free && env.scope.kind == .function && env.kindOf n == some .cell)=true then(n,NameKind.cell)else(n,k))::_)=_;cases hx:x == n with
   |true=>
     simp only[lookup_cons,hx]at h;cases h
     by_cases hc:(NameKind.free == NameKind.free && env.scope.kind == .function && env.kindOf n == some .cell)=true
     .rw[iP hc];right;rw[lookup_cons,hx]
     .rw[iN hc];left;rw[lookup_cons,hx]
   |false=>
     simp only[lookup_cons,hx]at h
     by_cases hc:(k == NameKind.free && env.scope.kind == .function && env.kindOf n == some .cell)=true
     .rw[iP hc];simp only[lookup_cons,hx];exact ih h
     .rw[iN hc];simp only[lookup_cons,hx];exact ih h
theorem EM{env:Env}:∀{names:List (Str×NameKind)} {x:Str},(∀y∈names,y.2≠.cell)->
 ((names.map λ(n,k)=>if(k == NameKind.free && env.scope.kind == .function && env.kindOf n == some .cell)then(n,NameKind.cell)else(n,k)).lookup x=some .cell\/
 (names.map λ(n,k)=>if(k == NameKind.free && env.scope.kind == .function && env.kindOf n == some .cell)then(n,NameKind.cell)else(n,k)).lookup x=some .free)->∃y∈names,y.1=x/\y.2= .free
 |[],_,_,h=>by simp at h
 | (n, k)::r,x,hn,h=>by
   have ih:=@EM env r x λy hy=>hn y (mC hy)
   have hnk:k≠.cell:=hn (n,k) mS
   have h:List.lookup x ((if(k == NameKind.free && env.scope.kind == .function && env.kindOf n == some .cell)=true then(n,NameKind.cell)else(n,k))::(r.map λ(n,k)=>if(k == NameKind.free && env.scope.kind == .function && env.kindOf n == some .cell)then(n,NameKind.cell)else(n,k)))=some .cell\/
    List.lookup x ((if(k == NameKind.free && env.scope.kind == .function && env.kindOf n == some .cell)=true then(n,NameKind.cell)else(n,k))::(r.map λ(n,k)=>if(k == NameKind.free && env.scope.kind == .function && env.kindOf n == some .cell)then(n,NameKind.cell)else(n,k)))=some .free:=h
   by_cases hc:(k == NameKind.free && env.scope.kind == .function && env.kindOf n == some .cell)=true
   .rw [iP hc]at h;cases hx:x == n with
    |true=>
      have hk:k= .free:=by
       simp only[bA]at hc;simpa using hc.1.1
      exact⟨(n,k),mS,(by simpa using hx:x=n).symm,hk⟩
    |false=>
      simp only[lookup_cons,hx]at h;obtain⟨y,hy,q⟩:=ih h;exact⟨y,mC hy,q⟩
   .rw[iN hc]at h;cases hx:x == n with
    |true=>
      simp only[lookup_cons,hx,Option.some.injEq]at h;refine⟨(n,k),mS,(by simpa using hx:x=n).symm,?_⟩;rcases h with h|h
      .exact absurd h hnk
      .exact h
    |false=>
      simp only[lookup_cons,hx]at h;obtain⟨y,hy,q⟩:=ih h;exact⟨y,mC hy,q⟩
section
variable{pins:List (Addr×Obj)}{σ:St}{H:Hp}{s:Shared}{N:List Str}{scope:Scope}{fr:List (Option Nat)}{fp:List Addr}{C:Addr}
theorem Hv(I:Inv X pins σ H s)(ok:Dj X.N X.env.scope N scope fr)(hf:∀b∈fp,FN X pins H b)(hfl:∀b∈fp,b < s.heap.objs.size){h1:Heap}{m:Str->Option Value}{tk:Nat}(hC:s.heap.objs.size<=C)(hns:h1.Ns C m)
 (k:∀b o,s.heap.get? b=some o->h1.get? b=some o):Inv (AU X N scope C s H fp) [] (BL fr σ) H {s with heap:=h1,toks:=tk}:=by
 have hcl:∀y∈scope.names,y.2= .free->∃c,X.env.cells.lookup y.1=some c:=λy hy e=>I.ok.has y.1 (ok.free y hy e)
 have TB:∀{x:Str} {c:Addr},(G7 X.env.cells scope.names []).lookup x=some c->X.env.cells.lookup x=some c:=λ{x c} e=>Fe scope.names [] hcl (λy d q=>by simp at q) e
 refine⟨⟨I.ok.mod,ok.kind,I.ok.glob,I.ok.blt,hC,λx y c e1 e2=>I.ok.inj x y c (TB e1) (TB e2),λx hx=>?_,λx c hf' _=>?_,I.ok.hd,I.ok.frames,.inl rfl,λb hb=>⟨?_,λx c e=>?_⟩,I.bs,Nat.le_trans I.ok.RI I.sz,λb o e hb=>?_,λb hb hs=>?_,I.stack,I.IS⟩,
  rfl,I.bare,Un.kept k,⟨m,hns,λj x v e1 e2 e3=>?_⟩,λx c e=>?_,I.Ak.fresh hC,λx c e=>I.DB x c (TB e),λp hp=>?_,I.Ak.kept k,?_⟩
 .obtain⟨y,hy,e1,e2⟩:=EM (env:=X.env) ok.Dw hx;exact DU scope.names [] (.inl ⟨y,hy,e1,e2⟩)
 .exact absurd hf' (by show ¬(false=true);decide)
 .exact Nat.ne_of_lt (Nat.lt_of_lt_of_le (hfl b hb) hC)
 .exact(hf b hb).2.2.2.2.1 x c (TB e)
 .rcases(hf b hb).2.2.2.1 with z|z
  .exact I.ok.Pn b o e z
  .exact absurd (Nat.lt_of_lt_of_le (Heap.lt_size e) (Nat.le_trans I.ok.RI z)) (Nat.lt_irrefl _)
 .rcases mK (I.GJ b hs)with e|e
  .exact(hf b hb).2.1 e
  .exact(hf b hb).2.2.1 e
 .have e2:(fr.map λo=>o.bind λi=>(σ[i]?).join)[j]? =some (some v):=e2;rw[List.getElem?_map]at e2;cases ef:fr[j]? with
  |none=>rw[ef]at e2;cases e2
  |some o=>
    rw[ef]at e2;have e2:(o.bind λi=>(σ[i]?).join)=some v:=Option.some.inj e2;cases o with
    |none=>cases e2
    |some i=>
      have e2:(σ[i]?).join=some v:=e2
      have eσ:σ[i]? =some (some v):=by
       cases q:σ[i]? with
       |none=>rw[q]at e2;cases e2
       |some z=>rw[q]at e2;exact congrArg some e2
      obtain⟨x',n1,n2,fx⟩:=ok.TB j i ef;have:x'=x:=Option.some.inj (n1.symm.trans e1);subst this;have hsc:=ok.free _ (PySem.mem_of_lookup fx) rfl;obtain⟨m0,hn0,hl0⟩:=I.loc;obtain⟨u,r,l⟩:=hl0 i x' v n2 eσ (by rcases hsc with z|z;exact .inr (.inl z);exact .inr (.inr z));refine⟨u,r,?_⟩;rcases l with⟨q,_⟩|⟨_,c,ec,⟨oc,hoc,hod⟩⟩
      .have q:X.env.scope.names.lookup x'=some .local:=q;rcases hsc with z|z
       .rw[z]at q;cases q
       .rw[z]at q;cases q
      .obtain⟨c',e'⟩:=DU (cells:=X.env.cells) scope.names [] (.inl ⟨_,PySem.mem_of_lookup fx,rfl,rfl⟩);have:c'=c:=Option.some.inj ((TB e').symm.trans ec);subst this;refine .inr ⟨?_,c',e',oc,k _ _ hoc,hod⟩;rcases Bw (env:=X.env) fx with z|z
       .exact .inr z
       .exact .inl z
 .obtain⟨v,oc,hoc,hod⟩:=I.cell x c (TB e);exact⟨v,oc,k _ _ hoc,hod⟩
 .exact absurd (show p∈([]:List (Addr×Obj))from hp) (by simp)
 .unfold BL;rw[lM];exact ok.len
theorem Inv.ZA{xs:List V}{its:List Value}{n:Nat}(I:Inv X pins σ H s)(hD:FN X pins H D)(hz:xs.length<=sizeLine)(r:Vals xs its)(e:s.heap.get? D=some {cls:=.type "list",data:=.seq its.toArray n}):
 Inv X pins σ (upd H D (.lst xs)) s:=by
 have hn:=hD.1;have ne:∀b u,H b=some u->b≠D:=λb u q=>AS q hn
 refine I.step (h':=s.heap) (g':=s.gens) (d':=s.drawn) (t':=s.toks) (ch:=[D]) (λb hb=>?_) (λb o _ _ _ q _=>q) (λb o _ _ _ q _=>⟨o.slots,q⟩) (λb o hb _ q=>?_) (λb o _ q=>⟨o,q⟩)
  (λb xs q=>by rw[Ab (ne b _ q)];exact q) (λb o u q=>by rw[Ab (ne b _ q)];exact q) (λb ps q=>⟨#[],by rw[Ab (ne b _ q),q];simp⟩) (λm q=>q) (λb u q=>?_) I.bare
 .have:b=D:=by simpa using hb
  subst this;exact⟨hD.2.2.2.1,hD.2.1,hD.2.2.2.2.1,hD.2.2.2.2.2⟩
 .rw[Ab (λz=>hb (by simp[z]))];exact q
 .by_cases hb:b=D
  .subst hb;rw[Ar]at q;cases q;exact⟨hz,its,n,r,e⟩
  .rw[Ab hb]at q;exact(I.Ak b u q).Lj (λc v _ z=>z) (λc z=>by rw[Ab (ne c _ z)];exact z) λc xs z=>by rw[Ab (ne c _ z)];exact z
def CompEnd(X:Cx)(pins:List (Addr×Obj))(σ:St)(Q:List V->Hp->Prop)(acc:Value)(C:Addr)(r:Result)(s':Shared):Prop:=
 r= .ok .next/\∃(D:Addr) (H':Hp) (xs:List V),acc= .ref D/\H' D=none/\Inv X pins σ (upd H' D (.lst xs)) s'/\(∃m,s'.heap.Ns C m)/\FN X pins (upd H' D (.lst xs)) C/\Q xs H'
end
variable{prog:Program}{w:World}{A:Around}{R:Result->Shared->Prop}{s:Shared}
end L2
namespace L2
open PySem PySem.Spec PyProof.Rows
section
variable{X:Cx}{tg e:Expr}{pos p p1 p2 p3:Pos}{ta te:TE}
def fI:V->Option Int->Option Int->Hp->VK->Prop:=λx lo hi H Q=>∃y,x= .str y/\y.length<=sizeLine/\Q (.str (Txt.slice y lo hi)) H
theorem Lm:Zn X fI:=by
 intro pins s σ H x v vl vu lo hi sl Q I rx hs pl pu h;obtain⟨y,rfl,hz,q⟩:=h;obtain⟨t,rfl⟩:=rx;refine⟨"str",_,F.slot_str_getitem.lookup,typeIs_str _ _ _,?_⟩;have fin:∀t' k,EP X pins σ Q (.str (Txt.slice y lo hi) t') {s with toks:=k}:=λt' k=>⟨.str (Txt.slice y lo hi),H,I.tok k,⟨t',rfl⟩,q⟩
 obtain⟨o,h1,h2,h3⟩:=hs;cases pl with
 |none=>
   cases pu with
   |none=>exact wpAny_getItem_str_slice (l:=none) (u:=none) (st:=none) ⟨o,h1,h2,h3⟩ rfl (post_val_or_str ⟨Nat.le_trans (Txt.slice_le y _ _) hz,fin⟩)
   |int j u=>exact wpAny_getItem_str_slice (l:=none) (u:=some (j,u)) (st:=none) ⟨o,h1,h2,h3⟩ rfl (post_val_or_str ⟨Nat.le_trans (Txt.slice_le y _ _) hz,fin⟩)
 |int i u=>
   cases pu with
   |none=>exact wpAny_getItem_str_slice (l:=some (i,u)) (u:=none) (st:=none) ⟨o,h1,h2,h3⟩ rfl (post_val_or_str ⟨Nat.le_trans (Txt.slice_le y _ _) hz,fin⟩)
   |int j u'=>exact wpAny_getItem_str_slice (l:=some (i,u)) (u:=some (j,u')) (st:=none) ⟨o,h1,h2,h3⟩ rfl (post_val_or_str ⟨Nat.le_trans (Txt.slice_le y _ _) hz,fin⟩)
theorem KS(hc:X.calm=true):B5 X (.builtin "all") (λxs H Q=>∃(l:Addr) (bs:List Bool),xs=[.ref l]/\E2 X.K H l (bs.map V.bl)/\Q (.bl (bs.all id)) H):=by
 intro pins s σ H xs us Q I r h;obtain⟨l,bs,rfl,hq,q⟩:=h;obtain⟨u,rfl,ru⟩:=vals1 r;cases ru;obtain⟨its,rv,pl,hz⟩:=I.list hq;have hlen:=rv.length;rw[lM]at hlen;refine call_all_walk (wpAny_pyIter_list pl.isList ?_);have lt:l < s.heap.objs.size:=Heap.lt_size pl.isList.choose_spec.1;refine⟨_,_,_,_,_,_,λi=>(bs[i]?).getD true,rfl,Walks.list (A:=X.A.in1) (show X.A.in1.handled=none from I.ok.hd hc) _ l (Nat.ne_of_lt lt) its.toArray,⟨⟨_,Heap.get?_push_size _ rfl,rfl,rfl⟩,pl.isList.at λo e=>gP e⟩,?_,λh' tk hk=>?_⟩
 .intro i v s' Q' E' hP hQ;have hP:its.toArray[i]? =some v:=hP;rw[List.getElem?_toArray]at hP
  have hi:i < bs.length:=by
   have:=(List.getElem?_eq_some_iff.mp hP).1
   lia
  have hb:(bs.map V.bl)[i]? =some (.bl bs[i]):=by rw[List.getElem?_map,List.getElem?_eq_getElem hi];rfl
  obtain⟨u,hu,ru⟩:=rv.get hb;have:u=v:=Option.some.inj (hu.symm.trans hP);subst this;cases ru;refine wpAny_truthy_bool ?_;have e:(bs[i]?).getD true=bs[i]:=by rw[List.getElem?_eq_getElem hi];rfl
  have hQ:Q' ((bs[i]?).getD true) s':=hQ;rw[e]at hQ;exact hQ
 .have e:(List.range its.toArray.size).all (λi=>(bs[i]?).getD true)=bs.all id:=by
   rw[size_toArray,<-hlen];rw[Bool.eq_iff_iff,all_eq_true,all_eq_true];constructor
   .intro h b hb;obtain⟨i,hi,e⟩:=List.mem_iff_getElem.mp hb;have:=h i (mem_range.mpr hi);rw[List.getElem?_eq_getElem hi,e]at this;exact this
   .intro h i hi;have hi:=mem_range.mp hi;have:=h bs[i] (getElem_mem hi);rw[List.getElem?_eq_getElem hi];exact this
  have ee:EP X pins σ Q (.bool (bs.all id)) {s with heap:=h',toks:=tk}:=by
   refine⟨.bl (bs.all id),H,I.kept (t':=tk) λb o e=>hk b o (λz=>?_) (gP e),rfl,q⟩;exact absurd (Heap.lt_size e) (by rw[mE z];exact Nat.lt_irrefl _)
  rw[e];exact ee
end
variable{g:TG}{te:TE}{σ:St}{H:Hp}{Q:List V->Hp->Prop}{K:PySem.W.Frag}{a:Addr}{xs:List V}
end L2
namespace PySem
open AutoSeq1 (wpAny_loadPart')
theorem TF(l:Addr)(xs:Array Value)(n:Nat)(b:Addr)(ys:Array Value)(n2:Nat)(Cv:Option Addr)(sl:Array (Option Value))(h0:¬(!xs.isEmpty && Builtin.List.listTooLong (xs.size + ys.size))=true)(h1:xs.size<=sizeLine)(h2:xs.size + ys.size<=sizeLine + 1):
 Meets (Builtin.«list.extend» ⟨[.ref l,.ref b],[]⟩) (λ_ R s=>s.heap.get? l=some {cls:=.type "list",dict:=none,data:=.seq xs n,slots:=#[]}/\
  s.heap.get? b=some {cls:=.type "tuple",dict:=Cv,data:=.seq ys n2,slots:=sl}/\R (.ok (.ret Value.none)) {s with heap:=s.heap.update l (Obj.mapSeq λx=>x++ys),toks:=s.toks}):=
 .of_wp λprog w A R s h=>by
  obtain⟨hp,g,d,tk,os⟩:=s;obtain⟨hl,hb,h⟩:=h;have hz':(xs++ys).size<=sizeLine+1:=by rw[Array.size_append];exact h2
  wp_walk using(wpAny_updateSeq hl rfl (hz:=h1) (_hz':=hz')),wpAny_loadPart' hl,wpAny_loadPart' hb
  exact⟨_,rfl,h⟩
end PySem
namespace L2
open PySem PySem.Spec PyProof.Rows
section
variable{X:Cx}{tg e:Expr}{pos p p1 p2 p3:Pos}{ta te:TE}
noncomputable def iD(y:Str):It:=⟨λi _=>i < y.length,λi H x H'=>H'=H/\∃c,y.cps[i]? =some c/\x= .str ⟨#[c]⟩,λi _=>y.length<=i⟩
variable{w:World}
theorem Oh{P:Program}{K:PySem.W.Frag}{tg:Expr}(it:Addr)(y:Str)(t:Tok):Turn P w K tg (iD y) [it] it (λi h=>h.IsStrIter it "str_ascii_iterator" y t i) where
 mem:=by simp
 obj:=λi h st b hb=>by
  have e:b=it:=by simpa using hb
  subst e;obtain⟨o,e,c,d⟩:=st;exact⟨o,e,λv z=>by rw[d]at z;cases z⟩
 keep:=λi h h' st k=>by
  obtain⟨o,e,r⟩:=st;exact⟨o,k it (by simp) o e,r⟩
 item:=by
  intro X hP hw hK hc i pins s σ H E I hf st hg;subst hP hw hK;have hg:i < y.cps.size:=hg;obtain⟨f0,f1,f2,f3,f4,f5⟩:=hf it (by simp);refine wpAny_pyNext_ascii_item st (c:=y.cps[i]) (Array.getElem?_eq_getElem hg) λh' st' sb=>?_
  have I1:Inv X pins σ H {s with heap:=h',toks:=s.toks+1}:=I.turned (λb o hb e=>(sb.2 b hb).trans e) f0 f1 f3 f4 f5;obtain⟨o,e,c,d⟩:=id st';exact⟨_,rfl,KC (s:={s with heap:=h',toks:=s.toks+1}) e c d (by decide) ⟨.str ⟨#[y.cps[i]]⟩,H,I1,⟨_,rfl⟩,⟨rfl,_,Array.getElem?_eq_getElem hg,rfl⟩,st',λb hb=>(hf b hb).1⟩⟩
 done:=by
  intro X hP hw hK hc i pins s σ H E I hf st hg;subst hP hw hK;have hg:y.cps.size<=i:=hg;obtain⟨f0,f1,f2,f3,f4,f5⟩:=hf it (by simp);exact wpAny_pyNext_ascii_end (I.ok.hd hc) st (Array.getElem?_eq_none hg) λh' eb=>⟨rfl,I.turned (t':=s.toks) (λb o hb e=>eb b o hb e) f0 f1 f3 f4 f5⟩
 self:=λA i s Q E st h=>by
  refine wpAny_pyIter_slot st.typeIs PySem.F.slot_str_ascii_iterator_iter (wpAny_call_entry PySem.F.slot_str_ascii_iterator_iter st.typeIs PySem.F.entry_str_ascii_iterator_iter ?_ (PySem.F.args_str_ascii_iterator_iter_1 _));show wpAny _ _ (ret (.ref it)) _ _ s;exact wP ⟨_,rfl,"str_ascii_iterator",_,st.typeIs,PySem.F.slot_str_ascii_iterator_next.lookup,h⟩
theorem Nq:C4 X (compareOp .LtE) (λx y H Q=>∃i j,x= .str i/\y= .str j/\Q (.bl (!decide (j.cps.toList < i.cps.toList))) H):=by
 intro pins s σ H x y v u Q I rx ry h;obtain⟨i,j,rfl,rfl,q⟩:=h;obtain⟨t,rfl⟩:=rx;obtain⟨t',rfl⟩:=ry;exact PySem.P.le_str (XH I q rfl)
def i6(lo c:Int)(n:Nat):It:=⟨λi _=>i < n,λi H x H'=>H'=H/\x= .int (lo+i*c),λi _=>n<=i⟩
theorem JW{P:Program}{K:PySem.W.Frag}{tg:Expr}(it:Addr)(lo c:Int)(n:Nat):Turn P w K tg (i6 lo c n) [it] it (λi h=>IsRangeIter h it (lo + (i:Nat) * c) ((n:Int) - (i:Nat)) c) where
 mem:=by simp
 obj :=λi h st b hb=>by
  have e:b=it:=by simpa using hb
  subst e
  exact⟨_,st,λv z=>by
   have z':Data.fields _=Data.cell v:=z
   cases z'⟩
 keep:=λi h h' st k=>k it (by simp) _ st
 item:=by
  intro X hP hw hK hc i pins s σ H E I hf st hg;subst hP hw hK;obtain⟨f0,f1,f2,f3,f4,f5⟩:=hf it (by simp);have W:=Walks.range (prog:=X.prog) (w:=X.w) (I.ok.hd hc) it lo c n;refine W.item i s _ _ hg st λv h' tk hv st' kk=>?_
  obtain⟨t,rfl⟩:=hv;have I1:Inv X pins σ H {s with heap:=h',toks:=tk}:=I.turned (λb o hb e=>kk b o (by simpa using hb) e) f0 f1 f3 f4 f5;exact⟨_,rfl,KC (s:={s with heap:=h',toks:=tk}) (n:="range_iterator") st' rfl rfl (by decide) ⟨.int (lo+i*c),H,I1,⟨t,rfl⟩,⟨rfl,rfl⟩,st',λb hb=>(hf b hb).1⟩⟩
 done:=by
  intro X hP hw hK hc i pins s σ H E I hf st hg;subst hP hw hK;obtain⟨f0,f1,f2,f3,f4,f5⟩:=hf it (by simp);exact wpAny_pyNext_range_end (I.ok.hd hc) st (by have:n<=i:=hg;lia) λh' eb=>⟨rfl,I.turned (t':=s.toks) (λb o hb e=>eb b o hb e) f0 f1 f3 f4 f5⟩
 self:=λ_ _ _ _ _ st h=>wpAny_pyIter_rangeiter st h
noncomputable def bC(ta:TA):TI:=λσ H R=>ta σ H λvs H1=>∃(i j k:Int) (n:Nat),vs=[.int i,.int j,.int k]/\0 < k/\k < 1000000/\Builtin.Range.small i j k=true/\Builtin.Range.rangeSize i j k=n/\R (i6 i k n) H1
theorem Nm{a b c:Expr}{ta:TA}{p pos:Pos}(hg:Gl X "range")(hm:X.mg "range"=none)(ha:PA X [a,b,c] ta)(hs:starEach [a,b,c] X.env=[(false,eval a X.env),(false,eval b X.env),(false,eval c X.env)]:=by rfl)
 (hs2:starEach [b,c] X.env=[(false,eval b X.env),(false,eval c X.env)]:=by rfl):PI X tg (.Call (.Name "range" p) [a,b,c] [] pos) (bC ta):=by
 intro pins s σ H R I h;refine Call_ (Fx I hg hm boot_range (PyProof.Rows.callWith_type1 (B4 (ha pos pins s σ H _ I h) λus s1 ⟨vs,H1,I1,r1,q1⟩=>?_) (by rw[hs,hs2]) (by rw[hs2];rfl)));obtain⟨i,j,k,n,e,q1,q2,q3,q4,q⟩:=q1;subst e;cases r1 with
 |cons r rr=>
   cases rr with
   |cons r' rr=>
     cases rr with
     |cons r'' rr=>
       cases rr;obtain⟨t,rfl⟩:=r;obtain⟨t',rfl⟩:=r';obtain⟨t'',rfl⟩:=r'';refine call_range_3 (by lia) ?_ (.inl (PyProof.noPylong_small (by lia)));have I2:Inv X pins σ H1 {s1 with heap:=s1.heap.push {cls:=.type "range",data:=.fields #[.int i t,.int j t',.int k t'']}}:=I1.kept (t':=s1.toks) λb o e=>gP e
       refine wpAny_pyIter_range (IsRange.new ..) q3 ?_;refine⟨_,[(s1.heap.push {cls:=.type "range",data:=.fields #[.int i t,.int j t',.int k t'']}).objs.size],_,_,H1,rfl,I2.kept (t':=s1.toks) λb o e=>gP e,JW _ i k n,?_,λb hb=>?_,q⟩
       .show IsRangeIter _ _ (i+((0:Nat):Int)*k) ((n:Int)-((0:Nat):Int)) k;rw[show i+((0:Nat):Int)*k=i by simp,show(n:Int)-((0:Nat):Int)=Builtin.Range.rangeSize i j k by rw[q4];simp];exact Heap.get?_push_size _ rfl
       .have e:b=(s1.heap.push {cls:=.type "range",data:=.fields #[.int i t,.int j t',.int k t'']}).objs.size:=by simpa using hb
        subst e;exact I2.Qe (lR) (I2.Ak.fresh (lR))
end
end L2
namespace HT
open PySem PyProof.Rows
variable{prog:Program}{w:World}{A:Around}{E:Value->Shared->Prop}{s:Shared}
theorem DZ{sl:Addr}{items:Array Value}{vl vu:Value}{lo hi:Option Int}{Q:Value->Shared->Prop}(ht:IsTup s.heap t items)(hs:s.heap.IsSliceOf sl vl vu .none)(pl:IsPart vl lo)(pu:IsPart vu hi)
 (hw:Bu items.size 0 lo=0/\Bu items.size items.size hi=items.size)(h:Q (.ref t) s):wpAny (model prog w) A (getItem (.ref t) (.ref sl)) Q E s:=by
 obtain⟨os,hos,hcs,hds⟩:=id hs;have hTs:s.TypeIs (.ref sl) "slice":=⟨os,hos,hcs⟩;unfold getItem
 try with_reducible refine wpAny_holding ?_
 first|refine wB (wP ?_)|skip
 refine wB (wpAny_sequenceKey ht.typeIs (by decide) ?_)
 refine wB (wpAny_callSpecial?_slot (name:=Str.ofString "__getitem__") ht.typeIs PyProof.Rows.slot_tuple_getitem
  (wpAny_call_entry PyProof.Rows.slot_tuple_getitem ht.typeIs entry_tuple_getitem ?_ (args_tuple_getitem _ _)))
 show wpAny _ _ (Builtin.Tuple.tupleItemsOf (.ref t) >>= _) _ _ s;refine wB (tupleItemsOf_ ht ?_);refine wB (wpAny_typeOf hTs ?_);rw[iP (by decide)];refine wB (CP hs pl pu ?_)
 have hyes:((((Bu items.size 0 lo:Nat):Int) == 0 && (1:Int) == 1 && (Bu items.size items.size hi - Bu items.size 0 lo) == items.size)=true):=by
  rw[hw.1,hw.2];simp
 show wpAny _ _ (if(((Bu items.size 0 lo:Nat):Int) == 0 && (1:Int) == 1 && (Bu items.size items.size hi-Bu items.size 0 lo) == items.size)=true then _ else _) _ _ s;rw[iP hyes];unfold Builtin.Tuple.tupleIsExact;refine wB (wB (wpAny_typeOf ht.typeIs (wP ?_)));rw[iP (by decide)];refine wB (wpAny_rule ?_);exact wP ⟨_,rfl,wP h⟩
end HT
namespace L2
open PySem PySem.Spec PyProof.Rows
variable{X:Cx}
def aq(K:PySem.W.Frag):V->Option Int->Option Int->Hp->VK->Prop:=λx lo hi H Q=>∃a xs,x= .ref a/\Ey K H a xs/\
 (HT.Bu xs.length 0 lo=0/\HT.Bu xs.length xs.length hi=xs.length)/\Q (.ref a) H
theorem RY:Zn X (aq X.K):=by
 intro pins s σ H x v vl vu lo hi sl Q I rx hs pl pu h;obtain⟨a,xs,rfl,hx,hw,q⟩:=h;cases rx;obtain⟨its,r,ht,hz⟩:=I.tuple hx;have hlen:its.toArray.size=xs.length:=by rw[size_toArray];exact r.length.symm
 refine⟨"tuple",_,PyProof.Rows.slot_tuple_getitem.lookup,ht.typeIs,?_⟩;refine HT.DZ ht hs pl pu (by rw[hlen];exact hw) ?_;exact⟨.ref a,_,I,rfl,q⟩
end L2
namespace Kd
open PySem L2
def dd(ks:List Int)(n:Int):List Int:=if n∈ks then ks else ks++[n]
theorem OI{x:Str}{j:Int}(h0:0<=j)(h1:j<=x.length):Txt.slice x none (some j)=⟨((x.cps.toList.drop 0).take j.toNat).toArray⟩:=by
 have:=eq_of_beq (PyProof.Rows.slice_closes_toL (x:=x) h0 h1);rw[this];simp
theorem Ll{x:Str}{i:Int}(h0:0<=i)(h1:i<=x.length):Txt.slice x (some i) none=⟨((x.cps.toList.drop i.toNat).take ((x.length:Int)-i).toNat).toArray⟩:=PyProof.Rows.slice_from_eq h0 h1 rfl
end Kd
namespace Iv
open PySem
inductive P where
 |Az|bl (b:Bool)|int (i:Int)|str (x:Str)|tup (ps:List P)|fn (i:Nat)
 deriving Inhabited
mutual
noncomputable def P.iz:(a b:P)->Decidable (a=b)
 |.Az,.Az=>.isTrue rfl
 |.bl a,.bl b=>if h:a=b then .isTrue (by rw[h])else .isFalse (λz=>h (P.bl.inj z))
 |.int a,.int b=>if h:a=b then .isTrue (by rw[h])else .isFalse (λz=>h (P.int.inj z))
 |.str a,.str b=>if h:a=b then .isTrue (by rw[h])else .isFalse (λz=>h (P.str.inj z))
 |.fn a,.fn b=>if h:a=b then .isTrue (by rw[h])else .isFalse (λz=>h (P.fn.inj z))
 |.tup a,.tup b=>match P.cy a b with| .isTrue h=>.isTrue (by rw[h])| .isFalse h=>.isFalse (λz=>h (P.tup.inj z))
 |.Az,.bl _=>.isFalse nofun| .Az,.int _=>.isFalse nofun| .Az,.str _=>.isFalse nofun| .Az,.tup _=>.isFalse nofun| .Az,.fn _=>.isFalse nofun
 |.bl _,.Az=>.isFalse nofun| .bl _,.int _=>.isFalse nofun| .bl _,.str _=>.isFalse nofun| .bl _,.tup _=>.isFalse nofun| .bl _,.fn _=>.isFalse nofun
 |.int _,.Az=>.isFalse nofun| .int _,.bl _=>.isFalse nofun| .int _,.str _=>.isFalse nofun| .int _,.tup _=>.isFalse nofun| .int _,.fn _=>.isFalse nofun
 |.str _,.Az=>.isFalse nofun| .str _,.bl _=>.isFalse nofun| .str _,.int _=>.isFalse nofun| .str _,.tup _=>.isFalse nofun| .str _,.fn _=>.isFalse nofun
 |.tup _,.Az=>.isFalse nofun| .tup _,.bl _=>.isFalse nofun| .tup _,.int _=>.isFalse nofun| .tup _,.str _=>.isFalse nofun| .tup _,.fn _=>.isFalse nofun
 |.fn _,.Az=>.isFalse nofun| .fn _,.bl _=>.isFalse nofun| .fn _,.int _=>.isFalse nofun| .fn _,.str _=>.isFalse nofun| .fn _,.tup _=>.isFalse nofun
noncomputable def P.cy:(a b:List P)->Decidable (a=b)
 |[],[]=>.isTrue rfl
 | x::a,y::b=>match P.iz x y,P.cy a b with
   |.isTrue h,.isTrue k=>.isTrue (by rw[h,k])
   |.isFalse h,_=>.isFalse (λz=>h (List.cons.inj z).1)
   |_,.isFalse k=>.isFalse (λz=>k (List.cons.inj z).2)
 |[],_::_=>.isFalse nofun
 |_::_,[]=>.isFalse nofun
end
instance:DecidableEq P:=P.iz
mutual
def P.depth:P->Nat
 |.tup ps=>P.Bo ps+1
 |_=>0
def P.Bo:List P->Nat
 |[]=>0
 |p::ps=>max p.depth (P.Bo ps)
end
inductive B where
 |p (x:P)|lst (ps:List P)|Cv (kvs:List (P×P))|ro (ps:List P)
instance:DecidableEq B:=λ_ _=>Classical.propDecidable _
inductive C where
 |b (x:B)|obj (c:Nat)(fs:List (Str×B))
instance:DecidableEq C:=λ_ _=>Classical.propDecidable _
abbrev C.p(x:P):C:=.b (.p x)
abbrev C.lst(x:List P):C:=.b (.lst x)
abbrev C.Cv(x:List (P×P)):C:=.b (.Cv x)
def C.cp:C->Bool
 |.b (.p _)=>true
 |.b (.ro _)=>true
 |_=>false
def C.nf:C->C
 |.b (.ro ps)=>.b (.lst ps)
 |c=>c
abbrev Env:=List (Option C)
inductive Res(α:Type) where
 |stuck|ok (a:α)(ρ:Env)|err (x:Nat)(p:P)(ρ:Env)
namespace Res
variable{α β:Type}
noncomputable def bind(r:Res α)(f:α->Env->Res β):Res β:=match r with
 |.stuck=>.stuck
 |.ok a ρ=>f a ρ
 |.err x p ρ=>.err x p ρ
@[simp] theorem Ys (f:α->Env->Res β):(Res.stuck:Res α).bind f= .stuck:=rfl
@[simp] theorem A3 (a:α) (ρ:Env) (f:α->Env->Res β):(Res.ok a ρ).bind f=f a ρ:=rfl
@[simp] theorem cP (x:Nat) (p:P) (ρ:Env) (f:α->Env->Res β):(Res.err x p ρ:Res α).bind f= .err x p ρ:=rfl
def of(o:Option α)(ρ:Env):Res α:=match o with
 |some a=>.ok a ρ
 |none=>.stuck
@[simp] theorem Ms (a:α) (ρ:Env):of (some a) ρ= .ok a ρ:=rfl
@[simp] theorem of_none (ρ:Env):of (none:Option α) ρ= .stuck:=rfl
end Res
inductive CR where
 |stuck|ok (c:C)(outs:List (Option C))|err (x:Nat)(p:P)
inductive Ty where
 |int|bool|str|tuple|list|dict|cls (cs:List Nat)
inductive IK where
 |op|BC|enum|zip|rev|items|vals
inductive O where
 |add|sub|mul|mod|fdiv|pow|band|shr|neg
 |eq|ne|lt|le|gt|ge|is|dM|dN|dD|chain (a b:O)
 |idx|D4 (lo hi:Bool)
 |len|Gr (t:Ty)|list (k:IK)|tuple (k:IK)|dict (k:IK)|min|max|sum|all|any|sorted|abs|str|int|Dz
 |join (sep:Str)|upper|bJ|bI|index|iter (k:IK)|Jn|id|sw
inductive MO where
 |append|extend|pop|ij|clear|reverse|insert|update
inductive Tg where
 |nm (i:Nat)|tup (is:List Nat)
def Tg.slots:Tg->List Nat
 |.nm i=>[i]
 |.tup is=>is
inductive T where
 |cst (p:P)|var (i:Nat)|bor (i:Nat)|fld (i:Nat)(f:Str)
 |tup (ts:List T)|lst (ts:List T)|Cv (ks vs:List T)
 |prim (o:O)(ts:List T)|ES (m:MO)(o:T)(ts:List T)|Q9 (o:T)(ts:List T)
 |and (a b:T)|or (a b:T)|not (a:T)|ite (c a b:T)
 |call (f:Nat)(ts:List T)|Ag (m:Str)(o:T)(ts:List T)|make (c:Nat)(ts:List T)|Ew (i:Nat)(ts:List T)|Dl (i:Nat)|CD (m:Str)(i l:Nat)(C7:Option Nat)
 |comp (g:Tg)(k:IK)(its:List T)(cond:List T)(elt:T)(fr:List (Option Nat))
def O.same:O->O->Bool
 |.add,.add=>true
 |_,_=>false
mutual
noncomputable def T.same:T->T->Bool
 |.cst p,u=>(match u with| .cst q=>decide (p=q)|_=>false)
 |.var i,u=>(match u with| .var j=>decide (i=j)|_=>false)
 |.prim o ts,u=>(match u with| .prim p us=>O.same o p && T.FR ts us|_=>false)
 |.call f ts,u=>(match u with| .call g us=>decide (f=g) && T.FR ts us|_=>false)
 |.Ag m o ts,u=>(match u with| .Ag n p us=>decide (m=n) && T.same o p && T.FR ts us|_=>false)
 |_,_=>false
noncomputable def T.FR:List T->List T->Bool
 |[],us=>us.isEmpty
 |t::ts,us=>(match us with|u::us=>T.same t u && T.FR ts us|[]=>false)
end
inductive S where
 |asg (g:Tg)(t:T)|fq (o:T)(i:T)(v:T)|GR (i:Nat)(f:Str)(v:T)|expr (t:T)
 |ret (t:Option T)|ifs (c:T)(a b:List S)|JU (c:T)(b:List S)|CV (g:Tg)(k:IK)(its:List T)(b:List S)
 |brk|cnt|pass|raise (x:Nat)(t:T)|dv (b:List S)(hs:List (List Nat×Option Nat×List S))
def IK.ok:IK->Bool
 |.op=>true
 |.BC=>true
 |.rev=>true
 |_=>false
noncomputable def O.ok:O->Bool
 |.iter _=>false
 |.Jn=>false
 |.band=>false
 |.shr=>false
 |.upper=>false
 |.index=>false
 |.any=>false
 |.dict _=>false
 |.list .op=>true
 |.list .rev=>true
 |.list .zip=>true
 |.sorted=>true
 |.bJ=>false
 |.bI=>false
 |.list _=>false
 |.tuple .op=>true
 |.tuple _=>false
 |.Gr (.cls _)=>false
 |_=>true
noncomputable def MO.ok:MO->Bool
 |.append=>true
 |.extend=>true
 |.pop=>true
 |.clear=>true
 |.reverse=>true
 |_=>false
def big:Nat:=100000
def B.pure:B->Option P
 |.p x=>some x
 |_=>none
def C.pure:C->Option P
 |.b (.p x)=>some x
 |_=>none
noncomputable def C9:P->P->Bool
 |.bl _,.int _=>false
 |.int _,.bl _=>false
 |.fn _,_=>false
 |_,.fn _=>false
 |_,_=>true
mutual
def Bc:P->P->Bool
 |.tup a,.tup b=>CW a b
 |a,b=>C9 a b
def CW:List P->List P->Bool
 |x::a,y::b=>Bc x y && CW a b
 |_,_=>true
end
def flat(p:P):Bool:=decide (p.depth<=8)
noncomputable def Fp(a b:P):Option Bool:=if Bc a b && decide (a.depth<=60) && decide (b.depth<=60)then some (decide (a=b))else none
noncomputable def Qo(a b:List P):Option Bool:=if CW a b && decide (P.Bo a<=60) && decide (P.Bo b<=60)then some (decide (a=b))else none
def gw(kvs:List (P×P))(k:P):Option P:=(kvs.find? λq=>decide (q.1=k)).map (·.2)
noncomputable def dput(kvs:List (P×P))(k v:P):List (P×P):=if(kvs.any λq=>decide (q.1=k))=true then kvs.map λq=>if q.1=k then(q.1,v)else q else kvs++[(k,v)]
mutual
def VB:P->Bool
 |.int _=>true
 |.str _=>true
 |.tup ps=>Q6 ps
 |_=>false
def Q6:List P->Bool
 |[]=>true
 |p::ps=>VB p && Q6 ps
end
def XC:P->Bool
 |.str _=>true
 |_=>false
def keyOk(k:P):Bool:=VB k && flat k && !XC k
noncomputable def JR(n:Nat)(i:Int):Option Nat:=if 0<=i then(if i < n then some i.toNat else none)else(if -(n:Int)<=i then some (i+n).toNat else none)
def LZ(n d:Nat):Option Int->Nat
 |none=>d
 |some v=>if v < 0 then(v+n).toNat else min v.toNat n
noncomputable def cut{α:Type}(xs:List α)(lo hi:Option Int):List α:=(xs.drop (LZ xs.length 0 lo)).take (LZ xs.length xs.length hi-LZ xs.length 0 lo)
def sign(c:Nat):P:=.str ⟨#[c]⟩
def signs(x:Str):List P:=x.cps.toList.map sign
def P.iL:P->Option Int
 |.int i=>some i
 |_=>none
def An(lo hi:Int):List P:=(List.range (hi-lo).toNat).map λk=>.int (lo+(k:Nat))
def PY:List P->Option (List Int)
 |[]=>some []
 |.int i::r=>(PY r).map (i::·)
 |_::_=>none
def DF:List P->Option (List Bool)
 |[]=>some []
 |.bl i::r=>(DF r).map (i::·)
 |_::_=>none
def strsOf:List P->Option (List Str)
 |[]=>some []
 |.str i::r=>(strsOf r).map (i::·)
 |_::_=>none
def insI(i:Int):List Int->List Int
 |[]=>[i]
 |j::r=>if i<=j then i::j::r else j::insI i r
def sortI:List Int->List Int
 |[]=>[]
 |i::r=>insI i (sortI r)
noncomputable def FG(t:Ty)(c:C):Option Bool:=match t,c with
 |.int,.b (.p (.int _))=>some true
 |.int,.b (.p (.bl _))=>some true
 |.bool,.b (.p (.bl _))=>some true
 |.str,.b (.p (.str _))=>some true
 |.tuple,.b (.p (.tup _))=>some true
 |.list,.b (.lst _)=>some true
 |.list,.b (.ro _)=>some true
 |.dict,.b (.Cv _)=>some true
 |.cls cs,.obj c _=>some (cs.contains c)
 |_,.obj _ _=>none
 |_,.b (.p (.fn _))=>none
 |.cls _,_=>none
 |_,_=>some false
def N3{α:Type}(xs:List α):Option (List α):=if xs.length<=big then some xs else none
noncomputable def M6:C->C->Option C
 |.b (.p (.int i)),.b (.p (.int j))=>some (.p (.int (i+j)))
 |.b (.p (.str i)),.b (.p (.str j))=>if i.length+j.length<=big then some (.p (.str (i++j)))else none
 |.b (.p (.tup i)),.b (.p (.tup j))=>if i.isEmpty then none else(N3 (i++j)).map λz=>.p (.tup z)
 |.b (.lst i),.b (.lst j)=>(N3 (i++j)).map λz=>.lst z
 |_,_=>none
def dG:P->P->Option Bool
 |.int i,.int j=>some (decide (i < j))
 |_,_=>none
noncomputable def br:P->P->Option Bool
 |.int i,.int j=>some (decide (i<=j))
 |.str i,.str j=>some (decide (i.cps.toList<=j.cps.toList))
 |_,_=>none
def O9:C->C->Option Bool
 |.b (.p a),.b (.p b)=>Fp a b
 |.b (.lst a),.b (.lst b)=>Qo a b
 |_,_=>none
noncomputable def Dg(o:O)(a b:C):Option Bool:=match o with
 |.eq=>O9 a b
 |.ne=>(O9 a b).map (!·)
 |.lt=>match a,b with| .b (.p x),.b (.p y)=>dG x y|_,_=>none
 |.gt=>match a,b with| .b (.p x),.b (.p y)=>dG y x|_,_=>none
 |.le=>match a,b with| .b (.p x),.b (.p y)=>br x y|_,_=>none
 |.ge=>match a,b with| .b (.p (.int x)),.b (.p (.int y))=>some (decide (y<=x))|_,_=>none
 |_=>none
noncomputable def CL(c i:C):Option C:=match c.nf,i with
 |.b (.lst ps),.b (.p (.int i))=>(JR ps.length i).bind λk=>(ps[k]?).map λx=>.p x
 |.b (.p (.tup ps)),.b (.p (.int i))=>(JR ps.length i).bind λk=>(ps[k]?).map λx=>.p x
 |.b (.p (.str x)),.b (.p (.int i))=>if x.length<=big then(JR x.length i).bind λk=>(x.cps.toList[k]?).map λc=>.p (sign c)else none
 |_,_=>none
noncomputable def CI(x:Str)(lo hi:Option Int):Option Str:=match lo,hi with
 |none,some j=>if 0<=j/\j<=x.length/\x.length<=big then some ⟨(x.cps.toList.take j.toNat).toArray⟩else none
 |some i,none=>if 0<=i/\i<=x.length/\x.length<=big then some ⟨(x.cps.toList.drop i.toNat).toArray⟩else none
 |some i,some j=>if 0<=i/\i<=j/\j<=x.length/\x.length<=big then some ⟨((x.cps.toList.drop i.toNat).take (j-i).toNat).toArray⟩else none
 |_,_=>none
noncomputable def D3(x:C)(lo hi:Option Int):Option C:=match x.nf with
 |.b (.lst ps)=>some (.lst (cut ps lo hi))
 |.b (.p (.tup ps))=>some (.p (.tup (cut ps lo hi)))
 |.b (.p (.str x))=>(CI x lo hi).map λy=>.p (.str y)
 |_=>none
noncomputable def OK(c:C):Option (List P):=match c.nf with
 |.b (.lst ps)=>some ps
 |.b (.p (.tup ps))=>some ps
 |.b (.p (.str x))=>if x.length<=big/\x.cps.all (λc=>decide (c < 128))=true then some (signs x)else none
 |_=>none
noncomputable def Nf(c:C):Option (List P):=match c.nf with
 |.b (.lst ps)=>some ps
 |.b (.p (.tup ps))=>some ps
 |_=>none
noncomputable def ZQ(c:C):Option (List P):=match c.nf with
 |.b (.lst ps)=>some ps
 |.b (.Cv kvs)=>some (kvs.map (·.1))
 |_=>none
def Zr:List P->List P->List P:=List.zipWith λa b=>.tup [a,b]
def cw(ps:List P):List P:=ps.zipIdx.map λq=>.tup [.int (q.2:Nat),q.1]
noncomputable def Cj(c:C):Option (List P):=match c.nf with
 |.b (.lst ps)=>some ps
 |.b (.p (.tup ps))=>some ps
 |_=>none
def Wf:C->Option (List P)
 |.b (.p (.tup ps))=>some ps
 |_=>none
noncomputable def Aw(k:IK)(cs:List C):Option (List P):=match k,cs with
 |.op,[c]=>OK c
 |.BC,[.b (.p (.int n))]=>if n.natAbs < 2 ^ 61 then some (An 0 n)else none
 |.BC,[.b (.p (.int a)),.b (.p (.int n))]=>if a.natAbs < 2 ^ 61/\n.natAbs < 2 ^ 61 then some (An a n)else none
 |.BC,[.b (.p (.int a)),.b (.p (.int n)),.b (.p (.int s))]=>if 0 < s/\s < 1000000/\a.natAbs < 2 ^ 61/\n.natAbs < 2 ^ 61 then some ((List.range ((n-a+s-1)/s).toNat).map λk=>.int (a+s*(k:Nat)))else none
 |.enum,[c]=>(Cj c).map cw
 |.zip,[a,b]=>(Cj a).bind λx=>(Cj b).map λy=>Zr x y
 |.rev,[c]=>match c.nf with| .b (.lst ps)=>some ps.reverse|_=>none
 |.items,[.b (.Cv kvs)]=>some (kvs.map λq=>.tup [q.1,q.2])
 |.vals,[.b (.Cv kvs)]=>some (kvs.map (·.2))
 |_,_=>none
noncomputable def Jc(c:C):Option C:=match c.nf with
 |.b (.lst ps)=>some (.p (.int ps.length))
 |.b (.p (.tup ps))=>some (.p (.int ps.length))
 |.b (.p (.str x))=>if x.length<=big then some (.p (.int x.length))else none
 |_=>none
noncomputable def DS:List (P×P)->List P->Option (List (P×P))
 |kvs,[]=>some kvs
 |kvs,.tup [k,v]::r=>if keyOk k then DS (dput kvs k v) r else none
 |_,_::_=>none
def AM:List Str->Nat
 |[]=>0
 |x::r=>if r.contains x then AM r else AM r+1
noncomputable def Ky(sep:Str)(xs:List Str):Str:=⟨(xs.drop 1).foldl (λacc p=>acc++sep.cps++p.cps) (xs.headD ⟨#[]⟩).cps⟩
noncomputable def Dp(f:Int->Int->Option Int):C->C->Option C
 |.b (.p (.int i)),.b (.p (.int j))=>(f i j).map λk=>.p (.int k)
 |_,_=>none
def ZN(i j:Int):Option Int:=some (i-j)
noncomputable def Pw(i j:Int):Option Int:=if(-(2 ^ 64) < i/\i < 2 ^ 64)\/(-(2 ^ 64) < j/\j < 2 ^ 64)then some (i*j)else none
def Ny(i j:Int):Option Int:=if 0 < j then some (i%j)else none
def Io(i j:Int):Option Int:=if 0 < j/\j < 1073741824 then some (i/j)else none
def Nk(i j:Int):Option Int:=if 0<=j/\j<=1000/\i.natAbs < 2 ^ 64 then some (i ^ j.toNat)else none
def bf(i j:Int):Option Int:=some (if j < i then j else i)
def gf(i j:Int):Option Int:=some (if j > i then j else i)
noncomputable def mulC(a b:C):Option C:=match a,b with
 |.b (.lst ps),.b (.p (.int j))=>if 0<=j/\j<=1000/\ps.length<=1 then some (.lst (List.replicate j.toNat ps).flatten)else none
 |a,b=>Dp Pw a b
def F7(f:Int->Option P):C->Option C
 |.b (.p (.int i))=>(f i).map λk=>.p k
 |_=>none
def Xk(i:Int):Option P:=some (.int (-i))
def Ut(i:Int):Option P:=some (.int (if i < 0 then -i else i))
def Ov(i:Int):Option P:=if i.natAbs.log2 < 1920 then some (.str (toString i))else none
def G3(l:List Nat):Nat:=l.foldl (λn c=>n*10+(c-48)) 0
noncomputable def PZ:C->Option C
 |.b (.p (.int i))=>some (.p (.int i))
 |.b (.p (.str x))=>if x.cps.toList.all (λc=>decide (48<=c/\c<=57)) && decide (0 < x.length/\x.length<=640)then some (.p (.int (G3 x.cps.toList:Nat)))else none
 |.b (.p (.bl b))=>some (.p (.int (if b then 1 else 0)))
 |_=>none
def T5(f:List P->Option C)(c:C):Option C:=match c.nf with
 |.b (.lst ps)=>f ps
 |_=>none
def fk:C->Option C:=T5 λps=>(PY ps).map λns=>.p (.int ns.sum)
def HN:C->Option C:=T5 λps=>(DF ps).map λns=>.p (.bl (ns.all id))
def anyC:C->Option C:=T5 λps=>(DF ps).map λns=>.p (.bl (ns.any id))
noncomputable def RN(c:C):Option C:=((ZQ c).bind PY).bind λns=>if ns.length < 64 then some (.lst ((sortI ns).map .int))else none
noncomputable def Cq(o1 o2:O)(a b c:C):Option C:=(Dg o1 a b).bind λx=>if x then(Dg o2 b c).map λy=>.p (.bl y)else some (.p (.bl false))
def E6:C->Option Int
 |.b (.p (.int i))=>some i
 |_=>none
def cx:C->Option C
 |.b (.Cv kvs)=>some (.Cv kvs)
 |.b (.lst ps)=>(DS [] ps).map .Cv
 |_=>none
noncomputable def Tz(c k d:C):Option C:=match c,k,d with
 |.b (.Cv kvs),.b (.p k),.b (.p d)=>if keyOk k then some (.p ((gw kvs k).getD d))else none
 |_,_,_=>none
noncomputable def XE(c x:C):Option C:=match c.nf,x with
 |.b (.lst ps),.b (.p x)=>if ps.all (λq=>Bc q x && decide (q.depth<=60)) && decide (x.depth<=60)then(ps.findIdx? λq=>decide (q=x)).map λk=>.p (.int (k:Nat))else none
 |_,_=>none
noncomputable def EV(c:C):Option C:=((Wf c).bind strsOf).bind λxs=>if xs.length < 4000 then some (.p (.int (AM xs)))else none
noncomputable def G1(sep:Str)(c:C):Option C:=((Cj c).bind strsOf).bind λxs=>if(xs.map (·.length)).sum+xs.length*sep.length<=big then some (.p (.str (Ky sep xs)))else none
def iM:C->Option C
 |.b (.p x)=>some (.p x)
 |_=>none
noncomputable def Zb:C->C->C->Option C
 |.b (.p (.str x)),.b (.p (.str y)),.b (.p (.int i))=>if 0<=i/\i<=x.length then some (.p (.bl (decide ((x.cps.toList.drop i.toNat).take y.length=y.cps.toList))))else none
 |_,_,_=>none
noncomputable def Av(o:O)(cs:List C):Option C:=match o,cs with
 |.add,[a,b]=>M6 a b
 |.sub,[a,b]=>Dp ZN a b
 |.mul,[a,b]=>mulC a b
 |.mod,[a,b]=>Dp Ny a b
 |.fdiv,[a,b]=>Dp Io a b
 |.pow,[a,b]=>Dp Nk a b
 |.neg,[a]=>F7 Xk a
 |.chain o1 o2,[a,b,c]=>Cq o1 o2 a b c
 |.idx,[a,i]=>CL a i
 |.D4 false false,[a]=>D3 a none none
 |.D4 true false,[a,i]=>(E6 i).bind λi=>D3 a (some i) none
 |.D4 false true,[a,j]=>(E6 j).bind λj=>D3 a none (some j)
 |.D4 true true,[a,i,j]=>(E6 i).bind λi=>(E6 j).bind λj=>D3 a (some i) (some j)
 |.len,[c]=>Jc c
 |.Gr t,[c]=>(FG t c).map λb=>.p (.bl b)
 |.list .op,[c]=>(Nf c).map .lst
 |.list .zip,[a,b]=>(Wf a).bind λx=>(Wf b).map λy=>.lst (Zr x y)
 |.list .rev,[c]=>(Cj c).map λx=>.lst x.reverse
 |.list .BC,cs=>(Aw .BC cs).map .lst
 |.list .vals,cs=>(Aw .vals cs).map .lst
 |.tuple .op,[c]=>(Cj c).map λx=>.p (.tup x)
 |.tuple .BC,cs=>(Aw .BC cs).map λx=>.p (.tup x)
 |.dict .op,[c]=>cx c
 |.dict .zip,cs=>(Aw .zip cs).bind λx=>(DS [] x).map .Cv
 |.dict .enum,cs=>(Aw .enum cs).bind λx=>(DS [] x).map .Cv
 |.min,[a,b]=>Dp bf a b
 |.max,[a,b]=>Dp gf a b
 |.sum,[c]=>fk c
 |.all,[c]=>HN c
 |.any,[c]=>anyC c
 |.sorted,[c]=>RN c
 |.abs,[a]=>F7 Ut a
 |.str,[a]=>F7 Ov a
 |.int,[c]=>PZ c
 |.index,[c,x]=>XE c x
 |.Dz,[c]=>EV c
 |.join sep,[c]=>G1 sep c
 |.id,[c]=>iM c
 |.sw,[x,y,i]=>Zb x y i
 |.bJ,[c,k]=>Tz c k (.p .Az)
 |.bI,[c,k,d]=>Tz c k d
 |.eq,[a,b]=>(Dg .eq a b).map λx=>.p (.bl x)
 |.ne,[a,b]=>(Dg .ne a b).map λx=>.p (.bl x)
 |.lt,[a,b]=>(Dg .lt a b).map λx=>.p (.bl x)
 |.le,[a,b]=>(Dg .le a b).map λx=>.p (.bl x)
 |.gt,[a,b]=>(Dg .gt a b).map λx=>.p (.bl x)
 |.ge,[a,b]=>(Dg .ge a b).map λx=>.p (.bl x)
 |.is,[a,b]=>(Dg .is a b).map λx=>.p (.bl x)
 |.dM,[a,b]=>(Dg .dM a b).map λx=>.p (.bl x)
 |.dN,[a,b]=>(Dg .dN a b).map λx=>.p (.bl x)
 |.dD,[a,b]=>(Dg .dD a b).map λx=>.p (.bl x)
 |_,_=>none
noncomputable def Cf(ps:List P):List C->Option (C×B)
 |[.b (.p x)]=>if ps.length < big then some (.p .Az,.lst (ps++[x]))else none
 |_=>none
noncomputable def EU(ps:List P):List C->Option (C×B)
 |[.b (.lst xs)]=>if ps.length+xs.length<=big then some (.p .Az,.lst (ps++xs))else none
 |[.b (.p (.tup xs))]=>if ps.length+xs.length<=big then some (.p .Az,.lst (ps++xs))else none
 |_=>none
def NA(ps:List P):List C->Option (C×B)
 |[]=>(ps.getLast?).map λx=>(.p x,.lst ps.dropLast)
 |_=>none
def Xq(ps:List P):List C->Option (C×B)
 |[]=>some (.p .Az,.lst [])
 |_=>none
def PF(ps:List P):List C->Option (C×B)
 |[]=>some (.p .Az,.lst ps.reverse)
 |_=>none
noncomputable def T4(ps:List P):List C->Option (C×B)
 |[.b (.p (.int i)),.b (.p x)]=>if 0<=i/\i<=ps.length/\ps.length < big then some (.p .Az,.lst (ps.take i.toNat++x::ps.drop i.toNat))else none
 |_=>none
noncomputable def Ei(m:MO)(b:B)(cs:List C):Option (C×B):=match b with
 | .lst ps=>(match m with
   |.append=>Cf ps cs
   |.extend=>EU ps cs
   |.pop=>NA ps cs
   |.clear=>Xq ps cs
   |.reverse=>PF ps cs
   |.insert=>T4 ps cs
   |_=>none)
 |_=>none
noncomputable def ft(b:B)(i:P)(v:P):Option B:=match b with
 |.Cv kvs=>if keyOk i && decide (kvs.length < big)then some (.Cv (dput kvs i v))else none
 |.lst ps=>match i with| .int n=>(JR ps.length n).map λk=>.lst (ps.set k v)|_=>none
 |_=>none
noncomputable def CH(c:C):Option Bool:=match c.nf with
 |.b (.p .Az)=>some false
 |.b (.p (.bl b))=>some b
 |.b (.p (.int i))=>some (i != 0)
 |.b (.p (.str x))=>if x.length<=big then some (x.length != 0)else none
 |.b (.p (.tup ps))=>some (!ps.isEmpty)
 |.b (.lst ps)=>some (!ps.isEmpty)
 |_=>none
inductive Hd where
 |AI (c:C)|slot (i:Nat)|fld (i:Nat)(f:Str)
def A7(ρ:Env)(i:Nat):Option C:=(ρ[i]?).join
noncomputable def Br(ρ:Env)(i:Nat)(f:Str):Option C:=match A7 ρ i with
 |some (.obj _ fs)=>(fs.lookup f).map .b
 |_=>none
def Hd.cont(ρ:Env):Hd->Option C
 |.AI c=>some c
 |.slot i=>A7 ρ i
 |.fld i f=>Br ρ i f
noncomputable def Ai(ρ:Env):List Hd->Option (List C)
 |[]=>some []
 |h::hs=>(h.cont ρ).bind λc=>(Ai ρ hs).map (c::·)
def Fm:P->Bool
 |.tup _=>false
 |.fn _=>false
 |_=>true
def T.calm:T->Bool
 |.cst p=>Fm p
 |.bor _=>true
 |.var _=>true
 |.fld _ _=>true
 |_=>false
noncomputable def Bf(f:Str)(b:B):List (Str×B)->List (Str×B)
 |[]=>[(f,b)]
 |(g,c)::r=>if g=f then(g,b)::r else(g,c)::Bf f b r
noncomputable def setB(ρ:Env)(h:Hd)(b:B):Option Env:=match h with
 |.slot i=>some (ρ.set i (some (.b b)))
 | .fld i f=>match A7 ρ i with
   |some (.obj c fs)=>some (ρ.set i (some (.obj c (Bf f b fs))))
   |_=>none
 |.AI _=>none
noncomputable def BH(hs:List Hd)(cs:List C):List Nat:=(hs.zip cs).filterMap λq=>if q.2.cp then none else match q.1 with
 |.slot i=>some i
 |.fld i _=>some i
 |.AI _=>none
noncomputable def back(ρ:Env):List Hd->List C->List (Option C)->Option Env
 |.slot i::hs,c::cs,o::os=>if c.cp then back ρ hs cs os else back (ρ.set i o) hs cs os
 |.fld _ _::hs,c::cs,_::os=>if c.cp then back ρ hs cs os else none
 |.AI _::hs,_::cs,_::os=>back ρ hs cs os
 |[],[],_=>some ρ
 |_,_,_=>none
abbrev CF:=Nat->List C->CR
structure MT where
 m:Nat->Str->Option Nat
 f:Nat->Str->Bool
 rs:Bool
 tf:Nat->Bool
noncomputable def guards(hs:List Hd)(cs:List C):List (Nat×C):=(hs.zip cs).filterMap λq=>if q.2.cp then none else match q.1 with
 |.slot i=>some (i,q.2)
 |_=>none
noncomputable def AD(hs:List Hd)(cs:List C):Bool:=(hs.zip cs).all λq=>q.2.cp || match q.1 with
 |.fld _ _=>false
 |_=>true
def lend(ρ:Env)(hs:List Hd)(cs:List C):Env:=(BH hs cs).foldl (λr i=>r.set i none) ρ
noncomputable def AH(cf:CF)(f:Nat)(hs:List Hd)(ρ:Env):Res C:=match Ai ρ hs with
 |none=>.stuck
 | some cs=>if(BH hs cs).Nodup/\AD hs cs=true then
    match cf f cs with
    |.stuck=>.stuck
    |.ok c outs=>(Res.of (back (lend ρ hs cs) hs cs outs) ρ).bind λρ' _=>.ok c ρ'
    |.err x p=>.err x p (lend ρ hs cs)
   else .stuck
def holds(gs:List (Nat×C))(ρ:Env):Bool:=gs.all λq=>decide (A7 ρ q.1=some q.2)
noncomputable def DY(g:Tg)(v:P)(ρ:Env):Option Env:=match g,v with
 |.nm i,v=>some (ρ.set i (some (.p v)))
 |.tup is,.tup vs=>if is.length=vs.length then some ((is.zip vs).foldl (λr q=>r.set q.1 (some (.p q.2))) ρ)else none
 |_,_=>none
def Bv(fr:List (Option Nat))(ρ:Env):Env:=fr.map λo=>o.bind λi=>A7 ρ i
noncomputable def AJ(ρ:Env):List (Option Nat)->Env->Env
 |some i::fr,c::β=>AJ (ρ.set i c) fr β
 |none::fr,_::β=>AJ ρ fr β
 |_,_=>ρ
noncomputable def Cc(g:Tg)(gs:List (Nat×C))(cond:Env->Res Bool)(elt:Env->Res C):List P->List P->Env->Res (List P)
 |[],acc,β=>if holds gs β then .ok acc β else .stuck
 | x ::xs,acc,β=>if holds gs β then(Res.of (DY g x β) β).bind λβ1 _=>(cond β1).bind λb β2=>if b then(elt β2).bind λc β3=>match c with
     |.b (.p y)=>Cc g gs cond elt xs (acc++[y]) β3
     |_=>.stuck
   else Cc g gs cond elt xs acc β2
   else .stuck
def inner(fr:List (Option Nat))(i:Nat):Option Nat:=fr.findIdx? λo=>o == some i
def CA(fr:List (Option Nat))(ρ:Env):Env:=(fr.filterMap id).foldl (λr i=>r.set i none) ρ
noncomputable def Fi(g:Tg)(fr:List (Option Nat)):Bool:=decide ((fr.filterMap id).Nodup) && g.slots.all λj=>decide (fr[j]? =some none)
noncomputable def BF(fr:List (Option Nat))(hs:List Hd)(cs:List C):List (Nat×C):=(guards hs cs).filterMap λq=>(inner fr q.1).map λj=>(j,q.2)
noncomputable def Iy(k:IK)(g:Tg)(fr:List (Option Nat))(cond:Env->Res Bool)(elt:Env->Res C)(hs:List Hd)(ρ:Env):Res C:=match Ai ρ hs with
 | some cs=>match Aw k cs with
   | some xs=>if AD hs cs && Fi g fr && decide (xs.length<=big)then match Cc g (BF fr hs cs) cond elt xs [] (Bv fr ρ)with
      |.ok ys β=>.ok (.lst ys) (AJ (CA fr ρ) fr β)
      |_=>.stuck
     else .stuck
   |none=>.stuck
 |none=>.stuck
noncomputable def BA(t:T)(v:Env->Res C)(ρ:Env):Res Hd:=match t with
 |.bor i=>if(A7 ρ i).isSome then .ok (.slot i) ρ else .stuck
 |.var i=>if(A7 ρ i).isSome then .ok (.slot i) ρ else .stuck
 |.fld i f=>if(Br ρ i f).isSome then .ok (.fld i f) ρ else .stuck
 |_=>(v ρ).bind λc ρ=>.ok (.AI c) ρ
inductive Fl where
 |nx|brk|cnt|ret (c:C)
def placeOf:T->Option Hd
 |.var i=>some (.slot i)
 |.fld i f=>some (.fld i f)
 |_=>none
def Vz:Option C->Bool
 |some (.b (.lst _))=>true
 |_=>false
def Hd.E9:Hd->Bool
 |.fld _ _=>true
 |_=>false
noncomputable def J6(m:MO)(h:Hd)(hs:List Hd)(ρ:Env):Res C:=match h.cont ρ,Ai ρ hs with
 | some (.b b),some cs=>if(BH (h::hs) (.b b::cs)).Nodup then match Ei m b cs with
   |some (c,b')=>(Res.of (setB ρ h b') ρ).bind λρ' _=>.ok c ρ'
   |none=>.stuck
   else .stuck
 |_,_=>.stuck
def gp:Option C->Bool
 |some (.b (.lst _))=>true
 |some (.b (.Cv _))=>true
 |_=>false
noncomputable def ZO(h:Hd)(k:C)(v:P)(ρ:Env):Res Fl:=match h.cont ρ,k with
    |some (.b b),.b (.p k)=>(Res.of ((ft b k v).bind λb'=>setB ρ h b') ρ).bind λρ' _=>.ok .nx ρ'
    |_,_=>.stuck
noncomputable def ZP(h:Hd)(i:Env->Res C)(v:C)(ρ:Env):Res Fl:=match v with
    |.b (.p v)=>if gp (h.cont ρ)then(i ρ).bind λk ρ=>ZO h k v ρ else .stuck
    |_=>.stuck
noncomputable def HW(mt:MT)(i:Nat)(f:Str)(v:C)(ρ:Env):Res Fl:=match A7 ρ i,v with
    |some (.obj c fs),.b b=>if mt.f c f && decide (fs.length < 900)then .ok .nx (ρ.set i (some (.obj c (Bf f b fs))))else .stuck
    |_,_=>.stuck
def XD:Option C->Bool
 |some (.b (.Cv _))=>true
 |_=>false
noncomputable def bH(h:Hd)(hs:List Hd)(ρ:Env):Res C:=match h.cont ρ,Ai ρ hs with
 |some c,some [k]=>Res.of (Tz c k (.p .Az)) ρ
 |some c,some [k,d]=>Res.of (Tz c k d) ρ
 |_,_=>.stuck
noncomputable def FV(cf:CF)(f c:Nat)(hs:List Hd)(ρ:Env):Res C:=match Ai ρ hs with
 |none=>.stuck
 | some cs=>if((BH hs cs).Nodup/\AD hs cs=true)/\c < 1000 then match cf f (.obj c []::cs)with
    |.ok (.b (.p .Az)) (some s::outs)=>(Res.of (back (lend ρ hs cs) hs cs outs) ρ).bind λρ' _=>.ok s ρ'
    |.err x p=>.err x p (lend ρ hs cs)
    |_=>.stuck
   else .stuck
def Cg:Nat:=1024
def Ff(l:Nat):Option Nat->Nat
 |none=>1024*(l+1)
 |some v=>1024*(l+1)+1048576*(v+1)
def Fg(n:Nat):Nat:=n/1024%1024-1
def JD(n:Nat):List Hd:=match n / 1048576 with
 |0=>[]
 |v+1=>[.AI (.p (.int v))]
def tag(c:Nat):Nat:=if c < 1000 then c+1000 else c
noncomputable def KR(ρ:Env):Option Nat->Option (Option Nat)
 |none=>some none
 | some j=>match A7 ρ j with
   |some (.b (.p (.int v)))=>if 0<=v/\v < 1000 then some (some v.toNat)else none
   |_=>none
mutual
def noFn:P->Bool
 |.fn _=>false
 |.tup ps=>Dx ps
 |_=>true
def Dx:List P->Bool
 |[]=>true
 |p::ps=>noFn p && Dx ps
end
def BD:List (Str×B)->Bool
 |[]=>true
 |(_,.p x)::r=>noFn x && BD r
 |_::_=>false
noncomputable def He(cf:CF)(mt:MT)(m:Str)(i l:Nat)(C7:Option Nat)(ρ:Env):Res C:=match A7 ρ i,KR ρ C7 with
 | some (.obj c fs),some cv=>match fs.lookup m,mt.m c m with
   | none,some f=>if BD fs then(match cf f [.obj (tag c) fs,.p (.fn (Ff l cv))]with
     |.ok (.b (.p x)) (some (.obj c' fs')::_)=>if c'=tag c/\noFn x=true/\BD fs'=true then .ok (.p x) (ρ.set i (some (.obj c fs')))else .stuck
     |_=>.stuck)else .stuck
   |_,_=>.stuck
 |_,_=>.stuck
structure Sm where
 v:Env->Res C
 b:Env->Res Bool
noncomputable def Sm.of(t:T)(v:Env->Res C):Sm:=⟨v,λρ=>(BA t v ρ).bind λh ρ=>Res.of ((h.cont ρ).bind CH) ρ⟩
mutual
noncomputable def den (cf:CF) (mt:MT):T->Sm
 |.cst p=>Sm.of (.cst p) λρ=>.ok (.p p) ρ
 | .var i=>Sm.of (.var i) λρ=>match A7 ρ i with
   |some c=>if c.cp then .ok c ρ else .ok c (ρ.set i none)
   |none=>.stuck
 | .bor i=>Sm.of (.bor i) λρ=>match A7 ρ i with
   |some c=>if c.cp then .ok c ρ else .stuck
   |none=>.stuck
 | .fld i f=>Sm.of (.fld i f) λρ=>match Br ρ i f with
   |some c=>if c.cp then .ok c ρ else .stuck
   |none=>.stuck
 |.tup ts=>Sm.of (.tup []) λρ=>if ts.length<=1000 then(Cu cf mt ts ρ).bind λps ρ=>.ok (.p (.tup ps)) ρ else .stuck
 |.lst ts=>Sm.of (.tup []) λρ=>if ts.length<=1000 then(Cu cf mt ts ρ).bind λps ρ=>.ok (.lst ps) ρ else .stuck
 |.Cv ks vs=>Sm.of (.tup []) λρ=>if ks.isEmpty && vs.isEmpty then .ok (.Cv []) ρ else .stuck
 |.prim o ts=>Sm.of (.tup []) λρ=>if o.ok then(A9 cf mt ts ρ).bind λhs ρ=>Res.of ((Ai ρ hs).bind (Av o)) ρ else .stuck
 | .ES m o ts=>Sm.of (.tup []) λρ=>match placeOf o with
   |some h=>if m.ok && Vz (h.cont ρ) && (!h.E9 || ts.all T.calm)then(A9 cf mt ts ρ).bind λhs ρ=>J6 m h hs ρ else .stuck
   |none=>.stuck
 | .Q9 o ts=>Sm.of (.tup []) λρ=>match placeOf o with
   |some h=>if XD (h.cont ρ) && (!h.E9 || ts.all T.calm)then(A9 cf mt ts ρ).bind λhs ρ=>bH h hs ρ else .stuck
   |none=>.stuck
 | .and a b=>⟨λρ=>((den cf mt a).v ρ).bind λc ρ=>match c with
   |.b (.p (.bl true))=>(den cf mt b).v ρ
   |.b (.p (.bl false))=>.ok (.p (.bl false)) ρ
   |_=>.stuck,λρ=>((den cf mt a).b ρ).bind λc ρ=>if c then(den cf mt b).b ρ else .ok false ρ⟩
 | .or a b=>⟨λρ=>((den cf mt a).v ρ).bind λc ρ=>match c with
   |.b (.p (.bl true))=>.ok (.p (.bl true)) ρ
   |.b (.p (.bl false))=>(den cf mt b).v ρ
   |_=>.stuck,λρ=>((den cf mt a).b ρ).bind λc ρ=>if c then .ok true ρ else(den cf mt b).b ρ⟩
 | .not a=>⟨λρ=>((den cf mt a).v ρ).bind λc ρ=>match c with
   |.b (.p (.bl b))=>.ok (.p (.bl (!b))) ρ
   |_=>.stuck,λρ=>((den cf mt a).b ρ).bind λb ρ=>.ok (!b) ρ⟩
 |.ite c a b=>⟨λρ=>((den cf mt c).b ρ).bind λx ρ=>if x then(den cf mt a).v ρ else(den cf mt b).v ρ,λρ=>((den cf mt c).b ρ).bind λx ρ=>if x then(den cf mt a).b ρ else(den cf mt b).b ρ⟩
 |.call f ts=>Sm.of (.tup []) λρ=>(A9 cf mt ts ρ).bind λhs ρ=>AH cf f hs ρ
 | .Ag m o ts=>Sm.of (.tup []) λρ=>match o with
   | .var i=>match A7 ρ i with
     | some (.obj c fs)=>match fs.lookup m,mt.m c m with
       |none,some f=>(A9 cf mt ts ρ).bind λhs ρ=>AH cf f (.slot i::hs) ρ
       |_,_=>.stuck
     |_=>.stuck
   |_=>.stuck
 | .make c ts=>Sm.of (.tup []) λρ=>match mt.m c (Str.ofString "__init__")with
   |some f=>(A9 cf mt ts ρ).bind λhs ρ=>FV cf f c hs ρ
   |none=>.stuck
 | .Ew i ts=>Sm.of (.tup []) λρ=>match A7 ρ i with
   |some (.b (.p (.fn n)))=>if mt.tf n then(A9 cf mt ts ρ).bind λhs ρ=>AH cf n hs ρ else .stuck
   |_=>.stuck
 | .Dl i=>Sm.of (.tup []) λρ=>match A7 ρ i,A7 ρ 0 with
   |some (.b (.p (.fn n))),some (.obj c _)=>if n < Cg\/c < 1000 then .stuck else AH cf (Fg n) (.slot 0::JD n) ρ
   |_,_=>.stuck
 |.CD m i l C7=>Sm.of (.tup []) λρ=>He cf mt m i l C7 ρ
 |.comp g k its cond elt fr=>Sm.of (.tup []) λρ=>if k.ok then(A9 cf mt its ρ).bind λhs ρ=>Iy k g fr (Ht cf mt cond) (den cf mt elt).v hs ρ else .stuck
noncomputable def Cu (cf:CF) (mt:MT):List T->Env->Res (List P)
 |[],ρ=>.ok [] ρ
 | t::ts,ρ=>((den cf mt t).v ρ).bind λc ρ=>match c with
   |.b (.p x)=>(Cu cf mt ts ρ).bind λxs ρ=>.ok (x::xs) ρ
   |_=>.stuck
noncomputable def A9 (cf:CF) (mt:MT):List T->Env->Res (List Hd)
 |[],ρ=>.ok [] ρ
 | t::ts,ρ=>(BA t (den cf mt t).v ρ).bind λh ρ=>match h with
   |.fld i f=>if ts.all T.calm then(A9 cf mt ts ρ).bind λhs ρ=>.ok (.fld i f::hs) ρ else .stuck
   |h=>(A9 cf mt ts ρ).bind λhs ρ=>.ok (h::hs) ρ
noncomputable def Ht (cf:CF) (mt:MT):List T->Env->Res Bool
 |[],ρ=>.ok true ρ
 |t::_,ρ=>(den cf mt t).b ρ
end
abbrev ev(cf:CF)(mt:MT)(t:T):Env->Res C:=(den cf mt t).v
abbrev tv(cf:CF)(mt:MT)(t:T):Env->Res Bool:=(den cf mt t).b
abbrev WH:=(Env->Res Bool)->(Env->Res Fl)->Env->Res Fl
noncomputable def Ap(c:Env->Res Bool)(b:Env->Res Fl):Nat->Env->Res Fl
 |0,_=>.stuck
 | n + 1,ρ=>(c ρ).bind λx ρ=>if x then(b ρ).bind λf ρ=>match f with
     |.nx=>Ap c b n ρ
     |.cnt=>Ap c b n ρ
     |.brk=>.ok .nx ρ
     |.ret r=>.ok (.ret r) ρ
   else .ok .nx ρ
noncomputable def forL(g:Tg)(gs:List (Nat×C))(b:Env->Res Fl):List P->Env->Res Fl
 |[],ρ=>if holds gs ρ then .ok .nx ρ else .stuck
 | x ::xs,ρ=>if holds gs ρ then(Res.of (DY g x ρ) ρ).bind λρ1 _=>(b ρ1).bind λf ρ=>match f with
     |.nx=>forL g gs b xs ρ
     |.cnt=>forL g gs b xs ρ
     |.brk=>.ok .nx ρ
     |.ret r=>.ok (.ret r) ρ
   else .stuck
noncomputable def NN(k:IK)(g:Tg)(bs:List Nat)(B:Env->Res Fl)(hs:List Hd)(ρ:Env):Res Fl:=match Ai ρ hs with
 | some cs=>match Aw k cs with
   |some xs=>if AD hs cs && (guards hs cs).all (λq=>!(g.slots++bs).contains q.1)then forL g (guards hs cs) B xs ρ else .stuck
   |none=>.stuck
 |none=>.stuck
noncomputable def K8(g:Tg)(c:C)(ρ:Env):Option Env:=match g,c with
 |.nm i,c=>some (ρ.set i (some c))
 |.tup is,.b (.p (.tup vs))=>DY (.tup is) (.tup vs) ρ
 |_,_=>none
mutual
noncomputable def Eu:S->List Nat
 |.asg g _=>g.slots
 |.ifs _ a b=>Bg a++Bg b
 |.JU _ b=>Bg b
 |.CV g _ _ b=>g.slots++Bg b
 |.dv b hs=>Bg b++VP hs
 |_=>[]
noncomputable def Bg:List S->List Nat
 |[]=>[]
 |s::ss=>Eu s++Bg ss
noncomputable def VP:List (List Nat×Option Nat×List S)->List Nat
 |[]=>[]
 |h::hs=>hU h++VP hs
noncomputable def hU:List Nat×Option Nat×List S->List Nat
 |(_,q)=>cU q
noncomputable def cU:Option Nat×List S->List Nat
 |(o,b)=>o.toList++Bg b
end
mutual
noncomputable def exec (cf:CF) (mt:MT) (wh:WH):S->Env->Res Fl
 | .asg g t,ρ=>match g with
   |.nm i=>(ev cf mt t ρ).bind λc ρ=>.ok .nx (ρ.set i (some c))
   |.tup is=>(BA t (ev cf mt t) ρ).bind λh ρ=>Res.of ((h.cont ρ).bind λc=>K8 (.tup is) c ρ) ρ |>.bind λρ' _=>.ok .nx ρ'
 | .fq o i v,ρ=>match placeOf o with
   |some h=>if !h.E9 || i.calm then(ev cf mt v ρ).bind λv ρ=>ZP h (ev cf mt i) v ρ else .stuck
   |none=>.stuck
 |.GR i f v,ρ=>(ev cf mt v ρ).bind λv ρ=>HW mt i f v ρ
 |.expr t,ρ=>(ev cf mt t ρ).bind λ_ ρ=>.ok .nx ρ
 |.ret none,ρ=>.ok (.ret (.p .Az)) ρ
 |.ret (some t),ρ=>(ev cf mt t ρ).bind λc ρ=>.ok (.ret c) ρ
 |.ifs c a b,ρ=>(tv cf mt c ρ).bind λx ρ=>if x then execs cf mt wh a ρ else execs cf mt wh b ρ
 |.JU c b,ρ=>wh (tv cf mt c) (execs cf mt wh b) ρ
 |.CV g k its b,ρ=>if k.ok then(A9 cf mt its ρ).bind (NN k g (Bg b) (execs cf mt wh b))else .stuck
 |.brk,ρ=>.ok .brk ρ
 |.cnt,ρ=>.ok .cnt ρ
 |.pass,ρ=>.ok .nx ρ
 | .raise x t,ρ=>if mt.rs then(ev cf mt t ρ).bind λc ρ=>match c with
   |.b (.p p)=>.err x p ρ
   |_=>.stuck
   else .stuck
 | .dv b hs,ρ=>if mt.rs then match execs cf mt wh b ρ with
   |.err x p ρ'=>VD cf mt wh hs x p ρ'
   |r=>r
   else .stuck
noncomputable def execs (cf:CF) (mt:MT) (wh:WH):List S->Env->Res Fl
 |[],ρ=>.ok .nx ρ
 | s::ss,ρ=>(exec cf mt wh s ρ).bind λf ρ=>match f with
   |.nx=>execs cf mt wh ss ρ
   |f=>.ok f ρ
noncomputable def VD (cf:CF) (mt:MT) (wh:WH):List (List Nat×Option Nat×List S)->Nat->P->Env->Res Fl
 |[],x,p,ρ=>.err x p ρ
 |h::hs,x,p,ρ=>bF cf mt wh h x p ρ (λ_=>VD cf mt wh hs x p ρ)
noncomputable def bF (cf:CF) (mt:MT) (wh:WH):List Nat×Option Nat×List S->Nat->P->Env->(Unit->Res Fl)->Res Fl
 |(cs,o,b),x,p,ρ,els=>bG cf mt wh (o,b) cs x p ρ els
noncomputable def bG (cf:CF) (mt:MT) (wh:WH):Option Nat×List S->List Nat->Nat->P->Env->(Unit->Res Fl)->Res Fl
 | (o,b),cs,x,p,ρ,els=>if cs.contains x then match o with
     |none=>execs cf mt wh b ρ
     |some i=>(execs cf mt wh b (ρ.set i (some (.obj x [(Str.ofString "place",.p p)])))).bind λf ρ=>.ok f (ρ.set i none)
   else els ()
end
structure EB where
 np:Nat
 nl:Nat
 body:List S
 deriving Inhabited
noncomputable def D8(fi:EB)(ρ:Env):List (Option C):=(List.range fi.np).map λi=>if(Bg fi.body).contains i then none else A7 ρ i
noncomputable def Du(cf:CF)(mt:MT)(wh:WH)(fi:EB)(args:List C):CR:=
 if args.length=fi.np then match execs cf mt wh fi.body (args.map some++List.replicate (fi.nl - fi.np) none)with
  |.ok .nx ρ=>.ok (.p .Az) (D8 fi ρ)
  |.ok (.ret c) ρ=>.ok c (D8 fi ρ)
  |.err x p _=>if mt.rs then .err x p else .stuck
  |_=>.stuck
 else .stuck
noncomputable def A0(fns:List EB)(mt:MT)(wh:WH):Nat->CF
 |0,_,_=>.stuck
 | k + 1,f,args=>match fns[f]? with
   |some fi=>Du (A0 fns mt wh k) mt wh fi args
   |none=>.stuck
structure Ct where
 N:List Str
 sc:Scope
 fns:List (Str×Nat)
 cls:List (Str×Nat)
 gl:List (Str×P)
 sub:List (Str×List Nat)
 df:Bool
 PM:List (Pos×Nat×EB)
 cv:Bool
noncomputable def Ha(x:Str):Bool:=!(x == ("__debug__":Str)) && !(x == ("__classdict__":Str)) && decide (x≠"__name__")
def seen:Option NameKind->Bool
 |some .local=>true
 |some .cell=>true
 |some .free=>true
 |_=>false
noncomputable def Ct.slot(ct:Ct)(x:Str):Option Nat:=if Ha x && seen (ct.sc.names.lookup x)then ct.N.idxOf? x else none
def bound(df:Bool):Option NameKind->Bool
 |some .local=>true
 |some .cell=>df
 |_=>false
noncomputable def Ct.E3(ct:Ct)(x:Str):Option Nat:=if Ha x && bound ct.df (ct.sc.names.lookup x)then ct.N.idxOf? x else none
def Ct.glob(ct:Ct)(x:Str):Bool:=Ha x && decide (ct.sc.names.lookup x=some .globalImplicit)
noncomputable def Ct.name(ct:Ct)(x:Str):Option T:=match ct.slot x with
 |some i=>some (.var i)
 | none=>if ct.glob x then(match ct.gl.lookup x with
   |some p=>some (.cst p)
   |none=>(ct.fns.lookup x).bind λn=>if n < Cg then some (.cst (.fn n))else none)else none
noncomputable def JI:List Str:=["len","list","tuple","dict","sum","all","any","sorted","abs","str","int","bool","range","enumerate","reversed","set","min","max","zip","isinstance"]
noncomputable def Ct.own(ct:Ct)(x:Str):Bool:=ct.glob x && JI.contains x && (ct.gl.lookup x).isNone && (ct.fns.lookup x).isNone && (ct.cls.lookup x).isNone
noncomputable def iK:Operator->Option O
 |.Add=>some .add| .Sub=>some .sub| .Mult=>some .mul| .Mod=>some .mod| .FloorDiv=>some .fdiv| .Pow=>some .pow
 |.BitAnd=>some .band| .RShift=>some .shr|_=>none
noncomputable def Th:CmpOp->O
 |.Eq=>.eq| .NotEq=>.ne| .Lt=>.lt| .LtE=>.le| .Gt=>.gt| .GtE=>.ge| .Is=>.is| .IsNot=>.dM| .In=>.dN| .NotIn=>.dD
def AV:T->IK×List T
 |.prim (.iter k) ts=>(k,ts)
 |t=>(.op,[t])
noncomputable def tyName(x:Str):Option Ty:=
 if x="int" then some .int else if x="bool" then some .bool else if x="str" then some .str else if x="tuple" then some .tuple
 else if x="list" then some .list else if x="dict" then some .dict else none
def PH:T->Option T
 |.prim (.iter _) _=>none
 |t=>some (.prim (.list .op) [t])
def Oi:T->Option T
 |.prim (.iter _) _=>none
 |t=>some (.prim (.tuple .op) [t])
noncomputable def Zl(x:Str)(ts:List T):Option T:=match ts with
 |[t]=>
   if x="len" then some (.prim .len [t])
   else if x="list" then PH t
   else if x="tuple" then Oi t
   else if x="all" then some (.prim .all [t])
   else if x="abs" then some (.prim .abs [t])else if x="str" then some (.prim .str [t])
   else if x="int" then some (.prim .int [t])else if x="range" then some (.prim (.iter .BC) [t])
   else if x="set" then some (.prim .Jn [t])else none
 |[t,u]=>if x="min" then some (.prim .min [t,u])else none
 |[t,u,v]=>if x="range" then some (.prim (.iter .BC) [t,u,v])else none
 |_=>none
noncomputable def setOf(ct:Ct)(args:List Expr)(ts:List T):Option T:=match args,ts with
 |[.Call (.Name y _) [_] [] _],[.prim .Jn [t]]=>if decide (y="set") && ct.own y then some t else none
 |_,_=>none
noncomputable def Um(ct:Ct)(x:Str)(args:List Expr)(ts:List T):Option T:=if x="len" then(match setOf ct args ts with
 |some t=>some (.prim .Dz [t])
 |none=>Zl x ts)else Zl x ts
noncomputable def gy(m:Str)(o:T)(ts:List T):Option T:=match ts with
 |[]=>if m="pop" then some (.ES .pop o [])else none
 |[t]=>if m="append" then some (.ES .append o [t])else if m="extend" then some (.ES .extend o [t])else none
 |[t,u]=>if m="startswith" then(if o.calm && t.calm && u.calm then some (.prim .sw [o,t,u])else none)else none
 |_=>none
noncomputable def NG(ct:Ct):List Expr->Option (List Nat)
 |[]=>some []
 |.Name x _::es=>(ct.E3 x).bind λi=>(NG ct es).map λis=>i::is
 |_::_=>none
noncomputable def Vt(ct:Ct):Expr->Option Tg
 |.Name x _=>(ct.E3 x).map .nm
 |.Tuple es _ _=>(NG ct es).map .tup
 |_=>none
noncomputable def Vw(ct:Ct)(x:Str)(ts:List T):Option T:=match ct.fns.lookup x with
 |some f=>some (.call f ts)
 |none=>(ct.cls.lookup x).map λc=>.make c ts
noncomputable def Ct.block(ct:Ct)(sc:Scope):Ct×List (Option Nat):=
 let own:=(sc.names.filter λq=>q.2 == .local).map (·.1)
 let free:=(sc.names.filter λq=>q.2 == .free).map (·.1)
 ({ct with N:=own++free,sc:=sc,df:=false,PM:=[]},own.map (λ_=>none)++free.map λx=>ct.N.idxOf? x)
noncomputable def QK(N0:List Str)(sc0:Scope)(N:List Str)(scope:Scope)(fr:List (Option Nat)):Bool:=
 (scope.kind == .function) && scope.names.all (λy=>y.2 != .cell) && scope.names.all (λy=>y.2 != .local || scope.names.lookup y.1 == some .local) &&
 scope.names.all (λy=>y.2 != .free || sc0.names.lookup y.1 == some .cell || sc0.names.lookup y.1 == some .free) && (fr.length == N.length) &&
 (List.range fr.length).all λj=>match fr[j]? with
  |some (some i)=>(N[j]? == N0[i]?) && (match N[j]? with|some x=>scope.names.lookup x == some .free|none=>false)
  |_=>true
noncomputable def kM(m:Str)(o:T)(ts:List T):Option T:=match gy m o ts with
 |some z=>some z
 |none=>some (.Ag m o ts)
noncomputable def O8(m:Str)(n:Nat)(apos pos:Pos):Bool:=(apos.endLine == pos.line) && decide (n < 29) && decide (m≠Str.ofString "__init__")
def ME(x y:T):T:=match x with
 |.fld i f=>if y.calm then .fld i f else .prim .id [.fld i f]
 |x=>x
noncomputable def B8(sc:Scope):List Str:=Str.ofString "self"::((sc.names.filter λq=>q.2 == .free).map (·.1)).filter λx=>decide (x≠Str.ofString "self")
noncomputable def Ir(sc:Scope)(fn cl:List (Str×Nat))(gl:List (Str×P)):Ct:=⟨B8 sc,sc,fn,cl,gl,[],false,[],false⟩
noncomputable def MB(sc0 sc:Scope):Bool:=(sc.kind == .function) && !sc.isCoroutine && !sc.isGenerator && sc.names.all (λy=>y.2 != .cell && y.2 != .local) &&
 sc.names.all (λy=>y.2 != .free || sc0.names.lookup y.1 == some .cell || sc0.names.lookup y.1 == some .free) && decide ((B8 sc).Nodup) && (B8 sc).all λx=>sc.names.lookup x == some .free
noncomputable def Gq(n:Nat)(t:T)(fi:EB):Bool:=match fi.body with
 |[.ret (some u)]=>T.same t u && decide (fi.np=n) && decide (fi.nl=n)
 |_=>false
noncomputable def Hg(ct:Ct)(sc:Scope):Option (Option Nat):=match((sc.names.filter λq=>q.2 == .free).map (·.1)).filter λx=>decide (x≠Str.ofString "self")with
 |[]=>some none
 |[x]=>(ct.slot x).map some
 |_=>none
noncomputable def noArgs(a:Arguments):Bool:=a.posonlyargs.isEmpty && a.args.isEmpty && a.vararg.isNone && a.kwonlyargs.isEmpty && a.kwarg.isNone && a.defaults.isEmpty && a.kw_defaults.isEmpty
mutual
noncomputable def kE (ct:Ct):Expr->Option T
 | .Constant c _ _=>match c with
   |.none=>some (.cst .Az)
   |.bool b=>some (.cst (.bl b))
   |.int i=>some (.cst (.int i))
   |.str x=>some (.cst (.str x))
   |_=>none
 |.Name x _=>ct.name x
 |.Attribute (.Name x _) f _=>(ct.slot x).map λi=>.fld i f
 |.Tuple es _ _=>(L9 ct es).map .tup
 |.List es _=>(L9 ct es).map .lst
 |.BinOp a op b _=>(iK op).bind λo=>(kE ct a).bind λx=>(kE ct b).map λy=>.prim o [ME x y,y]
 |.UnaryOp .Not a _=>(kE ct a).map .not
 |.UnaryOp .USub a _=>(kE ct a).map λx=>.prim .neg [x]
 |.BoolOp op es _=>if 2<=es.length then kB ct op es else none
 |.Compare a [op] [b] _=>(kE ct a).bind λx=>(kE ct b).map λy=>.prim (Th op) [ME x y,y]
 | .Compare a [o1,o2] [b,c] _=>(kE ct a).bind λx=>(kE ct b).bind λy=>(kE ct c).bind λz=>match z with
   |.cst p=>if Fm p then some (.prim (.chain (Th o1) (Th o2)) [x,y,.cst p])else none
   |_=>none
 |.Subscript v (.Slice lo hi none _) _=>(kE ct v).bind λx=>(kO ct lo).bind λl=>(kO ct hi).map λh=>.prim (.D4 (!l.isEmpty) (!h.isEmpty)) (x::(l++h))
 |.Subscript v i _=>(kE ct v).bind λx=>(kE ct i).map λy=>.prim .idx [x,y]
 |.ListComp elt [⟨tg,it,ifs,ia⟩] sc _=>(kE ct it).bind λx=>(Vt (ct.block sc).1 tg).bind λg=>(L9 (ct.block sc).1 ifs).bind λcs=>(kE (ct.block sc).1 elt).bind λe=>
  if decide (ia=0) && decide (cs.length<=1) && QK ct.N ct.sc (ct.block sc).1.N sc (ct.block sc).2 && decide ((ct.block sc).1.N.Nodup)then some (.comp g (AV x).1 (AV x).2 cs e (ct.block sc).2)else none
 |.Call (.Name x _) args [] _=>
   if ct.own x then(if x="isinstance" then(match args with
    |[a,.Name y _]=>(kE ct a).bind λt=>(if ct.own y then tyName y else(ct.sub.lookup y).map .cls).map λk=>.prim (.Gr k) [t]
    |_=>none)else(L9 ct args).bind (Um ct x args))
   else(L9 ct args).bind λts=>match ct.slot x with
    |some i=>if ts.isEmpty then(if ct.cv then some (.Dl i)else none)else some (.Ew i ts)
    |none=>if ct.glob x then Vw ct x ts else none
 |.Call (.Attribute (.Name x _) m apos) [.Lambda a b sc lp] [] pos=>if O8 m 1 apos pos && noArgs a && MB ct.sc sc && ct.df && decide (x=Str.ofString "self")then(ct.slot x).bind λi=>(ct.PM.lookup lp).bind λq=>(Hg ct sc).bind λc=>
  (kE (Ir sc ct.fns ct.cls ct.gl) b).bind λt=>if Gq (B8 sc).length t q.2 && decide (q.1 < 1000)then some (.CD m i q.1 c)else none else none
 |.Call (.Attribute (.Name x _) m apos) args [] pos=>if O8 m args.length apos pos then(ct.slot x).bind λi=>(L9 ct args).bind (kM m (.var i))else none
 |.Call (.Attribute (.Attribute (.Name x _) f _) m apos) args [] pos=>if O8 m args.length apos pos then(ct.slot x).bind λi=>(L9 ct args).bind (kM m (.fld i f))else none
 |.Call (.Attribute (.Constant (.str z) _ _) m apos) [a] [] pos=>if m="join"/\O8 m 1 apos pos=true then(kE ct a).map λt=>.prim (.join z) [t]else none
 |.Call (.Attribute (.Call _ _ _ _) _ _) _ [] _=>some (.prim .Jn [])
 |_=>none
noncomputable def L9 (ct:Ct):List Expr->Option (List T)
 |[]=>some []
 |e::es=>(kE ct e).bind λt=>(L9 ct es).map λts=>t::ts
noncomputable def kO (ct:Ct):Option Expr->Option (List T)
 |none=>some []
 |some e=>(kE ct e).map λt=>[t]
noncomputable def kB (ct:Ct) (op:PySem.BoolOp):List Expr->Option T
 |[]=>none
 |[e]=>kE ct e
 |e::es=>(kE ct e).bind λx=>(kB ct op es).map λy=>match op with| .And=>.and x y| .Or=>.or x y
end
def LO:Expr->Bool
 |.Tuple _ _ _=>true
 |_=>false
noncomputable def Be:Expr->Bool
 |.ListComp _ _ _ _=>true
 |.SetComp _ _ _ _=>true
 |.DictComp _ _ _ _ _=>true
 |_=>false
mutual
noncomputable def kS (ct:Ct):Stmt->Option S
 | .Assign [tg] e _=>(kE ct e).bind λt=>match tg with
   |.Name x _=>(ct.E3 x).map λi=>.asg (.nm i) t
   |.Tuple es k p=>if LO e then none else(Vt ct (.Tuple es k p)).map λg=>.asg g t
   |.Attribute (.Name x _) f _=>(ct.slot x).map λi=>.GR i f t
   |_=>none
 |.Expr (.Constant (.str _) _ _) _=>some .pass
 |.Expr e _=>if Be e then none else(kE ct e).map .expr
 |.Return none _=>some (.ret none)
 |.Return (some e) _=>(kE ct e).map λt=>.ret (some t)
 |.If c a b _=>(kE ct c).bind λt=>(NH ct a).bind λx=>(NH ct b).map λy=>.ifs t x y
 |.While c b [] _=>(kE ct c).bind λt=>(NH ct b).map λx=>.JU t x
 |.For tg it b [] _=>(Vt ct tg).bind λg=>(kE ct it).bind λt=>(NH ct b).map λx=>.CV g (AV t).1 (AV t).2 x
 |.Break _=>some .brk
 |.Continue _=>some .cnt
 |.Pass _=>some .pass
 |.Raise (some (.Call (.Name x _) [a] [] _)) _ _=>(ct.cls.lookup x).bind λc=>(kE ct a).map λt=>.raise c t
 |.Try b hs [] [] _=>(NH ct b).bind λx=>(ik ct hs).map λy=>.dv x y
 |_=>none
noncomputable def NH (ct:Ct):List Stmt->Option (List S)
 |[]=>some []
 |s::ss=>(kS ct s).bind λt=>(NH ct ss).map λts=>t::ts
noncomputable def ik (ct:Ct):List ExceptHandler->Option (List (List Nat×Option Nat×List S))
 |[]=>some []
 |h::hs=>(kH ct h).bind λt=>(ik ct hs).map λts=>t::ts
noncomputable def kH (ct:Ct):ExceptHandler->Option (List Nat×Option Nat×List S)
 | .ExceptHandler (some (.Name x _)) n b _=>(ct.sub.lookup x).bind λcs=>(NH ct b).bind λy=>match n with
   |none=>some (cs,none,y)
   |some v=>(ct.E3 v).map λi=>(cs,some i,y)
 |_=>none
end
mutual
noncomputable def Qu:Expr->Option P
 | .Constant c _ _=>match c with
   |.none=>some .Az
   |.bool b=>some (.bl b)
   |.int i=>some (.int i)
   |.str x=>some (.str x)
   |_=>none
 |.Tuple es _ _=>(ML es).map .tup
 |_=>none
noncomputable def ML:List Expr->Option (List P)
 |[]=>some []
 |e::es=>(Qu e).bind λp=>(ML es).map λps=>p::ps
end
def cz:Stmt->Str
 |.FunctionDef n ..=>n
 |_=>⟨#[]⟩
def Jz:Stmt->Scope
 |.FunctionDef _ _ _ _ _ _ sc ..=>sc
 |_=>⟨.module,[],false,false,[]⟩
def MJ:Stmt->List Stmt
 |.FunctionDef _ _ b ..=>b
 |_=>[]
def Ea:Stmt->List Str
 |.FunctionDef _ a ..=>a.args.map (·.arg)
 |_=>[]
def bB:Stmt->Bool
 |.FunctionDef ..=>true
 |_=>false
noncomputable def MN:List Stmt->List (Str×List Str×List Stmt)
 |[]=>[]
 |.ClassDef n bs _ b .. ::r=>(n,bs.filterMap (λ(e:Expr)=>match e with| .Name x _=>some x|_=>none),b.filter bB)::MN r
 |_::r=>MN r
noncomputable def XF:List Stmt->List (Str×P)
 |[]=>[]
 | .Assign [.Name x _] e _::r=>match Qu e with
   |some p=>(x,p)::XF r
   |none=>XF r
 |_::r=>XF r
noncomputable def namesOf(st:Stmt):List Str:=
 let ps:=Ea st
 ps++((Jz st).names.filter λq=>(q.2 == .local || q.2 == .cell) && !ps.contains q.1).map (·.1)
noncomputable def U5(st:Stmt)(fn cl:List (Str×Nat))(gl:List (Str×P))(sub:List (Str×List Nat))(lm:List (Pos×Nat×EB)):Ct:=⟨namesOf st,Jz st,fn,cl,gl,sub,true,lm,decide (cz st=Str.ofString "few")⟩
noncomputable def gi(e:Expr)(sc:Scope)(fn cl:List (Str×Nat))(gl:List (Str×P)):Option EB:=(kE (Ir sc fn cl gl) e).map λt=>⟨(B8 sc).length,(B8 sc).length,[.ret (some t)]⟩
noncomputable def bw:Expr->List (Pos×Expr×Scope)
 |.Call (.Attribute (.Name _ _) _ _) [.Lambda _ b sc p] _ _=>[(p,b,sc)]
 |_=>[]
def gh:Stmt->List (Pos×Expr×Scope)
 |.Assign _ e _=>bw e
 |.Return (some e) _=>bw e
 |_=>[]
def dO(st:Stmt)(ct:Ct):Option EB:=(NH ct (MJ st)).map λb=>⟨(Ea st).length,ct.N.length,b⟩
end Iv
namespace Iv
open PySem L2
structure Wd where
 K:PySem.W.Frag
 w:World
 C3:Nat->Addr
 Cb:Nat->Addr
 ok:Nat->Bool
 Nd:Addr
 tabs:List (Addr×Pos×Str)
 Zi:List (Addr×Str)
mutual
noncomputable def Ay (W:Wd) (H:Hp):P->V->Prop
 |.Az,v=>v= .Az
 |.bl b,v=>v= .bl b
 |.int i,v=>v= .int i
 |.str x,v=>v= .str x
 |.fn i,v=>v= .ref (W.Cb i)/\(i < Cg\/W.ok i=true)
 |.tup ps,v=>∃a vs,v= .ref a/\Ey W.K H a vs/\A2 W H ps vs
noncomputable def A2 (W:Wd) (H:Hp):List P->List V->Prop
 |[],vs=>vs=[]
 |p::ps,vs=>∃v r,vs=v::r/\Ay W H p v/\A2 W H ps r
end
def AK(H H':Hp):Prop:=∀a,(∀xs,H a=some (.tup xs)->H' a=some (.tup xs))/\∀o u,H a=some (.La o u)->H' a=some (.La o u)
variable{H H1 H2:Hp}
theorem AK.trans(a:AK H H1)(b:AK H1 H2):AK H H2:=λc=>⟨λxs h=>(b c).1 xs ((a c).1 xs h),λo u h=>(b c).2 o u ((a c).2 o u h)⟩
variable{H':Hp}
theorem AK.of(h:BI H H'):AK H H':=λa=>⟨λ_ q=>h a _ q,λ_ _ q=>h a _ q⟩
variable{xs:List V}
theorem AK.iI{K:PySem.W.Frag}(k:AK H H')(h:Ey K H a xs):Ey K H' a xs:=by
 rcases h with(h|⟨o,h⟩)|h
 .exact .inl (.inl ((k a).1 _ h))
 .exact .inl (.inr ⟨o,(k a).2 _ _ h⟩)
 .exact .inr h
mutual
theorem Ay.mono {W:Wd} {H H':Hp} (k:AK H H'):∀{p:P} {v:V},Ay W H p v->Ay W H' p v
 |.Az,_,h=>h
 |.bl _,_,h=>h
 |.int _,_,h=>h
 |.str _,_,h=>h
 |.fn _,_,h=>h
 | .tup ps,v,h=>by
   unfold Ay at h ⊢;obtain⟨a,vs,e,h1,h2⟩:=h;exact⟨a,vs,e,k.iI h1,A2.mono k h2⟩
theorem A2.mono {W:Wd} {H H':Hp} (k:AK H H'):∀{ps:List P} {vs:List V},A2 W H ps vs->A2 W H' ps vs
 |[],_,h=>h
 | p::ps,vs,h=>by
   unfold A2 at h ⊢;obtain⟨v,r,e,h1,h2⟩:=h;exact⟨v,r,e,Ay.mono k h1,A2.mono k h2⟩
end
variable{W:Wd}
theorem A2.nil:A2 W H [] []:=by unfold A2;rfl
theorem A2.cons{W:Wd}{H:Hp}{ps:List P}{vs:List V}(h:Ay W H p v)(t:A2 W H ps vs):A2 W H (p::ps) (v::vs):=by unfold A2;exact⟨v,vs,rfl,h,t⟩
variable{vs:List V}
theorem A2.BN{p:P}{v:V}{ps:List P}(h:A2 W H (p::ps) (v::vs)):Ay W H p v/\A2 W H ps vs:=by
 unfold A2 at h;obtain⟨_,_,e,h1,h2⟩:=h;cases e;exact⟨h1,h2⟩
theorem A2.length:∀{ps:List P} {vs:List V},A2 W H ps vs->vs.length=ps.length
 | [],vs,h=>by
   unfold A2 at h;rw[h];rfl
 | p::ps,vs,h=>by
   unfold A2 at h;obtain⟨v,r,e,_,h2⟩:=h;rw[e,lC,lC,A2.length h2]
theorem A2.append{qs:List P}{ws:List V}(k:A2 W H qs ws):∀{ps:List P} {vs:List V},A2 W H ps vs->A2 W H (ps++qs) (vs++ws)
 | [],vs,h=>by
   unfold A2 at h;rw[h];exact k
 | p::ps,vs,h=>by
   unfold A2 at h;obtain⟨v,r,e,h1,h2⟩:=h;rw[e];exact .cons h1 (A2.append k h2)
theorem A2.get:∀{ps:List P} {vs:List V} {i:Nat} {p:P},A2 W H ps vs->ps[i]? =some p->∃v,vs[i]? =some v/\Ay W H p v
 |[],vs,i,p,_,e=>by simp at e
 | q ::ps,vs,i,p,h,e=>by
   unfold A2 at h;obtain⟨v,r,e',h1,h2⟩:=h;subst e';cases i with
   |zero=>
     simp at e;subst e;exact⟨v,rfl,h1⟩
   |succ i=>
     obtain⟨u,g1,g2⟩:=A2.get (i:=i) h2 (by simpa using e);exact⟨u,by simpa using g1,g2⟩
theorem A2.get':∀{ps:List P} {vs:List V} {i:Nat} {v:V},A2 W H ps vs->vs[i]? =some v->∃p,ps[i]? =some p/\Ay W H p v
 | [],vs,i,p,h,e=>by
   unfold A2 at h;rw[h]at e;simp at e
 | q ::ps,vs,i,p,h,e=>by
   unfold A2 at h;obtain⟨v,r,e',h1,h2⟩:=h;subst e';cases i with
   |zero=>
     simp at e;subst e;exact⟨q,rfl,h1⟩
   |succ i=>
     obtain⟨u,g1,g2⟩:=A2.get' (i:=i) h2 (by simpa using e);exact⟨u,by simpa using g1,g2⟩
theorem A2.drop{ps:List P}(h:A2 W H ps vs)(n:Nat):A2 W H (ps.drop n) (vs.drop n):=by
 induction n generalizing ps vs with
 |zero=>exact h
 |succ n ih=>
   cases ps with
   |nil=>unfold A2 at h;rw[h];simp;exact .nil
   |cons p ps=>
     cases vs with
     |nil=>unfold A2 at h;obtain⟨_,_,e,_⟩:=h;cases e
     |cons v vs=>exact ih h.BN.2
theorem A2.take{ps:List P}(h:A2 W H ps vs)(n:Nat):A2 W H (ps.take n) (vs.take n):=by
 induction n generalizing ps vs with
 |zero=>simp;exact .nil
 |succ n ih=>
   cases ps with
   |nil=>unfold A2 at h;rw[h];simp;exact .nil
   |cons p ps=>
     cases vs with
     |nil=>unfold A2 at h;obtain⟨_,_,e,_⟩:=h;cases e
     |cons v vs=>exact .cons h.BN.1 (ih h.BN.2)
mutual
noncomputable def VC (w:World):P->Int
 |.int i=>hashInt i
 |.str x=>hashStr w x
 |.tup ps=>reduceHash (Builtin.Tuple.tupleHashOf (Q7 w ps))
 |_=>0
noncomputable def Q7 (w:World):List P->List Int
 |[]=>[]
 |p::ps=>VC w p::Q7 w ps
end
noncomputable def DX(a:Addr)(es:List DictEntry):HO:=.ext λh=>∃o,h.get? a=some o/\o.ExactDict/\o.data= .dict es.toArray es.length
def MX(W:Wd)(H:Hp)(q:P×P)(e:DictEntry):Prop:=e.hash=VC W.w q.1/\(∃k,RelV k e.key/\Ay W H q.1 k)/\∃v,RelV v e.val/\Ay W H q.2 v
structure O3(W:Wd)(H:Hp)(a:Addr)(kvs:List (P×P)):Prop where
 ex:∃es:List DictEntry,H a=some (DX a es)/\Paired (MX W H) kvs es
 nd:(kvs.map (·.1)).Nodup
 ks:∀q∈kvs,keyOk q.1=true
 len:kvs.length<=big
 sm:(a == sysModules)=false
theorem MX.mono(k:AK H H'){q:P×P}{e:DictEntry}(h:MX W H q e):MX W H' q e:=
 ⟨h.1,let⟨v,a,b⟩:=h.2.1;⟨v,a,b.mono k⟩,let⟨v,a,b⟩:=h.2.2;⟨v,a,b.mono k⟩⟩
theorem O3.mono{kvs:List (P×P)}(k:AK H H')(h:O3 W H a kvs)(ha:H' a=H a):O3 W H' a kvs:=
 ⟨let⟨es,e,r⟩:=h.ex;⟨es,by rw[ha];exact e,Paired.Xn r λ_ _ z=>z.mono k⟩,h.nd,h.ks,h.len,h.sm⟩
def Uu(K:PySem.W.Frag)(H:Hp)(a:Addr)(xs:List V):Prop:=(∃o,H a=some (.La o (.lst xs)))\/
    ∃(o:Obj) (its:Array Value) (n:Nat),K.lookup a=some o/\o.cls= .type "list"/\o.dict=none/\o.data= .seq its n/\its.size<=sizeLine/\Vals xs its.toList
theorem Uu.mono{K:PySem.W.Frag}(k:AK H H')(h:Uu K H a xs):Uu K H' a xs:=by
 rcases h with⟨o,h⟩|h
 .exact .inl ⟨o,(k a).2 _ _ h⟩
 .exact .inr h
theorem Uu.sq{K:PySem.W.Frag}(h:Uu K H a xs):E2 K H a xs:=by
 rcases h with⟨o,h⟩|h
 .exact .inl (.inr ⟨o,h⟩)
 .exact .inr h
noncomputable def Bt(W:Wd)(H:Hp):B->V->List Addr->Prop
 |.p x,v,o=>Ay W H x v/\o=[]
 |.ro ps,v,o=>(∃a vs,v= .ref a/\Uu W.K H a vs/\A2 W H ps vs)/\o=[]
 |.lst ps,v,o=>∃a vs,v= .ref a/\H a=some (.lst vs)/\A2 W H ps vs/\o=[a]
 |.Cv kvs,v,o=>∃a,v= .ref a/\O3 W H a kvs/\o=[a]
noncomputable def Ba(W:Wd)(H:Hp):List (Str×B)->List (Str×V)->List Addr->Prop
 |[],vs,o=>vs=[]/\o=[]
 |(f,b)::fs,vs,o=>∃v r o1 o2,vs=(f,v)::r/\Bt W H b v o1/\Ba W H fs r o2/\o=o1++o2
def Uw(W:Wd)(c:Nat)(a:Addr)(fs:List (Str×B)):Prop:=JT W.K (W.C3 c)/\(∀q∈fs,By W.K (W.C3 c) q.1)/\(1000<=c->a=W.Nd)
theorem Kk{f:Str}{b:B}:∀{fs:List (Str×B)} {q:Str×B},q∈Bf f b fs->q.1=f\/∃q'∈fs,q'.1=q.1
 | [],q,h=>by
   have h:q∈[(f,b)]:=h;rw[mE h];exact .inl rfl
 | (g, c)::fs,q,h=>by
   unfold Bf at h;split at h
   .rename_i hg;rcases mK h with z|z
    .rw[z];exact .inl hg
    .exact .inr ⟨q,mC z,rfl⟩
   .rcases mK h with z|z
    .rw[z];exact .inr ⟨(g,c),mS,rfl⟩
    .rcases Kk z with y|⟨q',y1,y2⟩
     .exact .inl y
     .exact .inr ⟨q',mC y1,y2⟩
theorem Uw.put{c:Nat}{fs:List (Str×B)}(h:Uw W c a fs)(n:By W.K (W.C3 c) f):Uw W c a (Bf f b fs):=⟨h.1,λq hq=>by
 rcases Kk hq with z|⟨q',z1,z2⟩
 .rw[z];exact n
 .rw[<-z2];exact h.2.1 q' z1,h.2.2⟩
noncomputable def B3(W:Wd)(H:Hp):C->V->List Addr->Prop
 |.b x,v,o=>Bt W H x v o
 |.obj c fs,v,o=>∃a dx vs os,v= .ref a/\H a=some (.ins (W.C3 c) dx vs)/\Ba W H fs vs os/\o=a::os/\Uw W c a fs
def Mu(x:HO):Prop:=(∀xs,x≠.tup xs)/\∀o u,x≠.La o u
theorem Bt.own(h:Bt W H b v o):∀a∈o,∃x,H a=some x/\Mu x:=by
 cases b with
 |p x=>rw[h.2];intro a ha;cases ha
 |ro x=>rw[h.2];intro a ha;cases ha
 |lst ps=>
   obtain⟨a,vs,e,ha,_,rfl⟩:=h;intro b hb;rw[mE hb];exact⟨_,ha,λ_ z=>HO.noConfusion z,λ_ _ z=>HO.noConfusion z⟩
 |Cv kvs=>
   obtain⟨a,e,ha,rfl⟩:=h;intro b hb;rw[mE hb];obtain⟨es,h1,_⟩:=ha.ex;exact⟨_,h1,λ_ z=>HO.noConfusion z,λ_ _ z=>HO.noConfusion z⟩
theorem Ba.own:∀{fs:List (Str×B)} {vs:List (Str×V)} {o:List Addr},Ba W H fs vs o->∀a∈o,∃x,H a=some x/\Mu x
 |[],_,_,h=>by rw[h.2];intro a ha;cases ha
 | (f,b)::fs,_,_,⟨v,r,o1,o2,_,h1,h2,e⟩=>by
   rw[e];intro a ha;rcases mem_append.mp ha with z|z
   .exact h1.own a z
   .exact Ba.own h2 a z
theorem B3.own(h:B3 W H c v o):∀a∈o,∃x,H a=some x/\Mu x:=by
 cases c with
 |b x=>exact Bt.own h
 |obj c fs=>
   obtain⟨a,dx,vs,os,e,ha,hf,rfl,_⟩:=h;intro b hb;rcases mK hb with z|z
   .rw[z];exact⟨_,ha,λ_ z=>HO.noConfusion z,λ_ _ z=>HO.noConfusion z⟩
   .exact hf.own b z
def Ii:HO->Bool
 |.JQ _=>true
 |_=>false
def JP(os:List Addr)(H H':Hp):Prop:=∀b x,H b=some x->b∉os->Ii x=false->H' b=some x
variable{os:List Addr}
theorem JP.keep(h:JP os H H')(m:∀a∈os,∃x,H a=some x/\Mu x):AK H H':=λa=>by
 refine⟨λxs e=>h a _ e (λz=>?_) rfl,λo u e=>h a _ e (λz=>?_) rfl⟩
 .obtain⟨x,e',m1,_⟩:=m a z;rw[e]at e';exact m1 xs (Option.some.inj e').symm
 .obtain⟨x,e',_,m2⟩:=m a z;rw[e]at e';exact m2 o u (Option.some.inj e').symm
theorem JP.refl(os:List Addr)(H:Hp):JP os H H:=λ_ _ h _ _=>h
theorem JP.of(os:List Addr)(h:BI H H'):JP os H H':=λb x e _ _=>h b x e
theorem Bt.frame(h:Bt W H b v o)(k:AK H H')(f:JP os H H')(d:∀a∈o,a∉os):Bt W H' b v o:=by
 cases b with
 |p x=>exact⟨h.1.mono k,h.2⟩
 |ro x=>
   obtain⟨⟨a,vs,e,h1,h2⟩,h3⟩:=h;exact⟨⟨a,vs,e,h1.mono k,h2.mono k⟩,h3⟩
 |lst ps=>
   obtain⟨a,vs,e,ha,hp,rfl⟩:=h;exact⟨a,vs,e,f _ _ ha (d a mS) rfl,hp.mono k,rfl⟩
 |Cv kvs=>
   obtain⟨a,e,ha,rfl⟩:=h;obtain⟨es,h1,_⟩:=ha.ex;exact⟨a,e,ha.mono k (by rw[h1];exact f _ _ h1 (d a mS) rfl),rfl⟩
theorem Ba.frame(k:AK H H')(f:JP os H H'):∀{fs:List (Str×B)} {vs:List (Str×V)} {o:List Addr},Ba W H fs vs o->(∀a∈o,a∉os)->Ba W H' fs vs o
 |[],_,_,h,_=>h
 | (g,b)::fs,_,_,⟨v,r,o1,o2,e1,h1,h2,e⟩,d=>by
   subst e;exact⟨v,r,o1,o2,e1,h1.frame k f (λa ha=>d a (mL ha)),Ba.frame k f h2 (λa ha=>d a (mR ha)),rfl⟩
theorem B3.frame(h:B3 W H c v o)(k:AK H H')(f:JP os H H')(d:∀a∈o,a∉os):B3 W H' c v o:=by
 cases c with
 |b x=>exact Bt.frame h k f d
 |obj c fs=>
   obtain⟨a,dx,vs,os',e,ha,hf,rfl,Ak⟩:=h;exact⟨a,dx,vs,os',e,f _ _ ha (d a mS) rfl,hf.frame k f (λb hb=>d b (mC hb)),rfl,Ak⟩
theorem B3.cp{c:C}(h:B3 W H c v o)(hc:c.cp=true):o=[]:=by
 cases c with
 |obj c fs=>cases hc
 |b x=>
   cases x with
   |p x=>exact h.2
   |ro x=>exact h.2
   |lst x=>cases hc
   |Cv x=>cases hc
def L7(H:Hp)(q:Addr×Str):Prop:=∃(oc:Obj) (u:HO) (vs:Array Value) (t:Tok),H q.1=some (.La oc u)/\oc.data= .fields vs/\vs[1]? =some (.str q.2 t)
theorem L7.keep{q:Addr×Str}(h:L7 H q)(k:AK H H'):L7 H' q:=let⟨oc,u,vs,t,e1,e2⟩:=h;⟨oc,u,vs,t,(k _).2 _ _ e1,e2⟩
def Di(W:Wd)(H:Hp):Prop:=(∀q∈W.tabs,∃ps:Array Value,H q.1=some (.JQ ps)/\TriplesOk ps.toList/\∀cv,codeAmong q.2.1 ps.toList=some cv->∃c,cv= .ref c/\L7 H (c,q.2.2))/\∀q∈W.Zi,L7 H q
theorem Di.keep(h:Di W H)(k:AK H H')(n:∀q∈W.tabs,∀ps,H q.1=some (.JQ ps)->H' q.1=some (.JQ ps)):Di W H':=
 ⟨λq hq=>
   let⟨ps,a,b,c⟩:=h.1 q hq
   ⟨ps,n q hq ps a,b,λcv e=>let⟨d,e1,e2⟩:=c cv e;⟨d,e1,e2.keep k⟩⟩,λq hq=>(h.2 q hq).keep k⟩
theorem Di.same(h:Di W H)(s:BI H H'):Di W H':=h.keep (AK.of s) λq _ ps e=>s _ _ e
theorem Di.upd{y:HO}(h:Di W H)(k:AK H (upd H a x))(ha:H a=some y)(n:Ii y=false):Di W (upd H a x):=h.keep k λq hq ps e=>by
 rw[Ab λz=>by rw[z,ha]at e;cases e;cases n];exact e
theorem Bt.nt{a:Addr}(h:Bt W H b v [a]):∃y,H a=some y/\Ii y=false:=by
 cases b with
 |p x=>cases h.2
 |ro x=>cases h.2
 |lst ps=>
   obtain⟨b,vs,e,ha,_,e2⟩:=h;cases e2;exact⟨_,ha,rfl⟩
 |Cv kvs=>
   obtain⟨b,e,ha,e2⟩:=h;cases e2;obtain⟨es,h1,_⟩:=ha.ex;exact⟨_,h1,rfl⟩
noncomputable def A5(W:Wd)(H:Hp):Env->St->List Addr->Prop
 |[],σ,os=>σ=[]/\os=[]/\Di W H
 |none::ρ,σ,os=>∃x r,σ=x::r/\A5 W H ρ r os
 |some c::ρ,σ,os=>∃v r o o2,σ=some v::r/\B3 W H c v o/\A5 W H ρ r o2/\os=o++o2
theorem A5.own:∀{ρ:Env} {σ:St} {os:List Addr},A5 W H ρ σ os->∀a∈os,∃x,H a=some x/\Mu x
 |[],_,_,h=>by rw[h.2.1];intro a ha;cases ha
 |none::ρ,_,_,⟨x,r,_,h⟩=>A5.own h
 | some c::ρ,_,_,⟨v,r,o1,o2,_,h1,h2,e⟩=>by
   rw[e];intro a ha;rcases mem_append.mp ha with z|z
   .exact h1.own a z
   .exact A5.own h2 a z
theorem A5.length:∀{ρ:Env} {σ:St} {os:List Addr},A5 W H ρ σ os->σ.length=ρ.length
 |[],_,_,h=>by rw[h.1];rfl
 |none::ρ,_,_,⟨x,r,e,h⟩=>by rw[e,lC,lC,A5.length h]
 |some c::ρ,_,_,⟨v,r,o1,o2,e,h1,h2,_⟩=>by rw[e,lC,lC,A5.length h2]
theorem A5.tb:∀{ρ:Env} {σ:St} {os:List Addr},A5 W H ρ σ os->Di W H
 |[],_,_,h=>h.2.2
 |none::_,_,_,⟨_,_,_,h⟩=>A5.tb h
 |some _::_,_,_,⟨_,_,_,_,_,_,h,_⟩=>A5.tb h
theorem A5.frame(tb:Di W H')(k:AK H H')(f:JP os H H'):∀{ρ:Env} {σ:St} {o:List Addr},A5 W H ρ σ o->(∀a∈o,a∉os)->A5 W H' ρ σ o
 |[],_,_,h,_=>⟨h.1,h.2.1,tb⟩
 |none::ρ,_,_,⟨x,r,e,h⟩,d=>⟨x,r,e,A5.frame tb k f h d⟩
 | some c::ρ,_,_,⟨v,r,o1,o2,e1,h1,h2,e⟩,d=>by
   subst e;exact⟨v,r,o1,o2,e1,h1.frame k f (λa ha=>d a (mL ha)),A5.frame tb k f h2 (λa ha=>d a (mR ha)),rfl⟩
theorem A5.same{σ:St}(h:A5 W H ρ σ os)(s:BI H H'):A5 W H' ρ σ os:=A5.frame (h.tb.same s) (AK.of s) (JP.of (os:=[]) s) h (λ_ _ z=>by cases z)
theorem DR(x:Option C)(ρ:Env)(i:Nat):A7 (x::ρ) (i+1)=A7 ρ i:=rfl
theorem Il(x:Option C)(ρ:Env):A7 (x::ρ) 0=x:=rfl
theorem A5.take:∀{ρ:Env} {σ:St} {os:List Addr} {i:Nat} {c:C},A5 W H ρ σ os->A7 ρ i=some c->
 ∃v o os',σ[i]? =some (some v)/\B3 W H c v o/\A5 W H (ρ.set i none) σ os'/\(o++os').Perm os
 |[],_,_,i,c,_,e=>by simp[A7]at e
 | x::ρ,σ,os,0,c,h,e=>by
   rw[Il]at e;subst e;obtain⟨v,r,o,o2,e1,h1,h2,e2⟩:=h;subst e1 e2;exact⟨v,o,o2,rfl,h1,⟨some v,r,rfl,h2⟩,.refl _⟩
 | none::ρ,σ,os,i + 1,c,⟨x,r,e1,h⟩,e=>by
   rw[DR]at e;subst e1;obtain⟨v,o,os',g1,g2,g3,g4⟩:=A5.take h e;exact⟨v,o,os',by simpa using g1,g2,⟨x,r,rfl,g3⟩,g4⟩
 | some d::ρ,σ,os,i + 1,c,⟨u,r,o1,o2,e1,h1,h2,e2⟩,e=>by
   rw[DR]at e;subst e1 e2;obtain⟨v,o,os',g1,g2,g3,g4⟩:=A5.take h2 e;refine⟨v,o,o1++os',by simpa using g1,g2,⟨u,r,o1,os',rfl,h1,g3,rfl⟩,?_⟩;refine List.Perm.trans ?_ (g4.append_left o1);rw[<-append_assoc,<-append_assoc];exact perm_append_comm.append_right os'
theorem A5.get{σ:St}{i:Nat}{c:C}(h:A5 W H ρ σ os)(e:A7 ρ i=some c):∃v o,σ[i]? =some (some v)/\B3 W H c v o/\∀a∈o,a∈os:=by
 obtain⟨v,o,os',g1,g2,g3,g4⟩:=h.take e;exact⟨v,o,g1,g2,λa ha=>g4.subset (mL ha)⟩
variable{ρ:Env}
theorem A5.drop{σ:St}(h:A5 W H ρ σ os)(i:Nat):∃os',A5 W H (ρ.set i none) σ os'/\∃o,(o++os').Perm os:=by
 cases e:A7 ρ i with
 |some c=>
   obtain⟨v,o,os',_,_,g3,g4⟩:=h.take e;exact⟨os',g3,o,g4⟩
 |none=>
   have:ρ.set i none=ρ:=by
    apply ext_getElem?;intro j;rw[List.getElem?_set];split
    .rename_i hj;subst hj;split
     .rename_i hl;unfold A7 at e;rw[List.getElem?_eq_getElem hl]at e ⊢;have e:ρ[i]=none:=e;rw[e]
     .rename_i hl;rw[List.getElem?_eq_none (by lia)]
    .rfl
   rw[this];exact⟨os,h,[],.refl _⟩
theorem A5.fill(hc:B3 W H c v o):∀{ρ:Env} {σ:St} {os:List Addr} {i:Nat},A5 W H ρ σ os->A7 ρ i=none->i < ρ.length->
 ∃os',A5 W H (ρ.set i (some c)) (σ.set i (some v)) os'/\os'.Perm (o++os)
 |[],_,_,i,_,_,hi=>absurd hi (by simp)
 | x::ρ,σ,os,0,h,e,_=>by
   rw[Il]at e;subst e;obtain⟨y,r,e1,h1⟩:=h;subst e1;exact⟨o++os,⟨v,r,o,os,rfl,hc,h1,rfl⟩,.refl _⟩
 | none::ρ,σ,os,i + 1,⟨x,r,e1,h⟩,e,hi=>by
   rw[DR]at e;subst e1;obtain⟨os',g1,g2⟩:=A5.fill hc h e (by simpa using hi);exact⟨os',⟨x,_,rfl,g1⟩,g2⟩
 | some d::ρ,σ,os,i + 1,⟨u,r,o1,o2,e1,h1,h2,e2⟩,e,hi=>by
   rw[DR]at e;subst e1 e2;obtain⟨os',g1,g2⟩:=A5.fill hc h2 e (by simpa using hi);refine⟨o1++os',⟨u,_,o1,os',rfl,h1,g1,rfl⟩,?_⟩;refine List.Perm.trans (g2.append_left o1) ?_;rw[<-append_assoc,<-append_assoc];exact perm_append_comm.append_right o2
theorem Bi{i:Nat}(h:i < ρ.length):A7 (ρ.set i x) i=x:=by
 unfold A7;rw[List.getElem?_set_self h];rfl
theorem BW{i:Nat}{c:C}(h:A7 ρ i=some c):i < ρ.length:=by
 unfold A7 at h;rcases Nat.lt_or_ge i ρ.length with z|z
 .exact z
 .rw[List.getElem?_eq_none z]at h;cases h
theorem set_same{α:Type}{l:List α}{i:Nat}{x:α}(h:l[i]? =some x):l.set i x=l:=by
 apply ext_getElem?;intro j;rw[List.getElem?_set];split
 .rename_i e;subst e;split
  .exact h.symm
  .rename_i hl;rw[List.getElem?_eq_none (by lia)]
 .rfl
theorem A5.put(hc:B3 W H c v o){σ:St}{i:Nat}(h:A5 W H ρ σ os)(hi:i < ρ.length):
 ∃os' od,A5 W H (ρ.set i (some c)) (σ.set i (some v)) (os')/\(od++os').Perm (o++os):=by
 obtain⟨os1,h1,o1,p1⟩:=h.drop i;obtain⟨os2,h2,p2⟩:=A5.fill hc h1 (Bi hi) (by simpa using hi);rw[set_set]at h2;refine⟨os2,o1,h2,?_⟩;refine(p2.append_left o1).trans ?_;refine List.Perm.trans ?_ (p1.append_left o);rw[<-append_assoc,<-append_assoc];exact perm_append_comm.append_right os1
structure AR(H H':Hp)(os os':List Addr):Prop where
 but:JP os H H'
 src:∀a∈os',a∈os\/H a=none
 there:∀b x,H b=some x->∃x',H' b=some x'
theorem AR.refl(H:Hp)(os:List Addr):AR H H os os:=⟨JP.refl _ _,λ_ h=>.inl h,λ_ x h=>⟨x,h⟩⟩
variable{os1 os2:List Addr}
theorem AR.trans(a:AR H H1 os os1)(b:AR H1 H2 os1 os2):AR H H2 os os2 where
 but:=λx o e n nt=>b.but x o (a.but x o e n nt) (λz=>by
  rcases a.src x z with q|q
  .exact n q
  .rw[e]at q;cases q) nt
 src :=λx hx=>by
  rcases b.src x hx with q|q
  .exact a.src x q
  .refine .inr ?_;cases e:H x with
   |none=>rfl
   |some o=>obtain⟨o',e'⟩:=a.there x o e;rw[q]at e';cases e'
 there:=λx o e=>by
  obtain⟨o',e'⟩:=a.there x o e;exact b.there x o' e'
variable{os':List Addr}
theorem AR.of(s:BI H H')(h:∀a∈os',a∈os\/H a=none):AR H H' os os':=⟨JP.of _ s,h,λb x e=>⟨x,s b x e⟩⟩
theorem AR.sub(a:AR H H' os os')(h:∀x∈os2,x∈os'):AR H H' os os2:=⟨a.but,λx hx=>a.src x (h x hx),a.there⟩
theorem AR.more(a:AR H H' os os')(r:List Addr):AR H H' (r++os) (r++os'):=
 ⟨λb x e n nt=>a.but b x e (λz=>n (mR z)) nt,λx hx=>by
   rcases mem_append.mp hx with z|z
   .exact .inl (mL z)
   .rcases a.src x z with q|q
    .exact .inl (mR q)
    .exact .inr q,a.there⟩
theorem AR.perm{os1':List Addr}(a:AR H H' os os')(h:os.Perm os1)(h':os'.Perm os1'):AR H H' os1 os1':=
 ⟨λb x e n=>a.but b x e λz=>n (h.subset z),λx hx=>by
   rcases a.src x (h'.symm.subset hx)with q|q
   .exact .inl (h.subset q)
   .exact .inr q,a.there⟩
noncomputable def Dq(W:Wd)(H:Hp):C->V->Prop
 |.b (.p x),v=>Ay W H x v
 |.b (.ro ps),v=>∃a vs,v= .ref a/\Uu W.K H a vs/\A2 W H ps vs
 |.b (.lst ps),v=>∃a vs,v= .ref a/\H a=some (.lst vs)/\A2 W H ps vs
 |.b (.Cv kvs),v=>∃a,v= .ref a/\O3 W H a kvs
 |.obj c _,v=>∃a dx vs,v= .ref a/\H a=some (.ins (W.C3 c) dx vs)
theorem Bt.rd(h:Bt W H b v o):Dq W H (.b b) v:=by
 cases b with
 |p x=>exact h.1
 |ro ps=>obtain⟨⟨a,vs,e,h1,h2⟩,_⟩:=h;exact⟨a,vs,e,h1,h2⟩
 |lst ps=>obtain⟨a,vs,e,h1,h2,_⟩:=h;exact⟨a,vs,e,h1,h2⟩
 |Cv kvs=>obtain⟨a,e,h1,_⟩:=h;exact⟨a,e,h1⟩
theorem B3.rd(h:B3 W H c v o):Dq W H c v:=by
 cases c with
 |b b=>exact Bt.rd h
 |obj c fs=>obtain⟨a,dx,vs,os,e,h1,_⟩:=h;exact⟨a,dx,vs,e,h1⟩
theorem Ba.look:∀{fs:List (Str×B)} {vs:List (Str×V)} {o:List Addr} {b:B},Ba W H fs vs o->fs.lookup f=some b->∃v o',vs.lookup f=some v/\Bt W H b v o'/\∀a∈o',a∈o
 |[],_,_,_,_,e=>by simp at e
 | (g,c)::fs,_,_,b,⟨v,r,o1,o2,e1,h1,h2,e⟩,el=>by
   subst e1 e;rw[lookup_cons]at el ⊢;cases hg:f == g with
   |true=>
     rw[hg]at el;cases el;exact⟨v,o1,rfl,h1,λa ha=>mL ha⟩
   |false=>
     rw[hg]at el;obtain⟨u,o',g1,g2,g3⟩:=Ba.look h2 el;exact⟨u,o',g1,g2,λa ha=>mR (g3 a ha)⟩
abbrev XP:=Nat->P->St->Hp->Prop
section
variable (W:Wd)(EX:XP){α β:Type}
def C5(rep:Hp->Env->α->β->List Addr->Prop)(H:Hp)(os:List Addr)(σ:St)(r:Res α)(Q:β->Hp->Prop):Prop:=match r with
 |.stuck=>False
 |.ok a ρ'=>∀b H' o os',rep H' ρ' a b o->A5 W H' ρ' σ os'->(o++os').Nodup->AR H H' os (o++os')->Q b H'
 |.err x p ρ'=>∀H' os',A5 W H' ρ' σ os'->os'.Nodup->AR H H' os os'->EX x p σ H'
def tG(rep:St->Hp->Env->α->β->List Addr->Prop)(F:Env->Res α):St->Hp->(β->Hp->Prop)->Prop:=λσ H Q=>∃ρ os,A5 W H ρ σ os/\os.Nodup/\C5 W EX (rep σ) H os σ (F ρ) Q
def rV:St->Hp->Env->C->V->List Addr->Prop:=λ_ H _ c v o=>B3 W H c v o
def EA:St->Hp->Env->Hd->V->List Addr->Prop:=λσ H _ h v o=>match h with
 |.AI c=>B3 W H c v o
 |.slot i=>σ[i]? =some (some v)/\o=[]
 |.fld i f=>o=[]/\∃a C dx fs,σ[i]? =some (some (.ref a))/\H a=some (.ins C dx fs)/\fs.lookup f=some v
noncomputable def Bb:St->Hp->Env->List Hd->List V->List Addr->Prop
 |_,_,_,[],vs,o=>vs=[]/\o=[]
 |σ,H,ρ,h::hs,vs,o=>∃v r o1 o2,vs=v::r/\EA W σ H ρ h v o1/\Bb σ H ρ hs r o2/\o=o1++o2
def ie:St->Hp->Env->List P->List V->List Addr->Prop:=λ_ H _ ps vs o=>A2 W H ps vs/\o=[]
def rB:St->Hp->Env->Bool->Bool->List Addr->Prop:=λ_ _ _ b b' o=>b=b'/\o=[]
end
variable{W:Wd}{EX:XP}{α β γ δ:Type}
theorem AR.weak(a:AR H H' os os')(h:∀x∈os,x∈os2):AR H H' os2 os':=
 ⟨λb x e n nt=>a.but b x e (λz=>n (h b z)) nt,λx hx=>(a.src x hx).imp (h x) id,a.there⟩
variable{o1:List Addr}
theorem SR{o2:List Addr}(n1:(o1++os1).Nodup)(n2:(o2++os2).Nodup)(own:∀a∈o1,∃z,H1 a=some z)(src:∀a∈o2++os2,a∈os1\/H1 a=none):((o1++o2)++os2).Nodup:=by
 rw[append_assoc,nodup_append];have n1':=nA n1;refine⟨n1'.1,n2,λa ha b hb e=>?_⟩;subst e;rcases src a hb with z|z
 .exact n1'.2.2 a ha a z rfl
 .obtain⟨x,ex⟩:=own a ha;rw[z]at ex;cases ex
theorem C5.imp{rep:Hp->Env->α->β->List Addr->Prop}{σ:St}{r:Res α}{Q Q':β->Hp->Prop}(h:C5 W EX rep H os σ r Q)(k:∀b H',Q b H'->Q' b H'):C5 W EX rep H os σ r Q':=by
 unfold C5 at h ⊢;cases r with
 |stuck=>exact h
 |err x p ρ'=>exact h
 |ok a ρ'=>exact λb H' o os' r1 r2 r3 r4=>k _ _ (h b H' o os' r1 r2 r3 r4)
theorem Fd{σ:St}{h:Hd}{c:C}(hR:A5 W H ρ σ os)(hh:EA W σ H ρ h v o)(e:h.cont ρ=some c):Dq W H c v:=by
 cases h with
 |AI d=>
   cases e;exact B3.rd hh
 |slot i=>
   obtain⟨u,o',e1,e2,_⟩:=hR.get e;rw[hh.1]at e1;cases e1;exact e2.rd
 |fld i f=>
   obtain⟨_,a,C,dx,fs,e1,e2,e3⟩:=hh;have e:Br ρ i f=some c:=e;unfold Br at e;cases hg:A7 ρ i with
   |none=>rw[hg]at e;cases e
   |some d=>
     rw[hg]at e;cases d with
     |b x=>cases e
     |obj k fs'=>
       obtain⟨u,o',q1,q2,_⟩:=hR.get hg;rw[e1]at q1;cases q1;obtain⟨a',dx',vs,os',z,q3,q4,_⟩:=q2;cases z;rw[e2]at q3;cases q3;obtain⟨b,hb,rfl⟩:=oM e;obtain⟨v',o'',g1,g2,_⟩:=q4.look hb;rw[e3]at g1;cases g1;exact g2.rd
theorem C5.made{σ:St}{o:List Addr}{Q:VK}(h:C5 W EX (rV W σ) H os σ (.ok c ρ) Q)(hR:A5 W H ρ σ os)(hn:os.Nodup)(s:BI H H')(r:B3 W H' c v o)(ho:o.Nodup)(hf:∀a∈o,H a=none):Q v H':=by
 refine h v H' o os r (hR.same s) ?_ (.of s λa ha=>?_)
 .rw[nodup_append];refine⟨ho,hn,λa ha b hb e=>?_⟩;subst e;obtain⟨x,e,_⟩:=hR.own a hb;rw[hf a ha]at e;cases e
 .rcases mem_append.mp ha with z|z
  .exact .inr (hf a z)
  .exact .inl z
theorem C5.shift{rep:Hp->Env->α->β->List Addr->Prop}{σ:St}{r:Res α}{Q:β->Hp->Prop}(h:C5 W EX rep H os σ r Q)(f:AR H H1 os os1):C5 W EX rep H1 os1 σ r Q:=by
 unfold C5 at h ⊢;cases r with
 |stuck=>exact h
 |err x p ρ'=>exact λH' os' r1 r2 r3=>h H' os' r1 r2 (f.trans r3)
 |ok a ρ'=>exact λb H' o os' r1 r2 r3 r4=>h b H' o os' r1 r2 r3 (f.trans r4)
theorem C5.later{rep:Hp->Env->α->β->List Addr->Prop}{σ:St}{r:Res α}{Q:β->Hp->Prop}(h:C5 W EX rep H os σ r Q)(f:AR H H1 os (o1++os1)):C5 W EX rep H1 os1 σ r Q:=by
 unfold C5 at h ⊢;cases r with
 |stuck=>exact h
 |err x p ρ'=>exact λH' os' r1 r2 r3=>h H' os' r1 r2 (f.trans (r3.weak λa ha=>mR ha))
 |ok a ρ'=>exact λb H' o os' r1 r2 r3 r4=>h b H' o os' r1 r2 r3 (f.trans (r4.weak λa ha=>mR ha))
section
variable (W:Wd)
def Ez(H:Hp)(c:C)(Q:VK):Prop:=∀v H' o,BI H H'->B3 W H' c v o->o.Nodup->(∀a∈o,H a=none)->Q v H'
noncomputable def BX(g:C->C->Option C):R2:=λx y H Q=>∃c1 c2 c,Dq W H c1 x/\Dq W H c2 y/\g c1 c2=some c/\Ez W H c Q
def ak(g:C->Option C):V->Hp->VK->Prop:=λx H Q=>∃c1 c,Dq W H c1 x/\g c1=some c/\Ez W H c Q
def Cy(H:Hp):List C->List V->Prop
 |[],vs=>vs=[]
 |c::cs,vs=>∃v r,vs=v::r/\Dq W H c v/\Cy H cs r
def AL(g:List C->Option C):List V->Hp->VK->Prop:=λxs H Q=>∃cs c,Cy W H cs xs/\g cs=some c/\Ez W H c Q
end
theorem Ez.plain{Q:VK}(q:Ez W H (.p x) Q)(r:Ay W H x v):Q v H:=q v H [] (BI.refl H) ⟨r,rfl⟩ .nil (λa ha=>by cases ha)
theorem Ez.list{ps:List P}{Q:VK}(q:Ez W H (.lst ps) Q)(r:A2 W H ps vs):∀p,H p=none->Q (.ref p) (upd H p (.lst vs)):=λp hp=>by
 have s:BI H (upd H p (.lst vs)):=λb o e=>by rw[Ab (AS e hp)];exact e
 exact q (.ref p) _ [p] s ⟨p,vs,rfl,Ar,r.mono (AK.of s),rfl⟩ (by simp) (λa ha=>by rw[mE ha];exact hp)
theorem Ez.tup{ps:List P}{Q:VK}(q:Ez W H (.p (.tup ps)) Q)(r:A2 W H ps vs):∀p,H p=none->Q (.ref p) (upd H p (.tup vs)):=λp hp=>by
 have s:BI H (upd H p (.tup vs)):=λb o e=>by rw[Ab (AS e hp)];exact e
 refine q (.ref p) _ [] s ⟨?_,rfl⟩ .nil (λa ha=>by cases ha);unfold Ay;exact⟨p,vs,rfl,Ey.of Ar,r.mono (AK.of s)⟩
theorem BU:big<=sizeLine:=by decide
variable{H:Hp}{v:V}
theorem A4 :Ay W H (.int i) v↔v= .int i:=by unfold Ay;exact Iff.rfl
theorem Al{i:Bool}:Ay W H (.bl i) v↔v= .bl i:=by unfold Ay;exact Iff.rfl
theorem A6 :Ay W H (.str i) v↔v= .str i:=by unfold Ay;exact Iff.rfl
theorem Ae:Ay W H .Az v↔v= .Az:=by unfold Ay;exact Iff.rfl
theorem CB{i:Nat}:Ay W H (.fn i) v↔v= .ref (W.Cb i)/\(i < Cg\/W.ok i=true):=by unfold Ay;exact Iff.rfl
theorem Ah{ps:List P}:Ay W H (.tup ps) v↔∃a vs,v= .ref a/\Ey W.K H a vs/\A2 W H ps vs:=by unfold Ay;exact Iff.rfl
theorem Sf(h:Dq W H (.p x) v):Ay W H x v:=h
theorem Ax(h:Dq W H (.p (.int i)) v):v= .int i:=A4.mp (Sf h)
theorem OP{i:Bool}(h:Dq W H (.p (.bl i)) v):v= .bl i:=Al.mp (Sf h)
theorem BO(h:Dq W H (.p (.str i)) v):v= .str i:=A6.mp (Sf h)
theorem OO(h:Dq W H (.p .Az) v):v= .Az:=Ae.mp (Sf h)
theorem C8{ps:List P}(h:Dq W H (.p (.tup ps)) v):∃a vs,v= .ref a/\Ey W.K H a vs/\A2 W H ps vs:=Ah.mp (Sf h)
variable{X:Cx}
theorem Hb{f:Value->Value->Sem Value}{g:Int->Int->Option Int}{r:R2}(ho:C4 X f r)(hr:∀i j k H Q,g i j=some k->Q (.int k) H->r (.int i) (.int j) H Q):C4 X f (BX W (Dp g)):=by
 rintro pins s σ H x y v u Q I rx ry ⟨c1,c2,c,h1,h2,e,q⟩
 unfold Dp at e;split at e
 .rename_i i j;obtain⟨k,ek,rfl⟩:=oM e;cases Ax h1;cases Ax h2;exact ho pins s σ H _ _ v u Q I rx ry (hr i j k H Q ek (q.plain (A4.mpr rfl)))
 .cases e
theorem aT:C4 X (binaryOp .Sub) (BX W (Dp ZN)):=Hb X6 λi j k H Q e q=>by cases e;exact⟨i,j,rfl,rfl,q⟩
theorem aX:C4 X (binaryOp .Mod) (BX W (Dp Ny)):=Hb Xa λi j k H Q e q=>by
 unfold Ny at e;split at e
 .cases e;exact⟨i,j,rfl,rfl,‹_›,q⟩
 .cases e
theorem Xf:C4 X (binaryOp .FloorDiv) (BX W (Dp Io)):=Hb SJ λi j k H Q e q=>by
 unfold Io at e;split at e
 .cases e;exact⟨i,j,rfl,rfl,‹_›,q⟩
 .cases e
theorem aU:C4 X (binaryOp .Pow) (BX W (Dp Nk)):=Hb X8 λi j k H Q e q=>by
 unfold Nk at e;split at e
 .rename_i h;cases e;exact⟨i,j,rfl,rfl,⟨h.1,by lia,h.2.2⟩,q⟩
 .cases e
theorem E5{ps:List P}(h:A2 W H ps vs):vs=[]↔ps=[]:=by
 have:=h.length;constructor
 .intro z;rw[z]at this;exact length_eq_zero_iff.mp this.symm
 .intro z;rw[z]at this;exact length_eq_zero_iff.mp this
theorem aZ(hK:W.K=X.K):C4 X (binaryOp .Add) (BX W M6):=by
 rintro pins s σ H x y v u Q I rx ry ⟨c1,c2,c,h1,h2,e,q⟩
 unfold M6 at e;split at e
 .rename_i i j;cases e;cases Ax h1;cases Ax h2;exact Xc pins s σ H _ _ v u Q I rx ry ⟨i,j,rfl,rfl,q.plain (A4.mpr rfl)⟩
 .rename_i i j;split at e
  .rename_i hl;cases e;cases BO h1;cases BO h2;exact Lw pins s σ H _ _ v u Q I rx ry ⟨i,j,rfl,rfl,Nat.le_trans hl BU,q.plain (A6.mpr rfl)⟩
  .cases e
 .rename_i i j;split at e
  .cases e
  rename_i hie;unfold N3 at e;split at e
  .rename_i hl;cases e;obtain⟨a,vs,rfl,s1,r1⟩:=C8 h1;obtain⟨b,ws,rfl,s2,r2⟩:=C8 h2;rw[hK]at s1 s2;have hi:vs≠[]:=λz=>hie (by rw[(E5 r1).mp z];rfl)
   refine SK pins s σ H _ _ v u Q I rx ry ⟨a,b,vs,ws,rfl,rfl,s1,s2,hi,?_,λz=>?_,λ_=>?_⟩
   .rw[r1.length,r2.length,<-lA];exact Nat.le_trans hl BU
   .have ej:=(E5 r2).mp z;rw[ej,append_nil]at q;exact q.plain h1
   .exact q.tup (A2.append r2 r1)
  .cases e
 .rename_i i j;unfold N3 at e;split at e
  .rename_i hl;cases e;obtain⟨a,vs,rfl,s1,r1⟩:=h1;obtain⟨b,ws,rfl,s2,r2⟩:=h2;refine Xb pins s σ H _ _ v u Q I rx ry ⟨a,b,vs,ws,rfl,rfl,s1,s2,?_,q.list (A2.append r2 r1)⟩;rw[r1.length,r2.length,<-lA];exact Nat.le_trans hl BU
  .cases e
 .cases e
theorem aW:C4 X (binaryOp .Mult) (BX W mulC):=by
 rintro pins s σ H x y v u Q I rx ry ⟨c1,c2,c,h1,h2,e,q⟩
 unfold mulC at e;split at e
 .rename_i ps j;split at e
  .rename_i hl;cases e;cases Ax h2;obtain⟨a,vs,rfl,s1,r1⟩:=h1
   have rep:A2 W H (List.replicate j.toNat ps).flatten (List.replicate j.toNat vs).flatten:=by
    generalize j.toNat=n
    induction n with
    |zero=>exact .nil
    |succ n ih=>rw[replicate_succ,replicate_succ,flatten_cons,flatten_cons];exact A2.append ih r1
   refine X7 pins s σ H _ _ v u Q I rx ry ⟨a,j,vs,rfl,rfl,s1,by lia,by lia,?_,q.list rep⟩;rw[r1.length];have h3:ps.length*j.toNat<=1*1000:=Nat.mul_le_mul hl.2.2 (by lia);exact Nat.le_trans h3 (by decide)
  .cases e
 .exact Hb (W:=W) (g:=Pw) X9 (λi j k H Q e q=>by
   unfold Pw at e;split at e
   .cases e;exact⟨i,j,rfl,rfl,‹_›,q⟩
   .cases e) pins s σ H x y v u Q I rx ry ⟨_,_,c,h1,h2,e,q⟩
theorem Zx:VQ X (unaryOp .USub) (ak W (F7 Xk)):=by
 rintro pins s σ H x v Q I rx ⟨c1,c,h1,e,q⟩
 unfold F7 at e;split at e
 .rename_i i;cases e;cases Ax h1;exact VU pins s σ H _ v Q I rx ⟨i,rfl,q.plain (A4.mpr rfl)⟩
 .cases e
theorem LM(n:Nat)(i:Int):Iv.JR n i=L2.JR n i:=by
 unfold Iv.JR L2.JR;rfl
theorem bz(hK:W.K=X.K){g:C->C->Option C}:V2 X (BX W CL):=by
 rintro value slice pins s σ H x y v u Q I rx ry ⟨c1,c2,c,h1,h2,e,q⟩ hs
 have e0:=e;unfold CL at e;split at e
 .rename_i c' ps i hc;obtain⟨k,hk,e⟩:=oB e;obtain⟨p,hp,rfl⟩:=oM e;cases Ax h2
  obtain⟨a,vs,rfl,s1,r1⟩:∃a vs,x= .ref a/\E2 W.K H a vs/\A2 W H ps vs:=by
   cases c1 with
   |obj _ _=>cases hc
   |b b=>
     cases b with
     |p _=>cases hc
     |Cv _=>cases hc
     |lst _=>cases hc;obtain⟨a,vs,e1,e2,e3⟩:=h1;exact⟨a,vs,e1,E2.of e2,e3⟩
     |ro _=>cases hc;obtain⟨a,vs,e1,e2,e3⟩:=h1;exact⟨a,vs,e1,e2.sq,e3⟩
  obtain⟨w,hw,rw'⟩:=r1.get hp;refine Tj value slice pins s σ H _ _ v u Q I rx ry ⟨a,vs,i,w,rfl,rfl,hK▸s1,?_,q.plain rw'⟩ hs;unfold VO;rw[r1.length,<-LM,hk];exact hw
 .rename_i c' ps i hc;obtain⟨k,hk,e⟩:=oB e;obtain⟨p,hp,rfl⟩:=oM e;cases Ax h2
  have hc:c1= .p (.tup ps):=by
   cases c1 with
   |obj _ _=>cases hc
   |b b=>cases b<;>cases hc<;>rfl
  subst hc;obtain⟨a,vs,rfl,s1,r1⟩:=C8 h1;obtain⟨w,hw,rw'⟩:=r1.get hp;refine XA value slice pins s σ H _ _ v u Q I rx ry ⟨a,vs,i,w,rfl,rfl,hK▸s1,?_,q.plain rw'⟩ hs;unfold VO;rw[r1.length,<-LM,hk];exact hw
 .rename_i c' z i hc;split at e
  .rename_i hl;obtain⟨k,hk,e⟩:=oB e;obtain⟨p,hp,rfl⟩:=oM e;cases Ax h2
   have hc:c1= .p (.str z):=by
    cases c1 with
    |obj _ _=>cases hc
    |b b=>cases b<;>cases hc<;>rfl
   subst hc;cases BO h1;refine XB value slice pins s σ H _ _ v u Q I rx ry ⟨z,i,p,rfl,rfl,Nat.le_trans hl BU,?_,q.plain (A6.mpr rfl)⟩ hs;unfold VO;have:z.cps.toList.length=z.length:=by show z.cps.toList.length=z.cps.size;simp
   rw[this,<-LM,hk];exact hp
  .cases e
 .cases e
theorem EA.fo{σ:St}{h:Hd}(hf:∀i f,h≠.fld i f)(r:EA W σ H1 ρ1 h v o)(k:AK H1 H2)(b:JP os H1 H2)(d:∀a∈o,a∉os):EA W σ H2 ρ2 h v o:=by
 cases h with
 |AI c=>exact B3.frame r k b d
 |slot i=>exact r
 |fld i f=>exact absurd rfl (hf i f)
theorem EA.own{σ:St}(r:EA W σ H ρ h v o):∀a∈o,∃z,H a=some z:=by
 cases h with
 |AI c=>exact λa ha=>let⟨x,e,_⟩:=B3.own r a ha;⟨x,e⟩
 |slot i=>intro a ha;rw[r.2]at ha;cases ha
 |fld i f=>intro a ha;rw[r.1]at ha;cases ha
theorem Q3{F:Env->Res Hd}{G:Env->Res (List Hd)}{σ:St}{Q:List V->Hp->Prop}(hF:∀ρ h ρ',F ρ= .ok h ρ'->∀i f,h≠.fld i f)
 (h:tG W EX (Bb W) (λρ=>(F ρ).bind λh ρ=>(G ρ).bind λhs ρ=>.ok (h::hs) ρ) σ H Q):Bd (tG W EX (EA W) F) (tG W EX (Bb W) G) σ H Q:=by
 obtain⟨ρ,os,hR,hn,hA⟩:=h
 try dsimp only at hA
 refine⟨ρ,os,hR,hn,?_⟩;unfold C5;cases eF:F ρ with
 |stuck=>rw[eF]at hA;exact hA
 |err x p ρ'=>rw[eF]at hA;exact hA
 |ok a ρ1=>
   rw[eF]at hA;intro u H1 o1 os1 rA hR1 hn1 fr1;have n1:=nA hn1;refine⟨ρ1,os1,hR1,n1.2.1,?_⟩;unfold C5;rw[Res.A3]at hA;cases eG:G ρ1 with
   |stuck=>rw[eG]at hA;exact hA
   |err e p ρ2=>
     rw[eG]at hA;exact λH' os' hR' hn' fr'=>hA H' os' hR' hn' (fr1.trans (fr'.weak λa ha=>mR ha))
   |ok b ρ2=>
     rw[eG,Res.A3]at hA;intro ws H2 o2 os2 rB' hR2 hn2 fr2;have k2:AK H1 H2:=fr2.but.keep hR1.own;refine hA (u::ws) H2 (o1++o2) os2 ⟨u,ws,o1,o2,rfl,rA.fo (hF ρ a ρ1 eF) k2 fr2.but (λa ha z=>n1.2.2 a ha a z rfl),rB',rfl⟩ hR2 (SR hn1 hn2 rA.own fr2.src) ?_;rw[append_assoc];exact fr1.trans (fr2.more o1)
theorem DC{σ:St}(hR:A5 W H ρ σ os):∀{hs:List Hd} {cs:List C} {vs:List V} {o:List Addr},Bb W σ H ρ hs vs o->Ai ρ hs=some cs->Cy W H cs vs
 | [],cs,vs,o,h,e=>by
   cases e;exact h.1
 | h::hs,cs,vs,o,⟨v,r,o1,o2,e1,h1,h2,e2⟩,e=>by
   unfold Ai at e;obtain⟨c,ec,e⟩:=oB e;obtain⟨ds,ed,rfl⟩:=oM e;exact⟨v,r,e1,Fd hR h1 ec,DC hR h2 ed⟩
theorem Vj{F:Env->Res (List Hd)}{g:List C->Option C}{σ:St}{Q:VK}
 (h:tG W EX (rV W) (λρ=>(F ρ).bind λhs ρ=>Res.of ((Ai ρ hs).bind g) ρ) σ H Q):tG W EX (Bb W) F σ H λvs H1=>AL W g vs H1 Q:=by
 obtain⟨ρ,os,hR,hn,hA⟩:=h
 try dsimp only at hA
 refine⟨ρ,os,hR,hn,?_⟩;unfold C5;cases eF:F ρ with
 |stuck=>rw[eF]at hA;exact hA
 |err x p ρ'=>rw[eF]at hA;exact hA
 |ok hs ρ1=>
   rw[eF,Res.A3]at hA;intro vs H1 o1 os1 rA hR1 hn1 fr1;have n1:=nA hn1;cases ec:Ai ρ1 hs with
   |none=>rw[ec]at hA;exact hA.elim
   |some cs=>
     rw[ec]at hA;have hA:C5 W EX (rV W σ) H os σ (Res.of (g cs) ρ1) Q:=hA;cases eg:g cs with
     |none=>rw[eg]at hA;exact hA.elim
     |some c=>
       rw[eg]at hA;have hA:=hA.later fr1;exact⟨cs,c,DC hR1 rA ec,eg,λv H' o s r ho hf=>hA.made hR1 n1.2.1 s r ho hf⟩
end Iv
namespace Iv
open PySem L2 PyProof.Rows
section
variable{Pg:Program}{W:Wd}{H:Hp}
variable{h:Heap}{xs:List V}
theorem Ao(Ak:Ee Pg W.w H h)(C6:W.K.In h)(hs:Ey W.K H a xs):∃its:List Value,Vals xs its/\IsTup h a its.toArray:=by
 rcases hs with hs|⟨o,its,n,hk,hc,hd,hz,r⟩
 .obtain⟨z,its,r,p⟩:=hs.ok Ak;exact⟨its,r,p⟩
 .exact⟨its.toList,r,⟨o,C6 a o hk,hc,n,by simpa using hd⟩⟩
theorem NI{ys:List V}{us zs:List Value}(hx:Vals xs us)(hy:Vals ys zs)(p:IsTup h a us.toArray)(q:IsTup h a zs.toArray):xs=ys:=by
 obtain⟨o,e1,_,n,d1⟩:=p;obtain⟨o',e2,_,n',d2⟩:=q;rw[e1]at e2;cases e2;rw[d1]at d2;injection d2 with d3 _
 have:us=zs:=by simpa using congrArg Array.toList d3
 subst this;exact hx.inj hy
mutual
theorem Ay.det {h:Heap} (Ak:Ee Pg W.w H h) (C6:W.K.In h):∀{p q:P} {v:V},Ay W H p v->Ay W H q v->Bc p q=true->p=q
 | .Az,q,v,hp,hq,hc=>by
   cases Ae.mp hp;cases q with
   |Az=>rfl
   |bl _=>cases Al.mp hq
   |int _=>cases A4.mp hq
   |str _=>cases A6.mp hq
   |fn _=>cases (CB.mp hq).1
   |tup _=>obtain⟨_,_,e,_⟩:=Ah.mp hq;cases e
 | .bl _,q,v,hp,hq,hc=>by
   cases Al.mp hp;cases q with
   |Az=>cases Ae.mp hq
   |bl _=>cases Al.mp hq;rfl
   |int _=>cases A4.mp hq
   |str _=>cases A6.mp hq
   |fn _=>cases (CB.mp hq).1
   |tup _=>obtain⟨_,_,e,_⟩:=Ah.mp hq;cases e
 | .int _,q,v,hp,hq,hc=>by
   cases A4.mp hp;cases q with
   |Az=>cases Ae.mp hq
   |bl _=>cases Al.mp hq
   |int _=>cases A4.mp hq;rfl
   |str _=>cases A6.mp hq
   |fn _=>cases (CB.mp hq).1
   |tup _=>obtain⟨_,_,e,_⟩:=Ah.mp hq;cases e
 | .str _,q,v,hp,hq,hc=>by
   cases A6.mp hp;cases q with
   |Az=>cases Ae.mp hq
   |bl _=>cases Al.mp hq
   |int _=>cases A4.mp hq
   |str _=>cases A6.mp hq;rfl
   |fn _=>cases (CB.mp hq).1
   |tup _=>obtain⟨_,_,e,_⟩:=Ah.mp hq;cases e
 | .fn _,q,v,hp,hq,hc=>by
   unfold Bc at hc;cases hc
 | .tup ps,q,v,hp,hq,hc=>by
   obtain⟨a,vs,rfl,s1,r1⟩:=Ah.mp hp;cases q with
   |Az=>cases Ae.mp hq
   |bl _=>cases Al.mp hq
   |int _=>cases A4.mp hq
   |str _=>cases A6.mp hq
   |fn _=>unfold Bc C9 at hc;cases hc
   |tup qs=>
     obtain⟨b,ws,e,s2,r2⟩:=Ah.mp hq;cases e;obtain⟨its,v1,p1⟩:=Ao Ak C6 s1;obtain⟨its',v2,p2⟩:=Ao Ak C6 s2;have:=NI v1 v2 p1 p2;subst this;unfold Bc at hc;rw[A2.det Ak C6 r1 r2 hc]
theorem A2.det {h:Heap} (Ak:Ee Pg W.w H h) (C6:W.K.In h):∀{ps qs:List P} {vs:List V},A2 W H ps vs->A2 W H qs vs->CW ps qs=true->ps=qs
 | [],qs,vs,hp,hq,hc=>by
   unfold A2 at hp;subst hp;cases qs with
   |nil=>rfl
   |cons q qs=>unfold A2 at hq;obtain⟨_,_,e,_⟩:=hq;cases e
 | p ::ps,qs,vs,hp,hq,hc=>by
   cases vs with
   |nil=>unfold A2 at hp;obtain⟨_,_,e,_⟩:=hp;cases e
   |cons v vs=>
     cases qs with
     |nil=>unfold A2 at hq;cases hq
     |cons q qs=>
       unfold CW at hc;rw[bA]at hc;rw[Ay.det Ak C6 hp.BN.1 hq.BN.1 hc.1,A2.det Ak C6 hp.BN.2 hq.BN.2 hc.2]
end
def Qv(b:Bool)(e:Nat->Bool):Nat->Bool
 |0=>b
 |j+1=>e j
theorem NW(b:Bool)(e:Nat->Bool)(n m:Nat):((List.range (min (n + 1) (m + 1))).all (Qv b e) && (n + 1 == m + 1))=(b && ((List.range (min n m)).all e && n == m)):=by
 rw[show min (n+1) (m+1)=min n m+1 by lia,List.range_succ_eq_map,all_cons,List.all_map];have h1:(Qv b e ∘ Nat.succ)=e:=rfl
 have h2:(n + 1 == m + 1)=(n == m):=by
  by_cases h:n=m
  .simp[h]
  .simp[h]
 rw[h1,h2,Bool.and_assoc];rfl
theorem in1_units{A:Around}:A.in1.units=A.units+1:=by first|rfl|simp[Around.in1]
mutual
theorem XY:∀(p:P) {q:P} {v y:V} {u z:Value} {A:Around} {s:Shared},Ay W H p v->Ay W H q y->RelV v u->RelV y z->Ee Pg W.w H s.heap->W.K.In s.heap->Bc p q=true->A.units + p.depth + 1 < cLine->
 SeqAt.EqAt A s u z (decide (p=q))
 | .Az,q,v,y,u,z,A,s,hp,hq,r,r',Ak,C6,hc,hu=>by
   cases Ae.mp hp;cases r;cases q with
   |Az=>cases Ae.mp hq;cases r';rw[decide_eq_true rfl];exact SeqAt.EqAt.same _
   |bl b=>cases Al.mp hq;cases r';rw[dF nofun];exact SeqAt.EqAt.none_bool _
   |int b=>cases A4.mp hq;obtain⟨t,rfl⟩:=r';rw[dF nofun];exact SeqAt.EqAt.none_int _ _
   |str b=>cases A6.mp hq;obtain⟨t,rfl⟩:=r';rw[dF nofun];exact SeqAt.EqAt.none_str _ _
   |fn b=>unfold Bc C9 at hc;cases hc
   |tup qs=>
     obtain⟨b,ws,rfl,s2,r2⟩:=Ah.mp hq;cases r';obtain⟨its,v1,p1⟩:=Ao Ak C6 s2;rw[dF nofun];exact SeqAt.EqAt.none_tuple p1 (by lia)
 | .bl i,q,v,y,u,z,A,s,hp,hq,r,r',Ak,C6,hc,hu=>by
   cases Al.mp hp;cases r;cases q with
   |Az=>cases Ae.mp hq;cases r';rw[dF nofun];exact SeqAt.EqAt.bool_none _
   |bl b=>
     cases Al.mp hq;cases r';have:decide (P.bl i=P.bl b)=(i == b):=by cases i<;>cases b<;>decide
     rw[this];exact SeqAt.EqAt.bool_bool _ _
   |int b=>unfold Bc C9 at hc;cases hc
   |str b=>cases A6.mp hq;obtain⟨t,rfl⟩:=r';rw[dF nofun];exact SeqAt.EqAt.bool_str _ _ _
   |fn b=>unfold Bc C9 at hc;cases hc
   |tup qs=>
     obtain⟨b,ws,rfl,s2,r2⟩:=Ah.mp hq;cases r';obtain⟨its,v1,p1⟩:=Ao Ak C6 s2;rw[dF nofun];exact SeqAt.EqAt.bool_tuple _ p1 (by lia)
 | .int i,q,v,y,u,z,A,s,hp,hq,r,r',Ak,C6,hc,hu=>by
   cases A4.mp hp;obtain⟨t,rfl⟩:=r;cases q with
   |Az=>cases Ae.mp hq;cases r';rw[dF nofun];exact SeqAt.EqAt.int_none _ _
   |bl b=>unfold Bc C9 at hc;cases hc
   |int b=>
     cases A4.mp hq;obtain⟨t',rfl⟩:=r'
     have:decide (P.int i=P.int b)=(i == b):=by
      by_cases h:i=b
      .subst h;simp
      .rw[dF (λz=>h (P.int.inj z))];simp[h]
     rw[this];exact SeqAt.EqAt.int_int _ _ _ _
   |str b=>cases A6.mp hq;obtain⟨t,rfl⟩:=r';rw[dF nofun];exact SeqAt.EqAt.int_str _ _ _ _
   |fn b=>unfold Bc C9 at hc;cases hc
   |tup qs=>
     obtain⟨b,ws,rfl,s2,r2⟩:=Ah.mp hq;cases r';obtain⟨its,v1,p1⟩:=Ao Ak C6 s2;rw[dF nofun];exact SeqAt.EqAt.int_tuple _ _ p1 (by lia)
 | .str i,q,v,y,u,z,A,s,hp,hq,r,r',Ak,C6,hc,hu=>by
   cases A6.mp hp;obtain⟨t,rfl⟩:=r;cases q with
   |Az=>cases Ae.mp hq;cases r';rw[dF nofun];exact SeqAt.EqAt.str_none _ _
   |bl b=>cases Al.mp hq;cases r';rw[dF nofun];exact SeqAt.EqAt.str_bool _ _ _
   |int b=>cases A4.mp hq;obtain⟨t',rfl⟩:=r';rw[dF nofun];exact SeqAt.EqAt.str_int _ _ _ _
   |str b=>
     cases A6.mp hq;obtain⟨t',rfl⟩:=r'
     have:decide (P.str i=P.str b)=(i == b):=by
      by_cases h:i=b
      .subst h;simp
      .rw[dF (λz=>h (P.str.inj z))];simp[h]
     rw[this];exact SeqAt.EqAt.str_str _ _ _ _
   |fn b=>unfold Bc C9 at hc;cases hc
   |tup qs=>
     obtain⟨b,ws,rfl,s2,r2⟩:=Ah.mp hq;cases r';obtain⟨its,v1,p1⟩:=Ao Ak C6 s2;rw[dF nofun];exact SeqAt.EqAt.str_tuple _ _ p1 (by lia)
 | .fn i,q,v,y,u,z,A,s,hp,hq,r,r',Ak,C6,hc,hu=>by
   unfold Bc at hc;cases hc
 | .tup ps,q,v,y,u,z,A,s,hp,hq,r,r',Ak,C6,hc,hu=>by
   obtain⟨a,vs,rfl,s1,r1⟩:=Ah.mp hp;cases r;obtain⟨its,v1,p1⟩:=Ao Ak C6 s1;cases q with
   |Az=>cases Ae.mp hq;cases r';rw[dF nofun];exact SeqAt.EqAt.tuple_none p1 (by lia)
   |bl b=>cases Al.mp hq;cases r';rw[dF nofun];exact SeqAt.EqAt.tuple_bool _ p1 (by lia)
   |int b=>cases A4.mp hq;obtain⟨t',rfl⟩:=r';rw[dF nofun];exact SeqAt.EqAt.tuple_int _ _ p1 (by lia)
   |str b=>cases A6.mp hq;obtain⟨t',rfl⟩:=r';rw[dF nofun];exact SeqAt.EqAt.tuple_str _ _ p1 (by lia)
   |fn b=>unfold Bc C9 at hc;cases hc
   |tup qs=>
     obtain⟨b,ws,rfl,s2,r2⟩:=Ah.mp hq;cases r';have hcl:CW ps qs=true:=by unfold Bc at hc;exact hc
     have hdp:(P.tup ps).depth=P.Bo ps+1:=by conv=>lhs;unfold P.depth
     by_cases hab:a=b
     .subst hab;have e:=Ay.det Ak C6 hp hq hc;rw[decide_eq_true e];exact SeqAt.EqAt.same _
     .obtain⟨its',v2,p2⟩:=Ao Ak C6 s2;refine SeqAt.EqAt.of_refs hab ?_;have hu1:A.in1.units=A.units+1:=in1_units;obtain⟨e,he,hd⟩:=Ho ps (A:=A.in1) (s:=s) r1 r2 v1 v2 Ak C6 hcl (by lia);have rc:=SeqAt.RcAt.tuples (A:=A) (s:=s) (e:=e) p1 p2 (by lia) λj h1 h2=>he j _ _ (by simp at h1 ⊢) (by simp at h2 ⊢)
      rw[size_toArray,size_toArray,hd]at rc
      have e2:decide (P.tup ps=P.tup qs)=decide (ps=qs):=by
       by_cases h:ps=qs
       .subst h;simp
       .rw[dF h,dF (λz=>h (P.tup.inj z))]
      rw[e2];exact rc
theorem Ho:∀(ps:List P) {qs:List P} {vs ws:List V} {us zs:List Value} {A:Around} {s:Shared},A2 W H ps vs->A2 W H qs ws->Vals vs us->Vals ws zs->Ee Pg W.w H s.heap->W.K.In s.heap->CW ps qs=true->A.units + P.Bo ps + 1 < cLine->
 ∃e:Nat->Bool,(∀(j:Nat) (x y:Value),us[j]? =some x->zs[j]? =some y->SeqAt.EqAt A s x y (e j))/\((List.range (min us.length zs.length)).all e && us.length == zs.length)=decide (ps=qs)
 | [],qs,vs,ws,us,zs,A,s,hp,hq,r,r',Ak,C6,hc,hu=>by
   unfold A2 at hp;subst hp;cases r;refine⟨λ_=>true,λj x y hx _=>by simp at hx,?_⟩;cases qs with
   |nil=>unfold A2 at hq;subst hq;cases r';rfl
   |cons q qs=>
     unfold A2 at hq;obtain⟨_,_,e,_⟩:=hq;subst e;cases r';rw[dF nofun];simp
 | p ::ps,qs,vs,ws,us,zs,A,s,hp,hq,r,r',Ak,C6,hc,hu=>by
   cases vs with
   |nil=>unfold A2 at hp;obtain⟨_,_,e,_⟩:=hp;cases e
   |cons v vs =>
     cases r with
     |cons r1 r2=>
       cases qs with
       |nil=>
         unfold A2 at hq;subst hq;cases r';refine⟨λ_=>true,λj x y _ hy=>by simp at hy,?_⟩;rw[dF nofun];simp
       |cons q qs=>
         cases ws with
         |nil=>unfold A2 at hq;obtain⟨_,_,e,_⟩:=hq;cases e
         |cons w ws=>
           cases r' with
           |cons q1 q2=>
             unfold CW at hc;rw[bA]at hc;have hd:P.Bo (p::ps)=max p.depth (P.Bo ps):=by conv=>lhs;unfold P.Bo
             obtain⟨e,he,hdd⟩:=Ho ps (A:=A) (s:=s) hp.BN.2 hq.BN.2 r2 q2 Ak C6 hc.2 (by lia);have h0:=XY p (A:=A) (s:=s) hp.BN.1 hq.BN.1 r1 q1 Ak C6 hc.1 (by lia);refine⟨Qv (decide (p=q)) e,λj x y hx hy=>?_,?_⟩
             .cases j with
              |zero=>
                simp at hx hy;subst hx hy;exact h0
              |succ j=>exact he j x y (by simpa using hx) (by simpa using hy)
             .rw[lC,lC,NW,hdd]
              by_cases h1:p=q<;>by_cases h2:ps=qs<;>simp[h1,h2]
end
end
section
variable{X:Cx}{W:Wd}{pins:List (Addr×Obj)}{σ:L2.St}{H:Hp}{s:Shared}{a:Addr}{kvs:List (P×P)}{k v:P}{x y:V}{u r:Value}{A:Around}{E:Value->Shared->Prop}
theorem U2(hw:W.w=X.w)(Ak:Ee X.prog X.w H s.heap)(hd:O3 W H a kvs):s.TypeIs (.ref a) "dict":=by
 obtain⟨es,hH,_⟩:=hd.ex;obtain⟨⟨o,h1,h2,h3⟩,_⟩:=(show BM X.prog X.w H s.heap a (DX a es)from Ak a _ hH);exact⟨o,h1,h2.1⟩
end
end Iv
namespace Iv
open PySem L2
def AQ(as:List Nat)(σ σ':St):Prop:=σ'.length=σ.length/\∀i,i∉as->σ'[i]? =σ[i]?
theorem AQ.refl(as:List Nat)(σ:St):AQ as σ σ:=⟨rfl,λ_ _=>rfl⟩
variable{as:List Nat}{σ1:St}
theorem AQ.trans{σ σ2:St}(a:AQ as σ σ1)(b:AQ as σ1 σ2):AQ as σ σ2:=⟨b.1.trans a.1,λi h=>(b.2 i h).trans (a.2 i h)⟩
theorem AQ.mono{bs:List Nat}{σ σ':St}(a:AQ as σ σ')(h:∀i∈as,i∈bs):AQ bs σ σ':=⟨a.1,λi hi=>a.2 i λz=>hi (h i z)⟩
theorem AQ.set{σ:St}{i:Nat}{x:Option V}(h:i∈as):AQ as σ (σ.set i x):=⟨length_set ..,λj hj=>by
 rw[List.getElem?_set_ne]
 exact λz=>hj (z▸h)⟩
section
variable (W:Wd)(EX:XP)
def CO(as:List Nat)(D:Ends)(σ:St)(H:Hp)(os:List Addr)(r:Res Fl):Prop:=match r with
 |.stuck=>False
 |.err x p ρ'=>∀σ' H' os',A5 W H' ρ' σ' os'->os'.Nodup->AR H H' os os'->AQ as σ σ'->EX x p σ' H'
 |.ok .nx ρ'=>∀σ' H' os',A5 W H' ρ' σ' os'->os'.Nodup->AR H H' os os'->AQ as σ σ'->D.nx σ' H'
 |.ok .brk ρ'=>∀σ' H' os',A5 W H' ρ' σ' os'->os'.Nodup->AR H H' os os'->AQ as σ σ'->D.bk σ' H'
 |.ok .cnt ρ'=>∀σ' H' os',A5 W H' ρ' σ' os'->os'.Nodup->AR H H' os os'->AQ as σ σ'->D.ct σ' H'
 |.ok (.ret c) ρ'=>∀v σ' H' o os',B3 W H' c v o->A5 W H' ρ' σ' os'->(o++os').Nodup->AR H H' os (o++os')->AQ as σ σ'->D.rt v H'
noncomputable def tS(as:List Nat)(F:Env->Res Fl):TS:=λD σ H=>∃ρ os,A5 W H ρ σ os/\os.Nodup/\CO W EX as D σ H os (F ρ)
end
variable{W:Wd}{EX:XP}{as:List Nat}{D:Ends}{σ:St}{H:Hp}{os:List Addr}{r:Res Fl}
theorem CO.later{H1:Hp}{os1:List Addr}(h:CO W EX as D σ H os r)(f:AR H H1 os os1)(u:AQ as σ σ1):CO W EX as D σ1 H1 os1 r:=by
 have fr:∀{H' os'},AR H1 H' os1 os'->AR H H' os os':=λg=>f.trans g
 cases r with
 |stuck=>exact h
 |err x p ρ'=>exact λσ' H' os' h1 h2 h3 h4=>h σ' H' os' h1 h2 (fr h3) (u.trans h4)
 |ok f ρ'=>
   cases f with
   |nx=>exact λσ' H' os' h1 h2 h3 h4=>h σ' H' os' h1 h2 (fr h3) (u.trans h4)
   |brk=>exact λσ' H' os' h1 h2 h3 h4=>h σ' H' os' h1 h2 (fr h3) (u.trans h4)
   |cnt=>exact λσ' H' os' h1 h2 h3 h4=>h σ' H' os' h1 h2 (fr h3) (u.trans h4)
   |ret c=>exact λv σ' H' o os' h0 h1 h2 h3 h4=>h v σ' H' o os' h0 h1 h2 (fr h3) (u.trans h4)
theorem CO.more{bs:List Nat}(h:CO W EX bs D σ H os r)(hm:∀i∈as,i∈bs):CO W EX as D σ H os r:=by
 cases r with
 |stuck=>exact h
 |err x p ρ'=>exact λσ' H' os' h1 h2 h3 h4=>h σ' H' os' h1 h2 h3 (h4.mono hm)
 |ok f ρ'=>
   cases f with
   |nx=>exact λσ' H' os' h1 h2 h3 h4=>h σ' H' os' h1 h2 h3 (h4.mono hm)
   |brk=>exact λσ' H' os' h1 h2 h3 h4=>h σ' H' os' h1 h2 h3 (h4.mono hm)
   |cnt=>exact λσ' H' os' h1 h2 h3 h4=>h σ' H' os' h1 h2 h3 (h4.mono hm)
   |ret c=>exact λv σ' H' o os' h0 h1 h2 h3 h4=>h v σ' H' o os' h0 h1 h2 h3 (h4.mono hm)
theorem after{α β:Type}{rep:St->Hp->Env->α->β->List Addr->Prop}{F:Env->Res α}{G:α->Env->Res Fl}{K:β->Hp->Prop}(hR:A5 W H ρ σ os)(h:CO W EX as D σ H os ((F ρ).bind G))
 (k:∀a ρ1 b H1 o1 os1,rep σ H1 ρ1 a b o1->A5 W H1 ρ1 σ os1->(o1++os1).Nodup->AR H H1 os (o1++os1)->CO W EX as D σ H1 (o1++os1) (G a ρ1)->K b H1):C5 W EX (rep σ) H os σ (F ρ) K:=by
 unfold C5;cases eF:F ρ with
 |stuck=>rw[eF]at h;exact h
 |err x p ρ'=>
   rw[eF]at h;exact λH' os' h1 h2 h3=>h σ H' os' h1 h2 h3 (AQ.refl _ _)
 |ok a ρ1=>
   rw[eF,Res.A3]at h;exact λb H1 o1 os1 h1 h2 h3 h4=>k a ρ1 b H1 o1 os1 h1 h2 h3 h4 (h.later h4 (AQ.refl _ _))
theorem OL(h:tS W EX [] (λρ=>.ok .nx ρ) D σ H):Mc D σ H:=by
 obtain⟨ρ,os,hR,hn,hA⟩:=h
 try dsimp only at hA
 exact hA σ H os hR hn (AR.refl _ _) (AQ.refl _ _)
theorem ag(h:tS W EX [] (λρ=>.ok .brk ρ) D σ H):Oo D σ H:=by
 obtain⟨ρ,os,hR,hn,hA⟩:=h
 try dsimp only at hA
 exact hA σ H os hR hn (AR.refl _ _) (AQ.refl _ _)
theorem af(h:tS W EX [] (λρ=>.ok .cnt ρ) D σ H):Va D σ H:=by
 obtain⟨ρ,os,hR,hn,hA⟩:=h
 try dsimp only at hA
 exact hA σ H os hR hn (AR.refl _ _) (AQ.refl _ _)
variable{a1 a2:List Nat}{G:Env->Res Fl}
theorem Ww{F:Env->Res Fl}(h:tS W EX (a1++a2) (λρ=>(F ρ).bind λf ρ=>match f with| .nx=>G ρ|f=>.ok f ρ) D σ H):ZD (tS W EX a1 F) (tS W EX a2 G) D σ H:=by
 obtain⟨ρ,os,hR,hn,hA⟩:=h
 try dsimp only at hA
 have m1:∀i∈a1,i∈a1++a2:=λi hi=>mL hi
 have m2:∀i∈a2,i∈a1++a2:=λi hi=>mR hi
 refine⟨ρ,os,hR,hn,?_⟩;cases eF:F ρ with
 |stuck=>rw[eF]at hA;exact hA
 |err x p ρ'=>rw[eF]at hA;exact λσ' H' os' h1 h2 h3 h4=>hA σ' H' os' h1 h2 h3 (h4.mono m1)
 |ok f ρ1=>
   rw[eF,Res.A3]at hA;cases f with
   |nx=>
     intro σ' H' os' h1 h2 h3 h4;have hA:CO W EX (a1++a2) D σ H os (G ρ1):=hA;exact⟨ρ1,os',h1,h2,(hA.later h3 (h4.mono m1)).more m2⟩
   |brk=>exact λσ' H' os' h1 h2 h3 h4=>hA σ' H' os' h1 h2 h3 (h4.mono m1)
   |cnt=>exact λσ' H' os' h1 h2 h3 h4=>hA σ' H' os' h1 h2 h3 (h4.mono m1)
   |ret c=>exact λv σ' H' o os' h0 h1 h2 h3 h4=>hA v σ' H' o os' h0 h1 h2 h3 (h4.mono m1)
theorem fz{B:Env->Res Bool}{F:Env->Res Fl}(h:tS W EX (a1++a2) (λρ=>(B ρ).bind λx ρ=>if x then F ρ else G ρ) D σ H):ZH (tG W EX rB B) (tS W EX a1 F) (tS W EX a2 G) D σ H:=by
 obtain⟨ρ,os,hR,hn,hA⟩:=h
 try dsimp only at hA
 refine⟨ρ,os,hR,hn,after hR hA λa ρ1 b H1 o1 os1 h1 h2 h3 h4 h5=>?_⟩;obtain⟨rfl,rfl⟩:=h1;cases a with
 |true=>exact⟨ρ1,os1,h2,h3,h5.more λi hi=>mL hi⟩
 |false=>exact⟨ρ1,os1,h2,h3,h5.more λi hi=>mR hi⟩
variable{F:Env->Res C}
theorem Wv(h:tS W EX [] (λρ=>(F ρ).bind λ_ ρ=>.ok .nx ρ) D σ H):V9 (tG W EX (rV W) F) D σ H:=by
 obtain⟨ρ,os,hR,hn,hA⟩:=h
 try dsimp only at hA
 refine⟨ρ,os,hR,hn,after hR hA λa ρ1 b H1 o1 os1 h1 h2 h3 h4 h5=>?_⟩;exact h5 σ H1 os1 h2 (nA h3).2.1 ((AR.refl _ _).sub λa ha=>mR ha) (AQ.refl _ _)
theorem ZT(h:tS W EX [] (λρ=>(F ρ).bind λc ρ=>.ok (.ret c) ρ) D σ H):ZE (tG W EX (rV W) F) D σ H:=by
 obtain⟨ρ,os,hR,hn,hA⟩:=h
 try dsimp only at hA
 refine⟨ρ,os,hR,hn,?_⟩;unfold C5;cases eF:F ρ with
 |stuck=>rw[eF]at hA;exact hA
 |err x p ρ'=>
   rw[eF]at hA;exact λH' os' h1 h2 h3=>hA σ H' os' h1 h2 h3 (AQ.refl _ _)
 |ok a ρ1=>
   rw[eF]at hA;exact λb H1 o1 os1 h1 h2 h3 h4=>hA b σ H1 o1 os1 h1 h2 h3 h4 (AQ.refl _ _)
theorem Wl(h:tS W EX [] (λρ=>.ok (.ret (.p .Az)) ρ) D σ H):V6 D σ H:=by
 obtain⟨ρ,os,hR,hn,hA⟩:=h
 try dsimp only at hA
 exact hA .Az σ H [] os ⟨by unfold Ay;rfl,rfl⟩ hR hn (AR.refl _ _) (AQ.refl _ _)
theorem ER{o os od os':List Addr}(hn:(o++os).Nodup)(p:(od++os').Perm (o++os)):os'.Nodup:=(nA (p.nodup_iff.mpr hn)).2.1
theorem ZS{i:Nat}(hi:i < σ.length)(h:tS W EX [i] (λρ=>(F ρ).bind λc ρ=>.ok .nx (ρ.set i (some c))) D σ H):Oq (tG W EX (rV W) F) (Hl i) D σ H:=by
 obtain⟨ρ,os,hR,hn,hA⟩:=h
 try dsimp only at hA
 refine⟨ρ,os,hR,hn,after hR hA λc ρ1 v H1 o1 os1 h1 h2 h3 h4 h5=>?_⟩;obtain⟨os2,od,r2,p2⟩:=A5.put h1 h2 (by rw[<-h2.length];exact hi);exact h5 (σ.set i (some v)) H1 os2 r2 (ER h3 p2) ((AR.refl _ _).sub λa ha=>p2.subset (mR ha)) (AQ.set mS)
end Iv
namespace Iv
open PySem L2
open Classical in
noncomputable def A1:WH:=λc b ρ=>if h:∃n,∃f ρ',Ap c b n ρ= .ok f ρ'\/∃x p,Ap c b n ρ= .err x p ρ' then Ap c b h.choose ρ else .stuck
theorem IJ{c:Env->Res Bool}{b:Env->Res Fl}(h:A1 c b ρ≠.stuck):∃n,Ap c b n ρ=A1 c b ρ:=by
 unfold A1 at h ⊢;split
 .exact⟨_,rfl⟩
 .rename_i hn;rw[dif_neg hn]at h;exact absurd rfl h
theorem AO{c:Env->Res Bool}{b:Env->Res Fl}(n:Nat)(ρ:Env):Ap c b (n + 1) ρ=(c ρ).bind λx ρ=>if x then(b ρ).bind λf ρ=>match f with
 |.nx=>Ap c b n ρ
 |.cnt=>Ap c b n ρ
 |.brk=>.ok .nx ρ
 |.ret r=>.ok (.ret r) ρ
 else .ok .nx ρ:=rfl
theorem Cz{c:Env->Res Bool}{b:Env->Res Fl}:∀(n:Nat) (ρ:Env),Ap c b n ρ≠.stuck->Ap c b (n + 1) ρ=Ap c b n ρ
 |0,ρ,h=>absurd rfl h
 | n + 1,ρ,h=>by
   rw[AO]at h;rw[AO (n+1),AO n];cases ec:c ρ with
   |stuck=>rfl
   |err x p ρ'=>rfl
   |ok x ρ1=>
     rw[ec,Res.A3]at h;rw[Res.A3,Res.A3];cases x with
     |false=>rfl
     |true=>
       rw[iP rfl]at h;rw[iP rfl,iP rfl];cases eb:b ρ1 with
       |stuck=>rfl
       |err x p ρ'=>rfl
       |ok f ρ2=>
         rw[eb,Res.A3]at h;rw[Res.A3,Res.A3];cases f with
         |nx=>exact Cz n ρ2 h
         |cnt=>exact Cz n ρ2 h
         |brk=>rfl
         |ret r=>rfl
variable{n:Nat}
theorem Ef{c:Env->Res Bool}{b:Env->Res Fl}(h:Ap c b n ρ≠.stuck):∀m,Ap c b (n + m) ρ=Ap c b n ρ
 |0=>rfl
 | m + 1=>by
   have ih:=Ef h m;rw[<-Nat.add_assoc,Cz (n+m) ρ (by rw[ih];exact h),ih]
theorem Ob{c:Env->Res Bool}{b:Env->Res Fl}(h:Ap c b n ρ≠.stuck):A1 c b ρ=Ap c b n ρ:=by
 have hex:∃n,∃f ρ',Ap c b n ρ= .ok f ρ'\/∃x p,Ap c b n ρ= .err x p ρ':=by
  cases e:Ap c b n ρ with
  |stuck=>exact absurd e h
  |ok f ρ'=>exact⟨n,f,ρ',.inl e⟩
  |err x p ρ'=>exact⟨n,.nx,ρ',.inr ⟨x,p,e⟩⟩
 have hne:A1 c b ρ≠.stuck:=by
  unfold A1;rw[dif_pos hex];obtain⟨f,ρ',z⟩:=hex.choose_spec;intro e;rcases z with z|⟨x,p,z⟩
  .rw[z]at e;cases e
  .rw[z]at e;cases e
 obtain⟨m,em⟩:=IJ hne;rw[<-em];rw[<-em]at hne;rcases Nat.le_total n m with z|z
 .obtain⟨k,rfl⟩:=Nat.exists_eq_add_of_le z;exact Ef h k
 .obtain⟨k,rfl⟩:=Nat.exists_eq_add_of_le z;exact(Ef hne k).symm
variable{W:Wd}{EX:XP}{as:List Nat}{D:Ends}{σ:St}{H:Hp}{os:List Addr}
theorem S5{B:Env->Res Bool}{F:Env->Res Fl}(h:tS W EX as (λρ=>A1 B F ρ) D σ H):Ol (tG W EX rB B) (tS W EX as F) D σ H:=by
 obtain⟨ρ,os,hR,hn,hA⟩:=h
 try dsimp only at hA
 have hne:A1 B F ρ≠.stuck:=λz=>by rw[z]at hA;exact hA
 obtain⟨n,en⟩:=IJ hne;rw[<-en]at hA;refine⟨λm σ' H'=>∃ρ' os',A5 W H' ρ' σ' os'/\os'.Nodup/\CO W EX as D σ' H' os' (Ap B F m ρ'),⟨n,ρ,os,hR,hn,hA⟩,?_⟩
 rintro m σ' H' ⟨ρ',os',hR',hn',hA'⟩
 cases m with
 |zero=>exact hA'.elim
 |succ m=>
   rw[AO]at hA';refine⟨ρ',os',hR',hn',after hR' hA' λx ρ1 b H1 o1 os1 h1 h2 h3 h4 h5=>?_⟩;obtain⟨rfl,rfl⟩:=h1;cases x with
   |false=>exact h5 σ' H1 os1 h2 h3 (AR.refl _ _) (AQ.refl _ _)
   |true=>
     have h5:CO W EX as D σ' H1 os1 ((F ρ1).bind λf ρ=>match f with
      |.nx=>Ap B F m ρ
      |.cnt=>Ap B F m ρ
      |.brk=>.ok .nx ρ
      |.ret r=>.ok (.ret r) ρ):=h5
     refine⟨λσ2 H2=>∃ρ' os',A5 W H2 ρ' σ2 os'/\os'.Nodup/\CO W EX as D σ2 H2 os' (Ap B F m ρ'),λσ2 H2 z=>⟨m,Nat.lt_succ_self m,z⟩,ρ1,os1,h2,h3,?_⟩;cases eF:F ρ1 with
     |stuck=>rw[eF]at h5;exact h5
     |err x p ρ2=>rw[eF]at h5;exact h5
     |ok f ρ2=>
       rw[eF,Res.A3]at h5;cases f with
       |nx=>exact λσ2 H2 os2 g1 g2 g3 g4=>⟨ρ2,os2,g1,g2,CO.later (r:=Ap B F m ρ2) h5 g3 g4⟩
       |cnt=>exact λσ2 H2 os2 g1 g2 g3 g4=>⟨ρ2,os2,g1,g2,CO.later (r:=Ap B F m ρ2) h5 g3 g4⟩
       |brk=>exact h5
       |ret c=>exact h5
structure Walk(W:Wd)(J:It)(xs:List P)(g:Hp->Prop):Prop where
 go:∀i H,g H->i < xs.length->J.go i H
 O4:∀i H x H',g H->i < xs.length->J.O4 i H x H'->BI H H'/\∃p,xs[i]? =some p/\Ay W H' p x
 stop:∀H,g H->J.stop xs.length H
noncomputable def N2(W:Wd)(EX:XP)(k:IK)(F:Env->Res (List Hd)):TI:=λσ H R=>tG W EX (Bb W) F σ H λvs H1=>∃cs xs,Cy W H1 cs vs/\Aw k cs=some xs/\∀J,Walk W J xs (λH=>Cy W H cs vs)->R J H1
def bK:List Nat->VR
 |[]=>bM
 |i::is=>VE (Hl i) (bK is)
def gT(W:Wd):Tg->TG
 |.nm i=>Hl i
 |.tup is=>XG W.K is.length (bK is)
theorem HY{ρ:Env}{i:Nat}(hp:Ay W H p v)(hR:A5 W H ρ σ os)(hn:os.Nodup)(hi:i < σ.length):∃os',A5 W H (ρ.set i (some (.p p))) (σ.set i (some v)) os'/\os'.Nodup/\∀a∈os',a∈os:=by
 obtain⟨os',od,r,q⟩:=A5.put (c:=.p p) (v:=v) (o:=[]) ⟨hp,rfl⟩ hR (by rw[<-hR.length];exact hi);exact⟨os',r,ER (o:=[]) hn q,λa ha=>q.subset (mR ha)⟩
theorem Qb{Q:St->Hp->Prop}:∀{is:List Nat} {ps:List P} {vs:List V} {ρ:Env} {σ:St} {os:List Addr},A2 W H ps vs->is.length=ps.length->A5 W H ρ σ os->os.Nodup->(∀i∈is,i < σ.length)->
 (∀σ' os',A5 W H ((is.zip ps).foldl (λr q=>r.set q.1 (some (.p q.2))) ρ) σ' os'->os'.Nodup->(∀a∈os',a∈os)->AQ is σ σ'->Q σ' H)->bK is vs σ H Q
 | [],ps,vs,ρ,σ,os,hp,hl,hR,hn,hi,q=>by
   have:ps=[]:=length_eq_zero_iff.mp hl.symm;subst this;unfold A2 at hp;exact⟨hp,q σ os hR hn (λa ha=>ha) (AQ.refl _ _)⟩
 | i ::is,ps,vs,ρ,σ,os,hp,hl,hR,hn,hi,q=>by
   cases ps with
   |nil=>cases hl
   |cons p ps=>
     cases vs with
     |nil=>unfold A2 at hp;obtain⟨_,_,e,_⟩:=hp;cases e
     |cons v vs=>
       obtain⟨os1,r1,n1,s1⟩:=HY hp.BN.1 hR hn (hi i mS);refine⟨v,vs,rfl,Qb hp.BN.2 (by simpa using hl) r1 n1 (λj hj=>by rw[length_set];exact hi j (mC hj)) λσ' os' g1 g2 g3 g4=>?_⟩;refine q σ' os' g1 g2 (λa ha=>s1 a (g3 a ha)) ?_;exact(AQ.set mS).trans (g4.mono λj hj=>mC hj)
theorem Qc{Q:St->Hp->Prop}{g:Tg}{ρ':Env}(e:DY g p ρ=some ρ')(hp:Ay W H p v)(hR:A5 W H ρ σ os)(hn:os.Nodup)(hi:∀i∈g.slots,i < σ.length)
 (q:∀σ' os',A5 W H ρ' σ' os'->os'.Nodup->(∀a∈os',a∈os)->AQ g.slots σ σ'->Q σ' H):gT W g v σ H Q:=by
 cases g with
 |nm i=>
   cases e;obtain⟨os1,r1,n1,s1⟩:=HY hp hR hn (hi i mS);exact q _ os1 r1 n1 s1 (AQ.set mS)
 |tup is=>
   unfold DY at e;cases p with
   |tup ps=>
     dsimp only at e;split at e
     .rename_i hl;cases e;obtain⟨a,vs,rfl,s1,r1⟩:=Ah.mp hp;exact⟨a,vs,rfl,s1,by rw[r1.length,<-hl],Qb r1 hl hR hn hi q⟩
     .cases e
   |_=>cases e
variable{H:Hp}
theorem Cy.length:∀{cs:List C} {vs:List V},Cy W H cs vs->vs.length=cs.length
 |[],vs,h=>by rw[show vs=[]from h];rfl
 |c::cs,vs,⟨v,r,e,_,h⟩=>by rw[e,lC,lC,Cy.length h]
theorem CM{h:Hd}{hs:List Hd}{c:C}{cs:List C}(g:AD (h::hs) (c::cs)=true):(c.cp=true\/∀i f,h≠.fld i f)/\AD hs cs=true:=by
 unfold AD at g ⊢;rw[zip_cons_cons,all_cons,bA]at g;refine⟨?_,g.2⟩
 by_cases hc:c.cp=true
 .exact .inl hc
 .refine .inr λi f e=>?_
  subst e;have:=g.1;simp[hc]at this
theorem IW{σ σ':St}{H':Hp}{os os':List Addr}(hR':A5 W H' ρ' σ' os')(k:AK H H')(hb:JP b H H'):∀{hs:List Hd} {cs:List C} {vs:List V} {o:List Addr},Bb W σ H ρ hs vs o->Ai ρ hs=some cs->A5 W H ρ σ os->AD hs cs=true->
 (∀q∈guards hs cs,A7 ρ' q.1=some q.2/\σ'[q.1]? =σ[q.1]?)->(∀a∈o,a∉b)->Cy W H' cs vs
 |[],cs,vs,o,h,e,_,_,_,_=>by cases e;exact h.1
 | h ::hs,cs,vs,o,⟨v,r,o1,o2,e1,h1,h2,e2⟩,e,hR,hg,hgs,hd=>by
   unfold Ai at e;obtain⟨c,ec,e⟩:=oB e;obtain⟨ds,ed,rfl⟩:=oM e;subst e2;obtain⟨hgh,hg'⟩:=CM hg
   have hgs':∀q∈guards hs ds,A7 ρ' q.1=some q.2/\σ'[q.1]? =σ[q.1]? :=λq hq=>hgs q (by
    unfold guards at hq ⊢;rw[zip_cons_cons];rw[filterMap_cons];split
    .exact hq
    .exact mC hq)
   refine⟨v,r,e1,?_,IW hR' k hb h2 ed hR hg' hgs' λa ha=>hd a (mR ha)⟩;have hrd:=Fd hR h1 ec
   by_cases hc:c.cp=true
   .cases c with
    |obj _ _=>cases hc
    |b x=>
      cases x with
      |lst _=>cases hc
      |Cv _=>cases hc
      |p x=>exact Ay.mono k hrd
      |ro x=>
        obtain⟨a,vs',ea,hs',hr⟩:=hrd;exact⟨a,vs',ea,hs'.mono k,hr.mono k⟩
   .have hc:c.cp=false:=by simpa using hc
    cases h with
    |AI d=>
      cases ec;exact(B3.frame h1 k hb λa ha=>hd a (mL ha)).rd
    |slot i=>
      have hm:(i,c)∈guards (.slot i::hs) (c::ds):=by
       unfold guards;rw[zip_cons_cons,filterMap_cons];simp[hc]
      obtain⟨g1,g2⟩:=hgs (i,c) hm;obtain⟨u,o',q1,q2,_⟩:=hR'.get g1;have q1:σ'[i]? =some (some u):=q1;have g2:σ'[i]? =σ[i]? :=g2;rw[g2,h1.1]at q1;cases q1;exact q2.rd
    |fld i f=>exact absurd rfl (hgh.resolve_left (by rw[hc];exact Bool.false_ne_true) i f)
end Iv
namespace Iv
open PySem L2
variable{W:Wd}{EX:XP}{as:List Nat}{D:Ends}{σ:St}{H:Hp}{os:List Addr}
theorem Bb.own :∀{hs:List Hd} {vs:List V} {o:List Addr},Bb W σ H ρ hs vs o->∀a∈o,∃z,H a=some z
 |[],_,_,h=>by rw[h.2];intro a ha;cases ha
 | h::hs,_,_,⟨v,r,o1,o2,_,h1,h2,e⟩=>by
   rw[e];intro a ha;rcases mem_append.mp ha with z|z
   .exact h1.own a z
   .exact Bb.own h2 a z
theorem Mv{H:Hp}{o os os':List Addr}(n:(o++os).Nodup)(n':os'.Nodup)(own:∀a∈o,∃z,H a=some z)(src:∀a∈os',a∈os\/H a=none):(o++os').Nodup:=by
 have n1:=nA n;rw[nodup_append];refine⟨n1.1,n',λa ha b hb e=>?_⟩;subst e;rcases src a hb with z|z
 .exact n1.2.2 a ha a z rfl
 .obtain⟨x,ex⟩:=own a ha;rw[z]at ex;cases ex
theorem Ik{gs:List (Nat×C)}(h:holds gs ρ=true):∀q∈gs,A7 ρ q.1=some q.2:=λq hq=>by
 unfold holds at h;exact of_decide_eq_true (all_eq_true.mp h q hq)
variable{F:Env->Res (List Hd)}
theorem ab{k:IK}{g:Tg}{bs:List Nat}{B:Env->Res Fl}(hi:∀i∈g.slots,i < σ.length)(h:tS W EX (g.slots++bs) (λρ=>(F ρ).bind (NN k g bs B)) D σ H):ZI (N2 W EX k F) (gT W g) (tS W EX bs B) D σ H:=by
 obtain⟨ρ,os,hR,hn,hA⟩:=h
 try dsimp only at hA
 refine⟨ρ,os,hR,hn,after hR hA λhs ρ1 vs H1 o1 os1 h1 h2 h3 h4 h5=>?_⟩;unfold NN at h5;cases ec:Ai ρ1 hs with
 |none=>rw[ec]at h5;exact h5.elim
 |some cs =>
   rw[ec]at h5;dsimp only at h5;cases ex:Aw k cs with
   |none=>rw[ex]at h5;exact h5.elim
   |some xs =>
     rw[ex]at h5;dsimp only at h5;refine⟨cs,xs,DC h2 h1 ec,ex,λJ hJ=>?_⟩;split at h5
     case isFalse=>exact h5.elim
     rename_i hgd;rw[bA]at hgd
     have hgs:∀q∈guards hs cs,q.1∉g.slots++bs:=λq hq z=>by
      have:=all_eq_true.mp hgd.2 q hq;simp only[Bool.not_eq_true',List.contains_eq_mem,decide_eq_false_iff_not]at this;exact this z
     have own1:=Bb.own h1
     refine⟨λi m σ' H'=>m=xs.length - i/\i<=xs.length/\∃ρ' os',A5 W H' ρ' σ' os'/\(o1++os').Nodup/\AR H1 H' os1 os'/\AQ (g.slots++bs) σ σ'/\CO W EX (g.slots++bs) D σ' H' (o1++os') (forL g (guards hs cs) B (xs.drop i) ρ'),
      ⟨xs.length,rfl,Nat.zero_le _,ρ1,os1,h2,h3,AR.refl _ _,AQ.refl _ _,h5⟩,?_⟩
     rintro i m σ' H' ⟨rfl,hix,ρ',os',hR',hn',hF',hU',hA'⟩
     have k1:AK H1 H':=hF'.but.keep h2.own;have rd:holds (guards hs cs) ρ'=true->Cy W H' cs vs:=λhh=>IW hR' k1 hF'.but h1 ec h2 hgd.1 (λq hq=>⟨Ik hh q hq,hU'.2 q.1 (hgs q hq)⟩) λa ha z=>(nA h3).2.2 a ha a z rfl
     have nd':=(nA hn').2.1
     by_cases hlt:i < xs.length
     .rw [List.drop_eq_getElem_cons hlt]at hA';unfold forL at hA';split at hA'
      case isFalse=>exact hA'.elim
      rename_i hh;have hrd:=rd hh
      refine .inr ⟨hJ.go i H' hrd hlt,λσ2 H2=>∃ρ' os',A5 W H2 ρ' σ2 os'/\(o1++os').Nodup/\AR H1 H2 os1 os'/\AQ (g.slots++bs) σ σ2/\CO W EX (g.slots++bs) D σ2 H2 (o1++os') (forL g (guards hs cs) B (xs.drop (i + 1)) ρ'),
       λσ2 H2 z=>⟨xs.length-(i+1),by lia,rfl,hlt,z⟩,λx H'' hy=>?_⟩
      obtain⟨s2,p,ep,rp⟩:=hJ.O4 i H' x H'' hrd hlt hy;have ep:xs[i]=p:=by rw[List.getElem?_eq_getElem hlt]at ep;exact Option.some.inj ep
      rw[ep]at hA';cases es:DY g p ρ' with
      |none=>rw[es]at hA';exact hA'.elim
      |some ρ2=>
        rw[es]at hA'
        have hA':CO W EX (g.slots++bs) D σ' H' (o1++os') ((B ρ2).bind λf ρ=>match f with
         |.nx=>forL g (guards hs cs) B (xs.drop (i+1)) ρ
         |.cnt=>forL g (guards hs cs) B (xs.drop (i+1)) ρ
         |.brk=>.ok .nx ρ
         |.ret r=>.ok (.ret r) ρ):=hA'
        refine Qc es rp (hR'.same s2) nd' (λj hj=>by rw[hU'.1];exact hi j hj) λσ2 os2 g1 g2 g3 g4=>?_
        refine⟨ρ2,os2,g1,g2,?_⟩;have m1:∀i∈g.slots,i∈g.slots++bs:=λi hi=>mL hi
        have m2:∀i∈bs,i∈g.slots++bs:=λi hi=>mR hi
        have fr2:AR H' H'' (o1++os') (o1++os2):=.of s2 λa ha=>by
         rcases mem_append.mp ha with z|z
         .exact .inl (mL z)
         .exact .inl (mR (g3 a z))
        have hA2:=hA'.later fr2 (g4.mono m1)
        have own2:∀a∈o1,∃z,H'' a=some z:=λa ha=>by
         obtain⟨z,ez⟩:=own1 a ha;obtain⟨z',ez'⟩:=hF'.there a z ez;exact⟨z',s2 a z' ez'⟩
        have n2:(o1++os2).Nodup:=Mv hn' g2 (λa ha=>by
         obtain⟨z,ez⟩:=own1 a ha
         exact hF'.there a z ez) λa ha=>.inl (g3 a ha)
        have go:∀σ3 H3 os3 ρ3,A5 W H3 ρ3 σ3 os3->os3.Nodup->AR H'' H3 os2 os3->AQ bs σ2 σ3->CO W EX (g.slots++bs) D σ2 H'' (o1++os2) (forL g (guards hs cs) B (xs.drop (i + 1)) ρ3)->
         ∃ρ' os',A5 W H3 ρ' σ3 os'/\(o1++os').Nodup/\AR H1 H3 os1 os'/\AQ (g.slots++bs) σ σ3/\CO W EX (g.slots++bs) D σ3 H3 (o1++os') (forL g (guards hs cs) B (xs.drop (i+1)) ρ'):=λσ3 H3 os3 ρ3 r1 r2 r3 r4 r6=>by
         refine⟨ρ3,os3,r1,Mv n2 r2 own2 r3.src,?_,(hU'.trans (g4.mono m1)).trans (r4.mono m2),r6.later (r3.more o1) (r4.mono m2)⟩;have f1:AR H' H'' os' os2:=.of s2 λa ha=>.inl (g3 a ha)
         exact(hF'.trans f1).trans r3
        cases eB:B ρ2 with
        |stuck=>rw[eB]at hA2;exact hA2
        |err x p ρ3=>
          rw[eB]at hA2;exact λσ3 H3 os3 r1 r2 r3 r4=>hA2 σ3 H3 os3 r1 r2 (r3.weak λa ha=>mR ha) (r4.mono m2)
        |ok f ρ3=>
          rw[eB,Res.A3]at hA2;cases f with
          |nx=>exact λσ3 H3 os3 r1 r2 r3 r4=>go σ3 H3 os3 ρ3 r1 r2 r3 r4 hA2
          |cnt=>exact λσ3 H3 os3 r1 r2 r3 r4=>go σ3 H3 os3 ρ3 r1 r2 r3 r4 hA2
          |brk=>exact λσ3 H3 os3 r1 r2 r3 r4=>hA2 σ3 H3 os3 r1 r2 (r3.weak λa ha=>mR ha) (r4.mono m2)
          |ret c=>exact λv σ3 H3 o3 os3 r0 r1 r2 r3 r4=>hA2 v σ3 H3 o3 os3 r0 r1 r2 (r3.weak λa ha=>mR ha) (r4.mono m2)
     .have e:i=xs.length:=by lia
      subst e;rw[List.drop_length]at hA';unfold forL at hA';split at hA'
      case isFalse=>exact hA'.elim
      rename_i hh;exact .inl ⟨hJ.stop H' (rd hh),hA' σ' H' os' hR' nd' ((AR.refl _ _).sub λa ha=>mR ha) (AQ.refl _ _)⟩
noncomputable def K3(W:Wd)(r:List C->CR):Sp:=λvs H Q _=>∃cs os,A5 W H (cs.map some) (vs.map some) os/\os.Nodup/\match r cs with
 |.stuck=>False
 |.ok c outs=>∀v H' o oos,B3 W H' c v o->A5 W H' outs (vs.map some) oos->(o++oos).Nodup->AR H H' os (o++oos)->Q v H'
 |.err _ _=>False
theorem DQ(h:Hd)(hs:List Hd)(c:C)(cs:List C):BH (h::hs) (c::cs)=(if c.cp then[]else match h with| .slot i=>[i]| .fld i _=>[i]| .AI _=>[])++BH hs cs:=by
 unfold BH;rw[zip_cons_cons,filterMap_cons]
 by_cases hc:c.cp=true
 .simp[hc]
 .cases h<;>simp[hc]
theorem U6{h:Hd}{c:C}(hR:A5 W H ρ σ os)(hh:EA W σ H ρ h v o)(e:h.cont ρ=some c)(hc:c.cp=true):B3 W H c v []:=by
 have hrd:=Fd hR hh e;cases c with
 |obj _ _=>cases hc
 |b x=>
   cases x with
   |lst _=>cases hc
   |Cv _=>cases hc
   |p x=>exact⟨hrd,rfl⟩
   |ro x=>exact⟨hrd,rfl⟩
theorem Fb{l:List Nat}{i:Nat}(h:i∉l):∀{ρ:Env},A7 (l.foldl (λr i=>r.set i none) ρ) i=A7 ρ i:=by
 induction l with
 |nil=>intro ρ;rfl
 |cons j l ih=>
   intro ρ;rw[foldl_cons,ih (λz=>h (mC z))];unfold A7;rw[List.getElem?_set_ne];exact λz=>h (z▸mS)
theorem EW{os0:List Addr}(hR0:A5 W H ρ0 σ os0):∀{hs:List Hd} {cs:List C} {vs:List V} {o:List Addr} {ρ:Env} {os:List Addr},Bb W σ H ρ0 hs vs o->Ai ρ0 hs=some cs->AD hs cs=true->(BH hs cs).Nodup->
 (∀j∈BH hs cs,A7 ρ j=A7 ρ0 j)->A5 W H ρ σ os->∃oa or_,A5 W H (cs.map some) (vs.map some) oa/\A5 W H ((BH hs cs).foldl (λr i=>r.set i none) ρ) σ or_/\(oa++or_).Perm (o++os)
 | [],cs,vs,o,ρ,os,h,e,_,_,_,hR=>by
   cases e;obtain⟨rfl,rfl⟩:=h;exact⟨[],os,⟨rfl,rfl,hR0.tb⟩,hR,.refl _⟩
 | h ::hs,cs,vs,o,ρ,os,⟨v,r,o1,o2,e1,h1,h2,e2⟩,e,g,n,hcur,hR=>by
   unfold Ai at e;obtain⟨c,ec,e⟩:=oB e;obtain⟨ds,ed,rfl⟩:=oM e;subst e1 e2;obtain⟨g1,g2⟩:=CM g;rw[DQ]at n hcur ⊢;have n2:(BH hs ds).Nodup:=(nA n).2.1;have hcur2:∀j∈BH hs ds,A7 ρ j=A7 ρ0 j:=λj hj=>hcur j (mR hj)
   by_cases hc:c.cp=true
   .have rc:=U6 hR0 h1 ec hc;obtain⟨oa,or_,q1,q2,q3⟩:=EW hR0 h2 ed g2 n2 hcur2 hR
    have ho1:o1=[]:=by
     cases h with
     |AI d=>cases ec;exact B3.cp h1 hc
     |slot i=>exact h1.2
     |fld i f=>exact h1.1
    subst ho1;rw[iP hc];exact⟨oa,or_,⟨v,r.map some,[],oa,rfl,rc,q1,rfl⟩,q2,q3⟩
   .have hcf:c.cp=false:=by simpa using hc
    rw[iN hc]at n hcur ⊢;cases h with
    |fld i f=>exact absurd rfl (g1.resolve_left hc i f)
    |AI d=>
      cases ec;obtain⟨oa,or_,q1,q2,q3⟩:=EW hR0 h2 ed g2 n2 hcur2 hR;refine⟨o1++oa,or_,⟨v,r.map some,o1,oa,rfl,h1,q1,rfl⟩,q2,?_⟩;rw[append_assoc,append_assoc];exact q3.append_left o1
    |slot i=>
      have ec:A7 ρ0 i=some c:=ec;have hi:A7 ρ i=some c:=(hcur i (mL mS)).trans ec;obtain⟨u,oi,osr,t1,t2,t3,t4⟩:=hR.take hi;rw[h1.1]at t1;cases t1;have hni:i∉BH hs ds:=λz=>(nA n).2.2 i mS i z rfl
      obtain⟨oa,or_,q1,q2,q3⟩:=EW hR0 h2 ed g2 n2 (λj hj=>by
       rw[<-hcur2 j hj];unfold A7;rw[List.getElem?_set_ne]
       exact λz=>hni (z▸hj)) t3
      have ho1:o1=[]:=h1.2;subst ho1;refine⟨oi++oa,or_,⟨v,r.map some,oi,oa,rfl,t2,q1,rfl⟩,q2,?_⟩;rw[append_assoc];refine(q3.append_left oi).trans ?_;refine List.Perm.trans ?_ (t4.append_left ([]++o2));rw[nil_append,<-append_assoc,<-append_assoc];exact perm_append_comm.append_right osr
theorem Fj :∀{hs:List Hd} {cs:List C} {vs:List V} {outs:List (Option C)} {o0:List Addr} {H0:Hp} {ρ ρ':Env} {os oos:List Addr},Bb W σ H0 ρ0 hs vs o0->back ρ hs cs outs=some ρ'->A5 W H outs (vs.map some) oos->A5 W H ρ σ os->(oos++os).Nodup->
 (BH hs cs).Nodup->(∀j∈BH hs cs,A7 ρ j=none/\j < ρ.length)->∃os',A5 W H ρ' σ os'/\os'.Nodup/\∀a∈os',a∈oos++os
 | [],cs,vs,outs,o0,H0,ρ,ρ',os,oos,h,e,ro,hR,n,_,_=>by
   cases cs with
   |nil=>
     unfold back at e;cases e;exact⟨os,hR,(nA n).2.1,λa ha=>mR ha⟩
   |cons c cs=>unfold back at e;cases e
 | h ::hs,cs,vs,outs,o0,H0,ρ,ρ',os,oos,⟨v,r,o1,o2,e1,h1,h2,e2⟩,e,ro,hR,n,nl,hem=>by
   subst e1;cases cs with
   |nil=>cases h<;>(unfold back at e;cases e)
   |cons c cs =>
     cases outs with
     |nil=>cases h<;>(unfold back at e;cases e)
     |cons out outs=>
       rw[DQ]at nl hem;have nl2:=(nA nl).2.1;have hem2:∀j∈BH hs cs,A7 ρ j=none/\j < ρ.length:=λj hj=>hem j (mR hj)
       obtain⟨of_,or_,hof,hrest,hoos⟩:∃of_ or_,(∀c',out=some c'->B3 W H c' v of_)/\A5 W H outs (r.map some) or_/\oos=of_++or_:=by
        cases out with
        |none=>
          obtain⟨x,r',z1,z2⟩:=ro;cases z1;exact⟨[],oos,(λ_ z=>by cases z),z2,rfl⟩
        |some c'=>
          obtain⟨v',r',o1',o2',z1,z2,z3,z4⟩:=ro;cases z1;exact⟨o1',o2',(λ_ z=>by cases z;exact z2),z3,z4⟩
       subst hoos
       have nr:(or_++os).Nodup:=by
        rw[append_assoc]at n;exact(nA n).2.1
       have skip:back ρ hs cs outs=some ρ'->∃os',A5 W H ρ' σ os'/\os'.Nodup/\∀a∈os',a∈(of_++or_)++os:=λe=>by
        obtain⟨os',q1,q2,q3⟩:=Fj h2 e hrest hR nr nl2 hem2;refine⟨os',q1,q2,λa ha=>?_⟩;rcases mem_append.mp (q3 a ha)with z|z
        .exact mL (mR z)
        .exact mR z
       by_cases hc:c.cp=true
       .cases h with
        |AI d=>exact skip e
        |slot i=>unfold back at e;rw[iP hc]at e;exact skip e
        |fld i f=>unfold back at e;rw[iP hc]at e;exact skip e
       .cases h with
        |AI d=>exact skip e
        |fld i f=>unfold back at e;rw[iN hc]at e;cases e
        |slot i=>
          unfold back at e;rw[iN hc]at e nl hem;have hi:=hem i (mL mS);have hni:i∉BH hs cs:=λz=>(nA nl).2.2 i mS i z rfl
          have hem3:∀(x:Option C),∀j∈BH hs cs,A7 (ρ.set i x) j=none/\j < (ρ.set i x).length:=λx j hj=>by
           refine⟨?_,by rw[length_set];exact(hem2 j hj).2⟩;have ne:i≠j:=λz=>hni (by rw[z];exact hj)
           have:=(hem2 j hj).1;unfold A7 at this ⊢;rw[List.getElem?_set_ne ne];exact this
          cases out with
          |none=>
            obtain⟨os1,t1,od,t2⟩:=hR.drop i
            obtain⟨os',q1,q2,q3⟩:=Fj h2 e hrest t1 (by
             have:=nr;rw[nodup_append]at this ⊢;have p2:=(nA (t2.nodup_iff.mpr this.2.1)).2.1
             exact⟨this.1,p2,λa ha b hb=>this.2.2 a ha b (t2.subset (mR hb))⟩) nl2 (hem3 none)
            refine⟨os',q1,q2,λa ha=>?_⟩;rcases mem_append.mp (q3 a ha)with z|z
            .exact mL (mR z)
            .exact mR (t2.subset (mR z))
          |some c'=>
            obtain⟨os1,t1,t2⟩:=A5.fill (hof c' rfl) hR hi.1 hi.2;rw[set_same h1.1]at t1
            have p1:(or_++os1).Perm ((of_++or_)++os):=by
             refine(t2.append_left or_).trans ?_;rw[<-append_assoc];exact perm_append_comm.append_right os
            obtain⟨os',q1,q2,q3⟩:=Fj h2 e hrest t1 (p1.nodup_iff.mpr n) nl2 (hem3 (some c'));exact⟨os',q1,q2,λa ha=>p1.subset (q3 a ha)⟩
theorem CN{l:List Nat}:∀{ρ:Env},(l.foldl (λr i=>r.set i none) ρ).length=ρ.length:=by
 induction l with
 |nil=>intro ρ;rfl
 |cons j l ih=>intro ρ;rw[foldl_cons,ih,length_set]
theorem Cn{l:List Nat}{i:Nat}(h:i∈l):∀{ρ:Env},A7 (l.foldl (λr i=>r.set i none) ρ) i=none:=by
 induction l with
 |nil=>cases h
 |cons j l ih=>
   intro ρ;rw[foldl_cons]
   by_cases hi:i∈l
   .exact ih hi
   .have:i=j:=(mK h).resolve_right hi;subst this;rw[Fb hi];unfold A7;rw[List.getElem?_set_self'];cases ρ[i]?<;>rfl
theorem Jb{ρ:Env}:∀{hs:List Hd} {cs:List C},Ai ρ hs=some cs->AD hs cs=true->∀j∈BH hs cs,j < ρ.length
 |[],cs,e,_,j,hj=>by cases e;cases hj
 | h ::hs,cs,e,g,j,hj=>by
   unfold Ai at e;obtain⟨c,ec,e⟩:=oB e;obtain⟨ds,ed,rfl⟩:=oM e;obtain⟨g1,g2⟩:=CM g;rw[DQ]at hj;rcases mem_append.mp hj with z|z
   .by_cases hc:c.cp=true
    .rw[iP hc]at z;cases z
    .rw[iN hc]at z;cases h with
     |AI d=>cases z
     |fld i f=>exact absurd rfl (g1.resolve_left hc i f)
     |slot i=>
       rw[mE z];exact BW ec
   .exact Jb ed g2 j z
variable{vs:List V}
theorem Tx{r:List C->CR}{hs:List Hd}{cs:List C}{os1:List Addr}{Q:VK}{E:XK}(h1:Bb W σ H ρ1 hs vs o1)(h2:A5 W H ρ1 σ os1)(h3:(o1++os1).Nodup)(ec:Ai ρ1 hs=some cs)(hg:(BH hs cs).Nodup/\AD hs cs=true)
 {outs:List (Option C)}(er:r cs= .ok c outs){ρ2:Env}(eb:back (lend ρ1 hs cs) hs cs outs=some ρ2)(hA:C5 W EX (rV W σ) H (o1++os1) σ (.ok c ρ2) Q):K3 W r vs H Q E:=by
 obtain⟨oa,or_,q1,q2,q3⟩:=EW h2 h1 ec hg.2 hg.1 (λ_ _=>rfl) h2;have q2:A5 W H (lend ρ1 hs cs) σ or_:=q2;have na:=q3.nodup_iff.mpr h3;have na':=nA na;refine⟨cs,oa,q1,na'.1,?_⟩;rw[er];intro v H' o oos r1 r2 r3 r4;have k1:AK H H':=r4.but.keep q1.own;have q2':A5 W H' (lend ρ1 hs cs) σ or_:=q2.frame r2.tb k1 r4.but λa ha z=>na'.2.2 a z a ha rfl
 have r3':=nA r3
 have ndo:∀a∈o++oos,a∉or_:=λa ha z=>by
  rcases r4.src a ha with y|y
  .exact na'.2.2 a y a z rfl
  .obtain⟨x,ex,_⟩:=q2.own a z;rw[y]at ex;cases ex
 obtain⟨os',t1,t2,t3⟩:=Fj (ρ0:=ρ1) h1 eb r2 q2' (by
  rw[nodup_append]
  exact⟨r3'.2.1,na'.2.1,λa ha b hb z=>ndo a (mR ha) (z▸hb)⟩) hg.1 λj hj=>⟨Cn hj,by
   show j < ((BH hs cs).foldl _ ρ1).length;rw[CN]
   exact Jb ec hg.2 j hj⟩
 have hA:∀v H' o os',rV W σ H' ρ2 c v o->A5 W H' ρ2 σ os'->(o++os').Nodup->AR H H' (o1++os1) (o++os')->Q v H':=hA;refine hA v H' o os' r1 t1 ?_ ?_
 .rw[nodup_append];refine⟨r3'.1,t2,λa ha b hb z=>?_⟩;subst z;rcases mem_append.mp (t3 a hb)with y|y
  .exact r3'.2.2 a ha a y rfl
  .exact ndo a (mL ha) y
 .have f1:=(r4.more or_).perm (perm_append_comm.trans q3) (.refl _);refine f1.sub λa ha=>?_
  rcases mem_append.mp ha with z|z
  .exact mR (mL z)
  .rcases mem_append.mp (t3 a z)with y|y
   .exact mR (mR y)
   .exact mL y
theorem Gw{cf:CF}{f:Nat}{Q:VK}{E:XK}(hE:∀cs x p,cf f cs≠.err x p)(h:tG W EX (rV W) (λρ=>(F ρ).bind λhs ρ=>AH cf f hs ρ) σ H Q):tG W EX (Bb W) F σ H λvs H1=>K3 W (cf f) vs H1 Q E:=by
 obtain⟨ρ,os,hR,hn,hA⟩:=h;dsimp only at hA;refine⟨ρ,os,hR,hn,?_⟩;unfold C5;cases eF:F ρ with
 |stuck=>rw[eF]at hA;exact hA
 |err x p ρ'=>rw[eF]at hA;exact hA
 |ok hs ρ1=>
   rw[eF,Res.A3]at hA;intro vs H1 o1 os1 h1 h2 h3 h4;have hA:=C5.shift hA h4;unfold AH at hA;cases ec:Ai ρ1 hs with
   |none=>rw[ec]at hA;exact hA.elim
   |some cs=>
     rw[ec]at hA;dsimp only at hA;split at hA
     case isFalse=>exact hA.elim
     rename_i hg;cases ecf:cf f cs with
     |stuck=>rw[ecf]at hA;exact hA.elim
     |err x p=>exact absurd ecf (hE cs x p)
     |ok c outs=>
       rw[ecf]at hA;cases eb:back (lend ρ1 hs cs) hs cs outs with
       |none=>dsimp only at hA;rw[eb]at hA;exact hA.elim
       |some ρ2=>
         dsimp only at hA;rw[eb]at hA;exact Tx h1 h2 h3 ec hg ecf eb hA
theorem Bt.addr(h:Bt W H b (.ref a) o)(nb:C.cp (.b b)=false):o=[a]:=by
 cases b with
 |p x=>cases nb
 |ro x=>cases nb
 |lst ps=>obtain⟨a',vs,e,_,_,rfl⟩:=h;cases e;rfl
 |Cv kvs=>obtain⟨a',e,_,rfl⟩:=h;cases e;rfl
theorem Dh{a:Addr}{l:List Addr}(h:a∈l):JP l H (upd H a x):=λb y e n _=>by
 have ne:b≠a:=λz=>n (by rw[z];exact h)
 rw[Ab ne];exact e
theorem Ba.upd(k:AK H (upd H a x'))(hb':Bt W (upd H a x') b' (.ref a) [a]):∀{fs:List (Str×B)} {vs:List (Str×V)} {o:List Addr} {b:B},Ba W H fs vs o->o.Nodup->fs.lookup f=some b->C.cp (.b b)=false->vs.lookup f=some (.ref a)->Ba W (L2.upd H a x') (Bf f b' fs) vs o
 |[],_,_,_,_,_,e,_,_=>by simp at e
 | (g, c)::fs,_,_,b,⟨v,r,o1,o2,e1,h1,h2,e⟩,n,el,nb,ev=>by
   subst e1 e;rw[lookup_cons]at el ev;have n':=nA n;unfold Bf;cases hg:f == g with
   |true=>
     rw[hg]at el ev;cases el;cases ev;have:g=f:=(eq_of_beq hg).symm;subst this;rw[iP rfl];have ho:=h1.addr nb;subst ho;exact⟨_,r,[a],o2,rfl,hb',h2.frame k (Dh (l:=[a]) mS) (λb hb z=>n'.2.2 a mS b hb (mE z).symm),rfl⟩
   |false=>
     rw[hg]at el ev;dsimp only at el ev;rw[iN (λz=>by rw[z]at hg;simp at hg)]
     have ha:a∈o2:=by
      obtain⟨u,o',q1,q2,q3⟩:=h2.look el;rw[ev]at q1;cases q1;have:=q2.addr nb;subst this;exact q3 a mS
     exact⟨v,r,o1,o2,rfl,h1.frame k (Dh (l:=[a]) mS) (λb hb z=>n'.2.2 b hb a ha (mE z)),Ba.upd k hb' h2 n'.2.1 el nb ev,rfl⟩
theorem N4{ρ':Env}{h:Hd}(hR:A5 W H ρ σ os)(hn:os.Nodup)(hc:h.cont ρ=some (.b b))(hh:EA W σ H ρ h (.ref a) o)(nb:C.cp (.b b)=false)
 (hb':Bt W (upd H a x') b' (.ref a) [a])(k:AK H (upd H a x'))(es:setB ρ h b'=some ρ'):∃os',A5 W (upd H a x') ρ' σ os'/\os'.Perm os/\AR H (upd H a x') os os':=by
 have fin:a∈os->∀os',os'.Perm os->AR H (upd H a x') os os':=λha os' p=>⟨Dh ha,λc hc=>.inl (p.subset hc),λc y e=>by
  by_cases hca:c=a
  .subst hca;exact⟨_,Ar⟩
  .exact⟨y,by rw[Ab hca];exact e⟩⟩
 cases h with
 |AI c=>cases es
 |slot i=>
   cases es;have hc:A7 ρ i=some (.b b):=hc;obtain⟨v,oi,osr,t1,t2,t3,t4⟩:=hR.take hc;rw[hh.1]at t1;cases t1;have hoi:oi=[a]:=Bt.addr t2 nb;subst hoi;have nd:=nA (t4.nodup_iff.mpr hn);have t3':=t3.frame (let⟨_,e,n⟩:=Bt.nt t2;t3.tb.upd k e n) k (Dh (x:=x') (l:=[a]) mS) λc hc z=>nd.2.2 a mS c hc (mE z).symm
   obtain⟨os2,u1,u2⟩:=A5.fill (c:=.b b') (v:=.ref a) (o:=[a]) hb' t3' (Bi (BW hc)) (by rw[length_set];exact BW hc);rw[set_set,set_same hh.1]at u1;have p:=u2.trans t4;exact⟨os2,u1,p,fin (t4.subset (mL mS)) os2 p⟩
 |fld i f=>
   obtain⟨_,a0,C0,dx,fs0,e1,e2,e3⟩:=hh;have hc:Br ρ i f=some (.b b):=hc;unfold Br at hc;unfold setB at es;dsimp only at es;cases hg:A7 ρ i with
   |none=>rw[hg]at hc;cases hc
   |some d=>
     rw[hg]at hc es;cases d with
     |b y=>cases hc
     |obj kk fs=>
       have hl:fs.lookup f=some b:=by
        obtain⟨z,ez,e⟩:=oM hc;cases e;exact ez
       cases es;obtain⟨v,oi,osr,t1,t2,t3,t4⟩:=hR.take hg;rw[e1]at t1;cases t1;obtain⟨a',dx',vs,osf,z,q1,q2,q3,q4⟩:=t2;cases z;rw[e2]at q1;cases q1;subst q3;have nd:=nA (t4.nodup_iff.mpr hn);have nf:=nodup_cons.mp nd.1
       obtain⟨haf,_,hny,hnt⟩:a∈osf/\∃y,H a=some y/\Ii y=false:=by
        obtain⟨u,o',y1,y2,y3⟩:=q2.look hl;rw[e3]at y1;cases y1;have:=y2.addr nb;subst this;exact⟨y3 a mS,Bt.nt y2⟩
       have ne:a0≠a:=λz=>nf.1 (z▸haf)
       have q2':=q2.upd k hb' nf.2 hl nb e3;have t3':=t3.frame (t3.tb.upd k hny hnt) k (Dh (x:=x') (l:=[a]) mS) λc hc z=>nd.2.2 a (mC haf) c hc (mE z).symm
       obtain⟨os2,u1,u2⟩:=A5.fill (c:=.obj kk (Bf f b' fs)) (v:=.ref a0) (o:=a0::osf) ⟨a0,dx,fs0,osf,rfl,by rw[Ab ne];exact e2,q2',rfl,q4.put (q4.2.1 _ (PySem.mem_of_lookup hl))⟩ t3' (Bi (BW hg)) (by rw[length_set];exact BW hg);rw[set_set,set_same e1]at u1;have p:=u2.trans t4;exact⟨os2,u1,p,fin (t4.subset (mL (mC haf))) os2 p⟩
theorem F5(h:H a=some (.lst vs)):AK H (upd H a x'):=λb=>by
 by_cases hb:b=a
 .subst hb;refine⟨λxs z=>?_,λo u z=>?_⟩
  .rw[h]at z;cases z
  .rw[h]at z;cases z
 .rw[Ab hb];exact⟨λ_ z=>z,λ_ _ z=>z⟩
def L5(W:Wd)(m:MO)(r:V->List V->Hp->VK->Prop):Prop:=∀(H:Hp) (a:Addr) (b b':B) (cs:List C) (c:C) (vs:List V) (Q:VK),Bt W H b (.ref a) [a]->C.cp (.b b)=false->Cy W H cs vs->Ei m b cs=some (c,b')->
 (∀v x',Bt W (upd H a x') b' (.ref a) [a]->AK H (upd H a x')->B3 W (upd H a x') c v []->Q v (upd H a x'))->r (.ref a) vs H Q
theorem Se(h:Cy W H [] vs):vs=[]:=h
theorem BV{c:C}(h:Cy W H [c] vs):∃v,vs=[v]/\Dq W H c v:=by
 obtain⟨v,r,rfl,r1,r2⟩:=h;have r2:r=[]:=r2;subst r2;exact⟨v,rfl,r1⟩
theorem J5{m:MO}{r:V->List V->Hp->VK->Prop}(h:∀(H:Hp) (a:Addr) (ps:List P) (xs:List V) (b':B) (cs:List C) (c:C) (vs:List V) (Q:VK),H a=some (.lst xs)->A2 W H ps xs->Cy W H cs vs->Ei m (.lst ps) cs=some (c,b')->
 (∀v x',Bt W (upd H a x') b' (.ref a) [a]->AK H (upd H a x')->B3 W (upd H a x') c v []->Q v (upd H a x'))->r (.ref a) vs H Q):L5 W m r:=by
 intro H a b b' cs c vs Q hb nb hv e q;cases b with
 |p _=>cases nb
 |ro _=>cases nb
 |Cv _=>exact absurd e (by unfold Ei;exact nofun)
 |lst ps=>
   obtain⟨a',xs,ea,h1,h2,_⟩:=hb;cases ea;exact h H a ps xs b' cs c vs Q h1 h2 hv e q
theorem Lz:L5 W .append Mn:=J5 λH a ps xs b' cs c vs Q h1 h2 hv e q=>by
 have e:Cf ps cs=some (c,b'):=e;unfold Cf at e;split at e
 .rename_i x;split at e
  .rename_i hl;cases e;obtain⟨v,rfl,r1⟩:=BV hv;have k:=F5 (x':=.lst (xs++[v])) h1;refine⟨a,xs,v,rfl,rfl,h1,by rw[h2.length];exact Nat.lt_of_lt_of_le hl BU,?_⟩;exact q .Az (.lst (xs++[v])) ⟨a,xs++[v],rfl,Ar,A2.append (.cons (Ay.mono k r1) .nil) (h2.mono k),rfl⟩ k ⟨Ae.mpr rfl,rfl⟩
  .cases e
 .cases e
theorem SU:L5 W .pop ar:=J5 λH a ps xs b' cs c vs Q h1 h2 hv e q=>by
 have e:NA ps cs=some (c,b'):=e;unfold NA at e;split at e
 .have hv:=Se hv;subst hv;obtain⟨x,ex,e⟩:=oM e;cases e;have k:=F5 (x':=.lst xs.dropLast) h1;rw[List.getLast?_eq_getElem?]at ex;obtain⟨v,ev,rv⟩:=h2.get ex;refine⟨a,xs,v,rfl,rfl,h1,by rw[h2.length];exact ev,?_⟩
  have hd:A2 W H ps.dropLast xs.dropLast:=by
   rw[List.dropLast_eq_take,List.dropLast_eq_take,h2.length];exact h2.take _
  exact q v (.lst xs.dropLast) ⟨a,xs.dropLast,rfl,Ar,hd.mono k,rfl⟩ k ⟨rv.mono k,rfl⟩
 .cases e
end Iv
namespace Iv
open PySem L2 PyProof.Rows
section
variable{Pg:Program}{W:Wd}{H:Hp}
theorem MI{ps qs:List P}:decide (P.tup ps=P.tup qs)=decide (ps=qs):=by
 by_cases h:ps=qs
 .subst h;simp
 .rw[dF h,dF (λz=>h (P.tup.inj z))]
theorem WC:∀(p:P) {q:P} {v y:V} {u z:Value} {A:Around} {s:Shared},Ay W H p v->Ay W H q y->RelV v u->RelV y z->Ee Pg W.w H s.heap->W.K.In s.heap->Bc p q=true->A.units + p.depth + 1 < cLine->
 SeqAt.RcAt A s u z (decide (p=q))
 | p, q, v,y,u,z,A,s,hp,hq,r,r',Ak,C6,hc,hu=>by
   cases p with
   |fn i=>unfold Bc at hc;cases hc
   |Az=>
     cases Ae.mp hp;cases r;cases q with
     |fn b=>unfold Bc C9 at hc;cases hc
     |Az=>cases Ae.mp hq;cases r';rw[decide_eq_true rfl];exact SeqAt.RcAt.none_none
     |bl b=>cases Al.mp hq;cases r';rw[dF nofun];exact SeqAt.RcAt.none_bool _
     |int b=>cases A4.mp hq;obtain⟨t',rfl⟩:=r';rw[dF nofun];exact SeqAt.RcAt.none_int _ _
     |str b=>cases A6.mp hq;obtain⟨t',rfl⟩:=r';rw[dF nofun];exact SeqAt.RcAt.none_str _ _
     |tup qs=>
       obtain⟨b,ws,rfl,s2,r2⟩:=Ah.mp hq;cases r';obtain⟨its,v1,p1⟩:=Ao Ak C6 s2;rw[dF nofun];exact SeqAt.RcAt.none_tuple p1 (by lia)
   |bl i=>
     cases Al.mp hp;cases r;cases q with
     |fn b=>unfold Bc C9 at hc;cases hc
     |Az=>cases Ae.mp hq;cases r';rw[dF nofun];exact SeqAt.RcAt.bool_none _
     |bl b=>
       cases Al.mp hq;cases r'
       have:decide (P.bl i=P.bl b)=(i == b):=by
        by_cases h:i=b
        .subst h;simp
        .rw[dF (λz=>h (P.bl.inj z))];simp[h]
       rw[this];exact SeqAt.RcAt.bool_bool _ _
     |int b=>unfold Bc C9 at hc;cases hc
     |str b=>cases A6.mp hq;obtain⟨t',rfl⟩:=r';rw[dF nofun];exact SeqAt.RcAt.bool_str _ _ _
     |tup qs=>
       obtain⟨b,ws,rfl,s2,r2⟩:=Ah.mp hq;cases r';obtain⟨its,v1,p1⟩:=Ao Ak C6 s2;rw[dF nofun];exact SeqAt.RcAt.bool_tuple _ p1 (by lia)
   |int i=>
     cases A4.mp hp;obtain⟨t,rfl⟩:=r;cases q with
     |fn b=>unfold Bc C9 at hc;cases hc
     |Az=>cases Ae.mp hq;cases r';rw[dF nofun];exact SeqAt.RcAt.int_none _ _
     |bl b=>unfold Bc C9 at hc;cases hc
     |int b=>
       cases A4.mp hq;obtain⟨t',rfl⟩:=r'
       have:decide (P.int i=P.int b)=(i == b):=by
        by_cases h:i=b
        .subst h;simp
        .rw[dF (λz=>h (P.int.inj z))];simp[h]
       rw[this];exact SeqAt.RcAt.int_int _ _ _ _
     |str b=>cases A6.mp hq;obtain⟨t',rfl⟩:=r';rw[dF nofun];exact SeqAt.RcAt.int_str _ _ _ _
     |tup qs=>
       obtain⟨b,ws,rfl,s2,r2⟩:=Ah.mp hq;cases r';obtain⟨its,v1,p1⟩:=Ao Ak C6 s2;rw[dF nofun];exact SeqAt.RcAt.int_tuple _ _ p1 (by lia)
   |str i=>
     cases A6.mp hp;obtain⟨t,rfl⟩:=r;cases q with
     |fn b=>unfold Bc C9 at hc;cases hc
     |Az=>cases Ae.mp hq;cases r';rw[dF nofun];exact SeqAt.RcAt.str_none _ _
     |bl b=>cases Al.mp hq;cases r';rw[dF nofun];exact SeqAt.RcAt.str_bool _ _ _
     |int b=>cases A4.mp hq;obtain⟨t',rfl⟩:=r';rw[dF nofun];exact SeqAt.RcAt.str_int _ _ _ _
     |str b=>
       cases A6.mp hq;obtain⟨t',rfl⟩:=r'
       have:decide (P.str i=P.str b)=(i == b):=by
        by_cases h:i=b
        .subst h;simp
        .rw[dF (λz=>h (P.str.inj z))];simp[h]
       rw[this];exact SeqAt.RcAt.str_str _ _ _ _
     |tup qs=>
       obtain⟨b,ws,rfl,s2,r2⟩:=Ah.mp hq;cases r';obtain⟨its,v1,p1⟩:=Ao Ak C6 s2;rw[dF nofun];exact SeqAt.RcAt.str_tuple _ _ p1 (by lia)
   |tup ps=>
     obtain⟨a,vs,rfl,s1,r1⟩:=Ah.mp hp;cases r;obtain⟨its,v1,p1⟩:=Ao Ak C6 s1;cases q with
     |fn b=>unfold Bc C9 at hc;cases hc
     |Az=>cases Ae.mp hq;cases r';rw[dF nofun];exact SeqAt.RcAt.tuple_none p1 (by lia)
     |bl b=>cases Al.mp hq;cases r';rw[dF nofun];exact SeqAt.RcAt.tuple_bool _ p1 (by lia)
     |int b=>cases A4.mp hq;obtain⟨t',rfl⟩:=r';rw[dF nofun];exact SeqAt.RcAt.tuple_int _ _ p1 (by lia)
     |str b=>cases A6.mp hq;obtain⟨t',rfl⟩:=r';rw[dF nofun];exact SeqAt.RcAt.tuple_str _ _ p1 (by lia)
     |tup qs=>
       obtain⟨b,ws,rfl,s2,r2⟩:=Ah.mp hq;cases r';have hcl:CW ps qs=true:=by unfold Bc at hc;exact hc
       have hdp:(P.tup ps).depth=P.Bo ps+1:=by conv=>lhs;unfold P.depth
       obtain⟨its',v2,p2⟩:=Ao Ak C6 s2;have hu1:A.in1.units=A.units+1:=in1_units;obtain⟨e,he,hd⟩:=Ho ps (A:=A.in1) (s:=s) r1 r2 v1 v2 Ak C6 hcl (by lia);have rc:=SeqAt.RcAt.tuples (A:=A) (s:=s) (e:=e) p1 p2 (by lia) λj h1 h2=>he j _ _ (by simp at h1 ⊢) (by simp at h2 ⊢)
       rw[size_toArray,size_toArray,hd]at rc;rw[MI];exact rc
theorem Wz:∀(p:P) {q:P} {v y:V} {u z:Value} {A:Around} {s:Shared},Ay W H p v->Ay W H q y->RelV v u->RelV y z->Ee Pg W.w H s.heap->W.K.In s.heap->Bc p q=true->A.units + p.depth + 1 < cLine->
 SeqAt.RcNeAt A s u z (!decide (p=q))
 | p, q, v,y,u,z,A,s,hp,hq,r,r',Ak,C6,hc,hu=>by
   cases p with
   |fn i=>unfold Bc at hc;cases hc
   |Az=>
     cases Ae.mp hp;cases r;cases q with
     |fn b=>unfold Bc C9 at hc;cases hc
     |Az=>cases Ae.mp hq;cases r';rw[decide_eq_true rfl];exact SeqAt.RcNeAt.none_none
     |bl b=>cases Al.mp hq;cases r';rw[dF nofun];exact SeqAt.RcNeAt.none_bool _
     |int b=>cases A4.mp hq;obtain⟨t',rfl⟩:=r';rw[dF nofun];exact SeqAt.RcNeAt.none_int _ _
     |str b=>cases A6.mp hq;obtain⟨t',rfl⟩:=r';rw[dF nofun];exact SeqAt.RcNeAt.none_str _ _
     |tup qs=>
       obtain⟨b,ws,rfl,s2,r2⟩:=Ah.mp hq;cases r';obtain⟨its,v1,p1⟩:=Ao Ak C6 s2;rw[dF nofun];exact SeqAt.RcNeAt.none_tuple p1 (by lia)
   |bl i=>
     cases Al.mp hp;cases r;cases q with
     |fn b=>unfold Bc C9 at hc;cases hc
     |Az=>cases Ae.mp hq;cases r';rw[dF nofun];exact SeqAt.RcNeAt.bool_none _
     |bl b=>
       cases Al.mp hq;cases r'
       have:decide (P.bl i=P.bl b)=(i == b):=by
        by_cases h:i=b
        .subst h;simp
        .rw[dF (λz=>h (P.bl.inj z))];simp[h]
       rw[this];exact SeqAt.RcNeAt.bool_bool _ _
     |int b=>unfold Bc C9 at hc;cases hc
     |str b=>cases A6.mp hq;obtain⟨t',rfl⟩:=r';rw[dF nofun];exact SeqAt.RcNeAt.bool_str _ _ _
     |tup qs=>
       obtain⟨b,ws,rfl,s2,r2⟩:=Ah.mp hq;cases r';obtain⟨its,v1,p1⟩:=Ao Ak C6 s2;rw[dF nofun];exact SeqAt.RcNeAt.bool_tuple _ p1 (by lia)
   |int i=>
     cases A4.mp hp;obtain⟨t,rfl⟩:=r;cases q with
     |fn b=>unfold Bc C9 at hc;cases hc
     |Az=>cases Ae.mp hq;cases r';rw[dF nofun];exact SeqAt.RcNeAt.int_none _ _
     |bl b=>unfold Bc C9 at hc;cases hc
     |int b=>
       cases A4.mp hq;obtain⟨t',rfl⟩:=r'
       have:decide (P.int i=P.int b)=(i == b):=by
        by_cases h:i=b
        .subst h;simp
        .rw[dF (λz=>h (P.int.inj z))];simp[h]
       rw[this];exact SeqAt.RcNeAt.int_int _ _ _ _
     |str b=>cases A6.mp hq;obtain⟨t',rfl⟩:=r';rw[dF nofun];exact SeqAt.RcNeAt.int_str _ _ _ _
     |tup qs=>
       obtain⟨b,ws,rfl,s2,r2⟩:=Ah.mp hq;cases r';obtain⟨its,v1,p1⟩:=Ao Ak C6 s2;rw[dF nofun];exact SeqAt.RcNeAt.int_tuple _ _ p1 (by lia)
   |str i=>
     cases A6.mp hp;obtain⟨t,rfl⟩:=r;cases q with
     |fn b=>unfold Bc C9 at hc;cases hc
     |Az=>cases Ae.mp hq;cases r';rw[dF nofun];exact SeqAt.RcNeAt.str_none _ _
     |bl b=>cases Al.mp hq;cases r';rw[dF nofun];exact SeqAt.RcNeAt.str_bool _ _ _
     |int b=>cases A4.mp hq;obtain⟨t',rfl⟩:=r';rw[dF nofun];exact SeqAt.RcNeAt.str_int _ _ _ _
     |str b=>
       cases A6.mp hq;obtain⟨t',rfl⟩:=r'
       have:decide (P.str i=P.str b)=(i == b):=by
        by_cases h:i=b
        .subst h;simp
        .rw[dF (λz=>h (P.str.inj z))];simp[h]
       rw[this];exact SeqAt.RcNeAt.str_str _ _ _ _
     |tup qs=>
       obtain⟨b,ws,rfl,s2,r2⟩:=Ah.mp hq;cases r';obtain⟨its,v1,p1⟩:=Ao Ak C6 s2;rw[dF nofun];exact SeqAt.RcNeAt.str_tuple _ _ p1 (by lia)
   |tup ps=>
     obtain⟨a,vs,rfl,s1,r1⟩:=Ah.mp hp;cases r;obtain⟨its,v1,p1⟩:=Ao Ak C6 s1;cases q with
     |fn b=>unfold Bc C9 at hc;cases hc
     |Az=>cases Ae.mp hq;cases r';rw[dF nofun];exact SeqAt.RcNeAt.tuple_none p1 (by lia)
     |bl b=>cases Al.mp hq;cases r';rw[dF nofun];exact SeqAt.RcNeAt.tuple_bool _ p1 (by lia)
     |int b=>cases A4.mp hq;obtain⟨t',rfl⟩:=r';rw[dF nofun];exact SeqAt.RcNeAt.tuple_int _ _ p1 (by lia)
     |str b=>cases A6.mp hq;obtain⟨t',rfl⟩:=r';rw[dF nofun];exact SeqAt.RcNeAt.tuple_str _ _ p1 (by lia)
     |tup qs=>
       obtain⟨b,ws,rfl,s2,r2⟩:=Ah.mp hq;cases r';have hcl:CW ps qs=true:=by unfold Bc at hc;exact hc
       have hdp:(P.tup ps).depth=P.Bo ps+1:=by conv=>lhs;unfold P.depth
       obtain⟨its',v2,p2⟩:=Ao Ak C6 s2;have hu1:A.in1.units=A.units+1:=in1_units;obtain⟨e,he,hd⟩:=Ho ps (A:=A.in1) (s:=s) r1 r2 v1 v2 Ak C6 hcl (by lia);have rc:=SeqAt.RcNeAt.tuples (A:=A) (s:=s) (e:=e) p1 p2 (by lia) λj h1 h2=>he j _ _ (by simp at h1 ⊢) (by simp at h2 ⊢)
       rw[size_toArray,size_toArray,hd]at rc;rw[MI];exact rc
end
variable{X:Cx}{W:Wd}
def Cw(o:O):C->C->Option C:=λa b=>(Dg o a b).map λx=>.p (.bl x)
theorem B9{c:C}(h:Cw o a b=some c):∃x,Dg o a b=some x/\c= .p (.bl x):=by
 obtain⟨x,h1,h2⟩:=oM h;exact⟨x,h1,h2.symm⟩
variable{H:Hp}
theorem Ez.bl{b:Bool}{Q:VK}(q:Ez W H (.p (.bl b)) Q):Q (.bl b) H:=q.plain (Al.mpr rfl)
theorem Qp{a b:P}{x:Bool}(h:Fp a b=some x):Bc a b=true/\a.depth<=60/\b.depth<=60/\x=decide (a=b):=by
 unfold Fp at h;split at h
 .rename_i hc;rw[bA,bA]at hc;exact⟨hc.1.1,of_decide_eq_true hc.1.2,of_decide_eq_true hc.2,(Option.some.inj h).symm⟩
 .cases h
theorem NQ{x:Bool}(h:Qo a b=some x):CW a b=true/\P.Bo a<=60/\P.Bo b<=60/\x=decide (a=b):=by
 unfold Qo at h;split at h
 .rename_i hc;rw[bA,bA]at hc;exact⟨hc.1.1,of_decide_eq_true hc.1.2,of_decide_eq_true hc.2,(Option.some.inj h).symm⟩
 .cases h
variable{xs:List V}{pins:List (Addr×Obj)}{s:Shared}
theorem PJ{ps qs:List P}{ys:List V}{σ:L2.St}(hK:W.K=X.K)(hw:W.w=X.w)(hu:X.A.units + 200 < cLine)(I:Inv X pins σ H s)(ha:E2 W.K H a xs)(hb:E2 W.K H b ys)(h1:A2 W H ps xs)(h2:A2 W H qs ys)
 (hc:CW ps qs=true)(hd:P.Bo ps<=60):SeqAt.RcAt X.A s (.ref a) (.ref b) (decide (ps=qs))/\SeqAt.RcNeAt X.A s (.ref a) (.ref b) (!decide (ps=qs)):=by
 rw[hK]at ha hb;obtain⟨its1,r1,p1,z1⟩:=I.list ha;obtain⟨its2,r2,p2,z2⟩:=I.list hb;have l1:=r1.length;have l2:=r2.length;have hu1:X.A.in1.units=X.A.units+1:=in1_units;obtain⟨e,he,hd⟩:=Ho (Pg:=X.prog) ps (A:=X.A.in1) (s:=s) h1 h2 r1 r2 (hw▸I.Ak) (hK▸I.Bm) hc (by lia)
 by_cases hl:its1.length=its2.length
 .have e1:((List.range its1.toArray.size).all e)=decide (ps=qs):=by
   rw[<-hd,size_toArray,<-hl];simp
  have hj:∀j (h1:j < its1.toArray.size) (h2:j < its2.toArray.size),SeqAt.EqAt X.A.in1 s its1.toArray[j] its2.toArray[j] (e j):=λj h1 h2=>he j _ _ (by simp at h1 ⊢) (by simp at h2 ⊢)
  have q1:=SeqAt.RcAt.lists (e:=e) p1.isList p2.isList (by rw[size_toArray,size_toArray];exact hl) (by lia) hj;have q2:=SeqAt.RcNeAt.lists (e:=e) p1.isList p2.isList (by rw[size_toArray,size_toArray];exact hl) (by lia) hj;rw[e1]at q1 q2;exact⟨q1,q2⟩
 .have e1:decide (ps=qs)=false:=by
   rw[<-hd];simp[hl]
  rw[e1]
  have hne:(its1.toArray.size != its2.toArray.size)=true:=by
   rw[size_toArray,size_toArray];simpa using hl
  exact⟨SeqAt.RcAt.lists_lengths p1.isList p2.isList hne (by lia),SeqAt.RcNeAt.lists_lengths p1.isList p2.isList hne (by lia)⟩
theorem Pj(hK:W.K=X.K)(hw:W.w=X.w)(hu:X.A.units + 200 < cLine):C4 X (compareOp .Eq) (BX W (Cw .eq))/\C4 X (compareOp .NotEq) (BX W (Cw .ne)):=by
 have key:∀{pins s σ H x y v u} {c1 c2:C} {t:Bool} {Q:VK},Inv X pins σ H s->RelV x v->RelV y u->Dq W H c1 x->Dq W H c2 y->O9 c1 c2=some t->SeqAt.RcAt X.A s v u t/\SeqAt.RcNeAt X.A s v u (!t):=by
  intro pins s σ H x y v u c1 c2 t Q I rx ry h1 h2 e;unfold O9 at e;split at e
  .rename_i a b;obtain⟨e1,e2,e3,rfl⟩:=Qp e;exact⟨WC (Pg:=X.prog) a (Sf h1) (Sf h2) rx ry (hw▸I.Ak) (hK▸I.Bm) e1 (by lia),Wz (Pg:=X.prog) a (Sf h1) (Sf h2) rx ry (hw▸I.Ak) (hK▸I.Bm) e1 (by lia)⟩
  .rename_i a b;obtain⟨e1,e2,e3,rfl⟩:=NQ e;obtain⟨a1,xs,rfl,k1,k2⟩:=h1;obtain⟨b1,ys,rfl,k3,k4⟩:=h2;cases rx;cases ry;exact PJ hK hw hu I (E2.of k1) (E2.of k3) k2 k4 e1 e2
  .cases e
 constructor
 .rintro pins s σ H x y v u Q I rx ry ⟨c1,c2,c,h1,h2,e,q⟩
  obtain⟨t,et,rfl⟩:=B9 e;have et:O9 c1 c2=some t:=et;exact(key (Q:=Q) I rx ry h1 h2 et).1 X.prog X.w _ _ ⟨.bl t,H,I,rfl,q.bl⟩
 .rintro pins s σ H x y v u Q I rx ry ⟨c1,c2,c,h1,h2,e,q⟩
  obtain⟨t,et,rfl⟩:=B9 e;obtain⟨t',et',rfl⟩:=oM (show(O9 c1 c2).map (!·)=some t from et);exact(key (Q:=Q) I rx ry h1 h2 et').2 X.prog X.w _ _ ⟨.bl (!t'),H,I,rfl,q.bl⟩
theorem fW:C4 X (compareOp .Lt) (BX W (Cw .lt)):=by
 rintro pins s σ H x y v u Q I rx ry ⟨c1,c2,c,h1,h2,e,q⟩
 obtain⟨t,et,rfl⟩:=B9 e;unfold Dg at et;dsimp only at et;split at et
 .rename_i a b;unfold dG at et;split at et
  .rename_i i j;cases et;cases Ax h1;cases Ax h2;exact aO pins s σ H _ _ v u Q I rx ry ⟨i,j,rfl,rfl,q.bl⟩
  .cases et
 .cases et
theorem g9:C4 X (compareOp .Gt) (BX W (Cw .gt)):=by
 rintro pins s σ H x y v u Q I rx ry ⟨c1,c2,c,h1,h2,e,q⟩
 obtain⟨t,et,rfl⟩:=B9 e;unfold Dg at et;dsimp only at et;split at et
 .rename_i a b;unfold dG at et;split at et
  .rename_i i j;cases et;cases Ax h1;cases Ax h2;exact aQ pins s σ H _ _ v u Q I rx ry ⟨_,_,rfl,rfl,q.bl⟩
  .cases et
 .cases et
theorem gb:C4 X (compareOp .GtE) (BX W (Cw .ge)):=by
 rintro pins s σ H x y v u Q I rx ry ⟨c1,c2,c,h1,h2,e,q⟩
 obtain⟨t,et,rfl⟩:=B9 e;unfold Dg at et;dsimp only at et;split at et
 .cases et;cases Ax h1;cases Ax h2;exact aR pins s σ H _ _ v u Q I rx ry ⟨_,_,rfl,rfl,q.bl⟩
 .cases et
theorem NC(a b:List Nat):decide (a<=b)= !decide (b < a):=by
 by_cases h:b < a
 .have:¬a<=b:=λz=>not_lt.mpr z h
  simp[h,this]
 .have:a<=b:=not_lt.mp h;simp[h,this]
theorem fX:C4 X (compareOp .LtE) (BX W (Cw .le)):=by
 rintro pins s σ H x y v u Q I rx ry ⟨c1,c2,c,h1,h2,e,q⟩
 obtain⟨t,et,rfl⟩:=B9 e;unfold Dg at et;dsimp only at et;split at et
 .rename_i a b;unfold br at et;split at et
  .cases et;cases Ax h1;cases Ax h2;exact aP pins s σ H _ _ v u Q I rx ry ⟨_,_,rfl,rfl,q.bl⟩
  .cases et;cases BO h1;cases BO h2;refine Nq pins s σ H _ _ v u Q I rx ry ⟨_,_,rfl,rfl,?_⟩;have:=q.bl;rw[NC]at this;exact this
  .cases et
 .cases et
theorem fY:C4 X (compareOp .Is) (BX W (Cw .is)):=by
 rintro pins s σ H x y v u Q I rx ry ⟨c1,c2,c,h1,h2,e,q⟩
 obtain⟨t,et,_⟩:=B9 e;cases et
theorem aY:C4 X (compareOp .IsNot) (BX W (Cw .dM)):=by
 rintro pins s σ H x y v u Q I rx ry ⟨c1,c2,c,h1,h2,e,q⟩
 obtain⟨t,et,_⟩:=B9 e;cases et
theorem fZ:C4 X (compareOp .In) (BX W (Cw .dN)):=by
 rintro pins s σ H x y v u Q I rx ry ⟨c1,c2,c,h1,h2,e,q⟩
 obtain⟨t,et,_⟩:=B9 e;cases et
theorem aV:C4 X (compareOp .NotIn) (BX W (Cw .dD)):=by
 rintro pins s σ H x y v u Q I rx ry ⟨c1,c2,c,h1,h2,e,q⟩
 obtain⟨t,et,_⟩:=B9 e;cases et
def Nr(g:C->Option C):List C->Option C
 |[c]=>g c
 |_=>none
def dC(g:C->C->Option C):List C->Option C
 |[a,b]=>g a b
 |_=>none
theorem Cd{g:C->Option C}{Q:VK}(h:AL W (Nr g) xs H Q):∃x c r,xs=[x]/\Dq W H c x/\g c=some r/\Ez W H r Q:=by
 obtain⟨cs,r,h1,h2,h3⟩:=h;unfold Nr at h2;split at h2
 .obtain⟨x,rfl,hx⟩:=BV h1;exact⟨x,_,r,rfl,hx,h2,h3⟩
 .cases h2
theorem Sg{g:C->C->Option C}{Q:VK}(h:AL W (dC g) xs H Q):∃x y a b r,xs=[x,y]/\Dq W H a x/\Dq W H b y/\g a b=some r/\Ez W H r Q:=by
 obtain⟨cs,r,h1,h2,h3⟩:=h;unfold dC at h2;split at h2
 .obtain⟨x,t,rfl,hx,ht⟩:=h1;obtain⟨y,rfl,hy⟩:=BV ht;exact⟨x,y,_,_,r,rfl,hx,hy,h2,h3⟩
 .cases h2
theorem CC{c:C}{ps:List P}(h:Dq W H c x)(e:c.nf= .lst ps):∃a vs,x= .ref a/\E2 W.K H a vs/\A2 W H ps vs:=by
 cases c with
 |obj _ _=>cases e
 |b b=>
   cases b with
   |p _=>cases e
   |Cv _=>cases e
   |lst _=>cases e;obtain⟨a,vs,e1,e2,e3⟩:=h;exact⟨a,vs,e1,E2.of e2,e3⟩
   |ro _=>cases e;obtain⟨a,vs,e1,e2,e3⟩:=h;exact⟨a,vs,e1,e2.sq,e3⟩
theorem Fv{c:C}(e:c.nf= .p p):c= .p p:=by
 cases c with
 |obj _ _=>cases e
 |b b=>cases b<;>cases e<;>rfl
theorem Kb{ps:List P}(h:Dq W H c x)(e:Cj c=some ps):∃a vs,x= .ref a/\(E2 W.K H a vs\/Ey W.K H a vs)/\A2 W H ps vs:=by
 unfold Cj at e;split at e
 .rename_i hc;cases e;obtain⟨a,vs,e1,e2,e3⟩:=CC h hc;exact⟨a,vs,e1,.inl e2,e3⟩
 .rename_i hc;cases e;rw[Fv hc]at h;obtain⟨a,vs,e1,e2,e3⟩:=C8 h;exact⟨a,vs,e1,.inr e2,e3⟩
 .cases e
theorem Gu(n d:Nat)(o:Option Int):LZ n d o=HT.Bu n d o:=by
 cases o with
 |none=>rfl
 |some v=>
   have:=HT.JE v n d;unfold LZ;dsimp only;split
   .rename_i h;rw[iP h]at this
    lia
   .rename_i h;rw[iN h]at this
    lia
variable{vs:List V}
theorem MK{ps:List P}(h:A2 W H ps vs)(lo hi:Option Int):A2 W H (cut ps lo hi) (KO vs lo hi):=by
 unfold cut KO;rw[Gu,Gu,h.length];exact(h.drop _).take _
def fG(W:Wd):V->Option Int->Option Int->Hp->VK->Prop:=λx lo hi H Q=>∃c r,Dq W H c x/\D3 c lo hi=some r/\Ez W H r Q
theorem Ml(hK:W.K=X.K):Zn X (fG W):=by
 intro pins s σ H x v vl vu lo hi sl Q I rx hs pl pu h;obtain⟨c,r,h1,e,q⟩:=h;unfold D3 at e;split at e
 .rename_i ps hc;cases e;obtain⟨a,vs,rfl,k1,k2⟩:=CC h1 hc;exact RZ pins s σ H _ v vl vu lo hi sl Q I rx hs pl pu ⟨a,vs,rfl,hK▸k1,q.list (MK k2 lo hi)⟩
 .rename_i ps hc;cases e;rw[Fv hc]at h1;obtain⟨a,vs,rfl,k1,k2⟩:=C8 h1
  by_cases hw:HT.Bu vs.length 0 lo=0/\HT.Bu vs.length vs.length hi=vs.length
  .refine RY pins s σ H _ v vl vu lo hi sl Q I rx hs pl pu ⟨a,vs,rfl,hK▸k1,hw,?_⟩
   have e:cut ps lo hi=ps:=by
    unfold cut;rw[Gu,Gu,<-k2.length,hw.1,hw.2];simp[k2.length]
   rw[e]at q;exact q.plain (Ah.mpr ⟨a,vs,rfl,k1,k2⟩)
  .exact Wc pins s σ H _ v vl vu lo hi sl Q I rx hs pl pu ⟨a,vs,rfl,hK▸k1,hw,q.tup (MK k2 lo hi)⟩
 .rename_i z hc;rw[Fv hc]at h1;cases BO h1;obtain⟨y,ey,rfl⟩:=oM e;have hlen:z.cps.toList.length=z.length:=by show z.cps.toList.length=z.cps.size;simp
  unfold CI at ey;split at ey
  .rename_i j;split at ey
   case isFalse=>cases ey
   rename_i hj;cases ey;refine Lm pins s σ H _ v vl vu none (some j) sl Q I rx hs pl pu ⟨z,rfl,Nat.le_trans hj.2.2 BU,?_⟩;rw[Kd.OI hj.1 hj.2.1];exact q.plain (A6.mpr rfl)
  .rename_i i;split at ey
   case isFalse=>cases ey
   rename_i hj;cases ey;refine Lm pins s σ H _ v vl vu (some i) none sl Q I rx hs pl pu ⟨z,rfl,Nat.le_trans hj.2.2 BU,?_⟩;rw[Kd.Ll hj.1 hj.2.1]
   have e:(z.cps.toList.drop i.toNat).take ((z.length:Int) - i).toNat=z.cps.toList.drop i.toNat:=by
    rw[take_of_length_le];rw[length_drop,hlen]
    lia
   rw[e];exact q.plain (A6.mpr rfl)
  .rename_i i j;split at ey
   case isFalse=>cases ey
   rename_i hj;cases ey;refine Lm pins s σ H _ v vl vu (some i) (some j) sl Q I rx hs pl pu ⟨z,rfl,Nat.le_trans hj.2.2.2 BU,?_⟩;rw[eq_of_beq (PyProof.Rows.slice_closesL hj.1 hj.2.1 hj.2.2.1)];exact q.plain (A6.mpr rfl)
  .cases ey
 .cases e
theorem cH(hK:W.K=X.K):B5 X (.builtin "len") (AL W (Nr Jc)):=by
 intro pins s σ H xs us Q I r h;obtain⟨x,c,r',rfl,h1,e,q⟩:=Cd h;have e0:=e;unfold Jc at e;split at e
 .rename_i ps hc;cases e;obtain⟨a,vs,rfl,k1,k2⟩:=CC h1 hc;refine Hw pins s σ H _ us Q I r ⟨_,_,rfl,.inl ⟨vs,hK▸k1,rfl⟩,?_⟩;rw[k2.length];exact q.plain (A4.mpr rfl)
 .rename_i ps hc;cases e;rw[Fv hc]at h1;obtain⟨a,vs,rfl,k1,k2⟩:=C8 h1;refine Hw pins s σ H _ us Q I r ⟨_,_,rfl,.inr ⟨vs,hK▸k1,rfl⟩,?_⟩;rw[k2.length];exact q.plain (A4.mpr rfl)
 .rename_i z hc;split at e
  case isFalse=>cases e
  rename_i hl;cases e;rw[Fv hc]at h1;cases BO h1;exact Hw pins s σ H _ us Q I r ⟨_,_,rfl,⟨Nat.le_trans hl BU,rfl⟩,q.plain (A4.mpr rfl)⟩
 .cases e
theorem QD(hK:W.K=X.K):B5 X (.type "list") (AL W (Nr λc=>(Cj c).map .lst)):=by
 intro pins s σ H xs us Q I r h;obtain⟨x,c,r',rfl,h1,e,q⟩:=Cd h;obtain⟨ps,ep,rfl⟩:=oM e;obtain⟨a,vs,rfl,k1,k2⟩:=Kb h1 ep;exact JG pins s σ H _ us Q I r ⟨a,vs,rfl,hK▸k1,q.list k2⟩
theorem Ue(hK:W.K=X.K):B5 X (.type "tuple") (AL W (Nr λc=>(Cj c).map λx=>.p (.tup x))):=by
 intro pins s σ H xs us Q I r h;obtain⟨x,c,r',rfl,h1,e,q⟩:=Cd h;obtain⟨ps,ep,rfl⟩:=oM e;obtain⟨a,vs,rfl,k1,k2⟩:=Kb h1 ep;rcases k1 with k1|k1
 .exact Eb pins s σ H _ us Q I r ⟨a,vs,rfl,.inl ⟨hK▸k1,q.tup k2⟩⟩
 .exact Eb pins s σ H _ us Q I r ⟨a,vs,rfl,.inr ⟨hK▸k1,q.plain (Ah.mpr ⟨a,vs,rfl,k1,k2⟩)⟩⟩
theorem IB:∀{ps:List P} {vs:List V} {ns:List Bool},A2 W H ps vs->DF ps=some ns->vs=ns.map V.bl
 |[],vs,ns,h,e=>by unfold A2 at h;cases e;exact h
 | .bl i::ps,vs,ns,h,e=>by
   unfold DF at e;obtain⟨ms,em,rfl⟩:=oM e;unfold A2 at h;obtain⟨v,r,rfl,h1,h2⟩:=h;cases Al.mp h1;rw[IB h2 em];rfl
 |.Az::_,_,_,_,e=>by cases e
 |.int _::_,_,_,_,e=>by cases e
 |.str _::_,_,_,_,e=>by cases e
 |.tup _::_,_,_,_,e=>by cases e
 |.fn _::_,_,_,_,e=>by cases e
theorem cN(hK:W.K=X.K)(hc:X.calm=true):B5 X (.builtin "all") (AL W (Nr HN)):=by
 intro pins s σ H xs us Q I r h;obtain⟨x,c,r',rfl,h1,e,q⟩:=Cd h;unfold HN T5 at e;split at e
 .rename_i ps hc';obtain⟨ns,en,rfl⟩:=oM e;obtain⟨a,vs,rfl,k1,k2⟩:=CC h1 hc';rw[IB k2 en]at k1;exact KS hc pins s σ H _ us Q I r ⟨a,ns,rfl,hK▸k1,q.bl⟩
 .cases e
theorem cF(hc:X.calm=true):B5 X (.builtin "min") (AL W (dC (Dp bf))):=by
 intro pins s σ H xs us Q I r h;obtain⟨x,y,a,b,r',rfl,h1,h2,e,q⟩:=Sg h;unfold Dp at e;split at e
 .obtain⟨k,ek,rfl⟩:=oM e;cases ek;cases Ax h1;cases Ax h2;exact NV hc pins s σ H _ us Q I r ⟨_,_,rfl,q.plain (A4.mpr rfl)⟩
 .cases e
section
variable (K:PySem.W.Frag)
theorem Gd:kitOne K (.type "NoneType") (.type "int")=some false:=by kernel_rfl
theorem FC:kitOne K (.type "NoneType") (.type "bool")=some false:=by kernel_rfl
theorem Ga:kitOne K (.type "NoneType") (.type "str")=some false:=by kernel_rfl
theorem F4:kitOne K (.type "NoneType") (.type "tuple")=some false:=by kernel_rfl
theorem Fz:kitOne K (.type "NoneType") (.type "list")=some false:=by kernel_rfl
theorem FA:kitOne K (.type "NoneType") (.type "dict")=some false:=by kernel_rfl
theorem Kx:kitOne K (.type "bool") (.type "int")=some true:=by kernel_rfl
theorem Jm:kitOne K (.type "bool") (.type "bool")=some true:=by kernel_rfl
theorem Kw:kitOne K (.type "bool") (.type "str")=some false:=by kernel_rfl
theorem HJ:kitOne K (.type "bool") (.type "tuple")=some false:=by kernel_rfl
theorem Jk:kitOne K (.type "bool") (.type "list")=some false:=by kernel_rfl
theorem Jl:kitOne K (.type "bool") (.type "dict")=some false:=by kernel_rfl
theorem LK:kitOne K (.type "int") (.type "int")=some true:=by kernel_rfl
theorem Kt:kitOne K (.type "int") (.type "bool")=some false:=by kernel_rfl
theorem LJ:kitOne K (.type "int") (.type "str")=some false:=by kernel_rfl
theorem Jg:kitOne K (.type "int") (.type "tuple")=some false:=by kernel_rfl
theorem Kr:kitOne K (.type "int") (.type "list")=some false:=by kernel_rfl
theorem Ks:kitOne K (.type "int") (.type "dict")=some false:=by kernel_rfl
theorem LI:kitOne K (.type "str") (.type "int")=some false:=by kernel_rfl
theorem Kq:kitOne K (.type "str") (.type "bool")=some false:=by kernel_rfl
theorem LH:kitOne K (.type "str") (.type "str")=some true:=by kernel_rfl
theorem Jf:kitOne K (.type "str") (.type "tuple")=some false:=by kernel_rfl
theorem Ko:kitOne K (.type "str") (.type "list")=some false:=by kernel_rfl
theorem Kp:kitOne K (.type "str") (.type "dict")=some false:=by kernel_rfl
theorem Je:kitOne K (.type "tuple") (.type "int")=some false:=by kernel_rfl
theorem HH:kitOne K (.type "tuple") (.type "bool")=some false:=by kernel_rfl
theorem Jd:kitOne K (.type "tuple") (.type "str")=some false:=by kernel_rfl
theorem Hh:kitOne K (.type "tuple") (.type "tuple")=some true:=by kernel_rfl
theorem HF:kitOne K (.type "tuple") (.type "list")=some false:=by kernel_rfl
theorem HG:kitOne K (.type "tuple") (.type "dict")=some false:=by kernel_rfl
theorem FZ:kitOne K (.type "list") (.type "int")=some false:=by kernel_rfl
theorem F3:kitOne K (.type "list") (.type "bool")=some false:=by kernel_rfl
theorem FY:kitOne K (.type "list") (.type "str")=some false:=by kernel_rfl
theorem E8:kitOne K (.type "list") (.type "tuple")=some false:=by kernel_rfl
theorem EZ:kitOne K (.type "list") (.type "list")=some true:=by kernel_rfl
theorem F0:kitOne K (.type "list") (.type "dict")=some false:=by kernel_rfl
theorem Kv:kitOne K (.type "dict") (.type "int")=some false:=by kernel_rfl
theorem Jj:kitOne K (.type "dict") (.type "bool")=some false:=by kernel_rfl
theorem Ku:kitOne K (.type "dict") (.type "str")=some false:=by kernel_rfl
theorem HI:kitOne K (.type "dict") (.type "tuple")=some false:=by kernel_rfl
theorem Jh:kitOne K (.type "dict") (.type "list")=some false:=by kernel_rfl
theorem Ji:kitOne K (.type "dict") (.type "dict")=some true:=by kernel_rfl
end
noncomputable def Ma:Ty->String
 |.int=>"int"| .bool=>"bool"| .str=>"str"| .tuple=>"tuple"| .list=>"list"| .dict=>"dict"| .cls _=>"object"
theorem Mg{σ:L2.St}(I:Inv X pins σ H s)(h:E2 X.K H a xs):∃o,s.heap.get? a=some o/\o.cls= .type "list":=by
 obtain⟨its,_,⟨o,n,e,c,_⟩,_⟩:=I.list h;exact⟨o,e,c⟩
theorem W8{σ:L2.St}(I:Inv X pins σ H s)(h:Ey X.K H a xs):∃o,s.heap.get? a=some o/\o.cls= .type "tuple":=by
 obtain⟨its,_,⟨o,e,c,_⟩,_⟩:=I.tuple h;exact⟨o,e,c⟩
theorem cJ(hK:W.K=X.K)(hw:W.w=X.w)(t:Ty)(ht:∀cs,t≠.cls cs):B5 X (.builtin "isinstance") (λxs H Q=>∃x c b,xs=[x,.ty (Ma t)]/\Dq W H c x/\FG t c=some b/\Q (.bl b) H):=by
 intro pins s σ H xs us Q I r h;obtain⟨x,c,b,rfl,h1,e,q⟩:=h;obtain⟨u,w',rfl,ru,rw'⟩:=vals2 r;cases rw'
 have fin:∀(b':Bool),FG t c=some b'->∀tk,EP X pins σ Q (.bool b') {s with toks:=tk}:=λb' e' tk=>by
  rw[e]at e';cases e';exact⟨.bl b,H,I.tok tk,rfl,q⟩
 cases c with
 |obj _ _=>cases t<;>first|exact absurd rfl (ht _)|cases e
 |b y =>
   cases y with
   |p p=>
     cases p with
     |fn _=>cases t<;>first|cases e|exact absurd rfl (ht _)
     |Az=>
       cases OO h1;cases ru;cases t with
       |int=>exact kia_one kitx_none I.Bm True.intro (Gd _) (λz=>nomatch z) (fin false rfl)
       |bool=>exact kia_one kitx_none I.Bm True.intro (FC _) (λz=>nomatch z) (fin false rfl)
       |str=>exact kia_one kitx_none I.Bm True.intro (Ga _) (λz=>nomatch z) (fin false rfl)
       |tuple=>exact kia_one kitx_none I.Bm True.intro (F4 _) (λz=>nomatch z) (fin false rfl)
       |list=>exact kia_one kitx_none I.Bm True.intro (Fz _) (λz=>nomatch z) (fin false rfl)
       |dict=>exact kia_one kitx_none I.Bm True.intro (FA _) (λz=>nomatch z) (fin false rfl)
       |cls cs=>exact absurd rfl (ht cs)
     |bl i=>
       cases OP h1;cases ru;cases t with
       |int=>exact kia_one kitx_bool I.Bm True.intro (Kx _) (λz=>nomatch z) (fin true rfl)
       |bool=>exact kia_one kitx_bool I.Bm True.intro (Jm _) (λz=>nomatch z) (fin true rfl)
       |str=>exact kia_one kitx_bool I.Bm True.intro (Kw _) (λz=>nomatch z) (fin false rfl)
       |tuple=>exact kia_one kitx_bool I.Bm True.intro (HJ _) (λz=>nomatch z) (fin false rfl)
       |list=>exact kia_one kitx_bool I.Bm True.intro (Jk _) (λz=>nomatch z) (fin false rfl)
       |dict=>exact kia_one kitx_bool I.Bm True.intro (Jl _) (λz=>nomatch z) (fin false rfl)
       |cls cs=>exact absurd rfl (ht cs)
     |int i=>
       cases Ax h1;obtain⟨tk,rfl⟩:=ru;cases t with
       |int=>exact kia_one kitx_int I.Bm True.intro (LK _) (λz=>nomatch z) (fin true rfl)
       |bool=>exact kia_one kitx_int I.Bm True.intro (Kt _) (λz=>nomatch z) (fin false rfl)
       |str=>exact kia_one kitx_int I.Bm True.intro (LJ _) (λz=>nomatch z) (fin false rfl)
       |tuple=>exact kia_one kitx_int I.Bm True.intro (Jg _) (λz=>nomatch z) (fin false rfl)
       |list=>exact kia_one kitx_int I.Bm True.intro (Kr _) (λz=>nomatch z) (fin false rfl)
       |dict=>exact kia_one kitx_int I.Bm True.intro (Ks _) (λz=>nomatch z) (fin false rfl)
       |cls cs=>exact absurd rfl (ht cs)
     |str i=>
       cases BO h1;obtain⟨tk,rfl⟩:=ru;cases t with
       |int=>exact kia_one kitx_str I.Bm True.intro (LI _) (λz=>nomatch z) (fin false rfl)
       |bool=>exact kia_one kitx_str I.Bm True.intro (Kq _) (λz=>nomatch z) (fin false rfl)
       |str=>exact kia_one kitx_str I.Bm True.intro (LH _) (λz=>nomatch z) (fin true rfl)
       |tuple=>exact kia_one kitx_str I.Bm True.intro (Jf _) (λz=>nomatch z) (fin false rfl)
       |list=>exact kia_one kitx_str I.Bm True.intro (Ko _) (λz=>nomatch z) (fin false rfl)
       |dict=>exact kia_one kitx_str I.Bm True.intro (Kp _) (λz=>nomatch z) (fin false rfl)
       |cls cs=>exact absurd rfl (ht cs)
     |tup ps=>
       obtain⟨a,vs,rfl,k1,k2⟩:=C8 h1;cases ru;have ob:=W8 I (hK▸k1);cases t with
       |int=>exact kia_one kitx_tuple I.Bm ob (Je _) (λz=>nomatch z) (fin false rfl)
       |bool=>exact kia_one kitx_tuple I.Bm ob (HH _) (λz=>nomatch z) (fin false rfl)
       |str=>exact kia_one kitx_tuple I.Bm ob (Jd _) (λz=>nomatch z) (fin false rfl)
       |tuple=>exact kia_one kitx_tuple I.Bm ob (Hh _) (λz=>nomatch z) (fin true rfl)
       |list=>exact kia_one kitx_tuple I.Bm ob (HF _) (λz=>nomatch z) (fin false rfl)
       |dict=>exact kia_one kitx_tuple I.Bm ob (HG _) (λz=>nomatch z) (fin false rfl)
       |cls cs=>exact absurd rfl (ht cs)
   |lst ps=>
     obtain⟨a,vs,rfl,k1,k2⟩:=h1;cases ru;have ob:=Mg I (E2.of (K:=X.K) k1);cases t with
     |int=>exact kia_one kitx_list I.Bm ob (FZ _) (λz=>nomatch z) (fin false rfl)
     |bool=>exact kia_one kitx_list I.Bm ob (F3 _) (λz=>nomatch z) (fin false rfl)
     |str=>exact kia_one kitx_list I.Bm ob (FY _) (λz=>nomatch z) (fin false rfl)
     |tuple=>exact kia_one kitx_list I.Bm ob (E8 _) (λz=>nomatch z) (fin false rfl)
     |list=>exact kia_one kitx_list I.Bm ob (EZ _) (λz=>nomatch z) (fin true rfl)
     |dict=>exact kia_one kitx_list I.Bm ob (F0 _) (λz=>nomatch z) (fin false rfl)
     |cls cs=>exact absurd rfl (ht cs)
   |ro ps=>
     obtain⟨a,vs,rfl,k1,k2⟩:=h1;cases ru;have ob:=Mg I (hK▸k1.sq);cases t with
     |int=>exact kia_one kitx_list I.Bm ob (FZ _) (λz=>nomatch z) (fin false rfl)
     |bool=>exact kia_one kitx_list I.Bm ob (F3 _) (λz=>nomatch z) (fin false rfl)
     |str=>exact kia_one kitx_list I.Bm ob (FY _) (λz=>nomatch z) (fin false rfl)
     |tuple=>exact kia_one kitx_list I.Bm ob (E8 _) (λz=>nomatch z) (fin false rfl)
     |list=>exact kia_one kitx_list I.Bm ob (EZ _) (λz=>nomatch z) (fin true rfl)
     |dict=>exact kia_one kitx_list I.Bm ob (F0 _) (λz=>nomatch z) (fin false rfl)
     |cls cs=>exact absurd rfl (ht cs)
   |Cv kvs=>
     obtain⟨a,rfl,k1⟩:=h1;cases ru;have ob:=U2 hw I.Ak k1;cases t with
     |int=>exact kia_one kitx_dict I.Bm ob (Kv _) (λz=>nomatch z) (fin false rfl)
     |bool=>exact kia_one kitx_dict I.Bm ob (Jj _) (λz=>nomatch z) (fin false rfl)
     |str=>exact kia_one kitx_dict I.Bm ob (Ku _) (λz=>nomatch z) (fin false rfl)
     |tuple=>exact kia_one kitx_dict I.Bm ob (HI _) (λz=>nomatch z) (fin false rfl)
     |list=>exact kia_one kitx_dict I.Bm ob (Jh _) (λz=>nomatch z) (fin false rfl)
     |dict=>exact kia_one kitx_dict I.Bm ob (Ji _) (λz=>nomatch z) (fin true rfl)
     |cls cs=>exact absurd rfl (ht cs)
variable{prog:Program}{w:World}{A:Around}{es:List DictEntry}{ep:Nat}
variable{H:Hp}
variable{E:Value->Shared->Prop}{s:Shared}{d:Addr}
def OQ(W:Wd):V->Hp->(Bool->Hp->Prop)->Prop:=λx H Q=>∃c b,Dq W H c x/\CH c=some b/\Q b H
theorem Ip{ps:List P}(h:A2 W H ps vs):(!ps.isEmpty)= !vs.isEmpty:=by
 have:=h.length;cases ps<;>cases vs<;>simp at this ⊢
theorem W3(hK:W.K=X.K):dc X (OQ W):=by
 intro pins s σ H x v Q I rx h;obtain⟨c,b,h1,e,q⟩:=h;have ok:=λ(z:da X.K x H b)=>W4 pins s σ H x v Q I rx ⟨b,z,q⟩
 unfold CH at e;split at e
 .rename_i hc;cases e;rw[Fv hc]at h1;cases OO h1;exact ok rfl
 .rename_i hc;cases e;rw[Fv hc]at h1;cases OP h1;exact ok rfl
 .rename_i hc;cases e;rw[Fv hc]at h1;cases Ax h1;exact ok rfl
 .rename_i y hc;rw[Fv hc]at h1;cases BO h1;split at e
  case isFalse=>cases e
  rename_i hl;cases e;refine ok ⟨Nat.le_trans hl BU,?_⟩;cases y.length<;>simp<;>lia
 .rename_i ps hc;cases e;rw[Fv hc]at h1;obtain⟨a,vs,rfl,k1,k2⟩:=C8 h1;exact ok (.inr (.inl ⟨vs,hK▸k1,Ip k2⟩))
 .rename_i ps hc;cases e;obtain⟨a,vs,rfl,k1,k2⟩:=CC h1 hc;exact ok (.inl ⟨vs,hK▸k1,Ip k2⟩)
 .cases e
variable{EX:XP}{σ:L2.St}
theorem Tu{F:Env->Res Hd}{K:List V->Hp->Prop}(h:tG W EX (Bb W) (λρ=>(F ρ).bind λh ρ=>.ok [h] ρ) σ H K):tG W EX (EA W) F σ H λv H1=>K [v] H1:=by
 obtain⟨ρ,os,hR,hn,hA⟩:=h;dsimp only at hA;refine⟨ρ,os,hR,hn,?_⟩;cases eF:F ρ with
 |stuck=>rw[eF]at hA;exact hA
 |err x p ρ'=>rw[eF]at hA;exact hA
 |ok a ρ1=>
   rw[eF]at hA;exact λv H1 o os1 h1 h2 h3 h4=>hA [v] H1 o os1 ⟨v,[],o,[],rfl,h1,⟨rfl,rfl⟩,by simp⟩ h2 h3 h4
theorem Gs{F:Env->Res (List Hd)}{n:Nat}(hF:∀ρ hs ρ',F ρ= .ok hs ρ'->hs.length=n){K:List V->Hp->Prop}(h:tG W EX (Bb W) F σ H K):tG W EX (Bb W) F σ H λvs H1=>vs.length=n/\K vs H1:=by
 obtain⟨ρ,os,hR,hn,hA⟩:=h;refine⟨ρ,os,hR,hn,?_⟩;unfold C5 at hA ⊢;cases eF:F ρ with
 |stuck=>rw[eF]at hA;exact hA
 |err x p ρ'=>rw[eF]at hA;exact hA
 |ok a ρ1=>
   rw[eF]at hA;intro vs H1 o os1 h1 h2 h3 h4;refine⟨?_,hA vs H1 o os1 h1 h2 h3 h4⟩;rw[<-hF ρ a ρ1 eF];clear hA eF h3 h4
   induction a generalizing vs o with
   |nil=>rw[h1.1];rfl
   |cons h hs ih=>
     obtain⟨v,r,o1,o2,rfl,_,h5,rfl⟩:=h1;rw[lC,lC,ih r o2 h5]
theorem GG{α β:Type}{rep:L2.St->Hp->Env->α->β->List Addr->Prop}{F:Env->Res α}{Q Q':β->Hp->Prop}(h:tG W EX rep F σ H Q)(k:∀b H',Q b H'->Q' b H'):tG W EX rep F σ H Q':=by
 obtain⟨ρ,os,hR,hn,hA⟩:=h;exact⟨ρ,os,hR,hn,hA.imp k⟩
section
variable{tg:Expr}
theorem N1(hK:W.K=X.K){xs:List P}{g:Hp->Prop}(h:∀H,g H->∃vs,E2 W.K H a vs/\A2 W H xs vs):Walk W (iE X.K a) xs g where
 go:=λi H hg hi=>by
   obtain⟨vs,h1,h2⟩:=h H hg;have hi':i < vs.length:=by rw[h2.length];exact hi
   exact⟨vs,vs[i],hK▸h1,List.getElem?_eq_getElem hi'⟩
 O4:=λi H x H' hg hi hy=>by
  obtain⟨rfl,hy⟩:=hy;obtain⟨vs,h1,h2⟩:=h _ hg;exact⟨BI.refl _,h2.get' (hy vs (hK▸h1))⟩
 stop:=λH hg=>by
  obtain⟨vs,h1,h2⟩:=h H hg;exact⟨vs,hK▸h1,Nat.le_of_eq h2.length⟩
theorem Oc(hK:W.K=X.K){xs:List P}{g:Hp->Prop}(h:∀H,g H->∃vs,Ey W.K H a vs/\A2 W H xs vs):Walk W (iC X.K a) xs g where
 go:=λi H hg hi=>by
   obtain⟨vs,h1,h2⟩:=h H hg;have hi':i < vs.length:=by rw[h2.length];exact hi
   exact⟨vs,vs[i],hK▸h1,List.getElem?_eq_getElem hi'⟩
 O4:=λi H x H' hg hi hy=>by
  obtain⟨rfl,hy⟩:=hy;obtain⟨vs,h1,h2⟩:=h _ hg;exact⟨BI.refl _,h2.get' (hy vs (hK▸h1))⟩
 stop:=λH hg=>by
  obtain⟨vs,h1,h2⟩:=h H hg;exact⟨vs,hK▸h1,Nat.le_of_eq h2.length⟩
theorem HV(y:Str):(signs y).length=y.length:=by
 unfold signs;rw[lM,Array.length_toList];rfl
theorem Od{g:Hp->Prop}:Walk W (iD y) (signs y) g where
 go:=λi H _ hi=>by rw[HV]at hi;exact hi
 O4:=λi H x H' _ hi hy=>by
  obtain⟨rfl,c,hc,rfl⟩:=hy;refine⟨BI.refl _,sign c,?_,A6.mpr rfl⟩;unfold signs;rw[List.getElem?_map,Array.getElem?_toList,hc];rfl
 stop:=λH _=>by rw[HV];exact lR
theorem Mp(hK:W.K=X.K)(hw:W.w=X.w){F:Env->Res Hd}(hl:PE X l (tG W EX (EA W) F)):PI X tg l (N2 W EX .op (λρ=>(F ρ).bind λh ρ=>.ok [h] ρ)):=by
 intro pins s σ H R I h;refine B4 (hl pins s σ H _ I (Tu h)) λv s1 ⟨x,H1,I1,r1,q1⟩=>?_
 obtain⟨cs,xs,h1,h2,h3⟩:=q1
 have hS:∃c,cs=[c]/\OK c=some xs:=by
  unfold Aw at h2;split at h2<;>first|cases h2|skip
  all_goals first|exact⟨_,rfl,h2⟩|(exfalso;simp_all)
 clear h2;obtain⟨c,rfl,h2⟩:=hS;obtain⟨_,e,hc⟩:=BV h1;cases e
 have up:∀{H'},Cy W H' [c] [x]->Dq W H' c x:=λz=>by
  obtain⟨_,e,hc⟩:=BV z;cases e;exact hc
 have fp:∀b,b=s1.heap.objs.size->FN X pins H1 b:=λb hb=>by
  subst hb;exact I1.Qe (lR) (I1.Ak.fresh (lR))
 unfold OK at h2;split at h2
 .rename_i ps hn;cases h2;obtain⟨a,vs,rfl,k1,k2⟩:=CC hc hn;cases r1;obtain⟨its,rv,p,hz⟩:=I1.list (hK▸k1);refine wpAny_pyIter_list p.isList ⟨s1.heap.objs.size,[s1.heap.objs.size],_,_,H1,rfl,I1.kept (t':=s1.toks) λb o e=>gP e,N6 a _,⟨_,Heap.get?_push_size _ rfl,rfl,rfl⟩,λb hb=>fp b (mE hb),h3 _ (N1 hK λH' z=>?_)⟩;obtain⟨a',vs',e,g1,g2⟩:=CC (up z) hn;cases e;exact⟨vs',g1,g2⟩
 .rename_i ps hn;cases h2;have hn':=Fv hn;subst hn';obtain⟨a,vs,rfl,k1,k2⟩:=C8 hc;cases r1;obtain⟨its,rv,p,hz⟩:=I1.tuple (hK▸k1);refine wpAny_pyIter_tuple (show s1.heap.IsTuple a its.toArray from p) ⟨s1.heap.objs.size,[s1.heap.objs.size],_,_,H1,rfl,I1.kept (t':=s1.toks) λb o e=>gP e,Lf a _,⟨_,Heap.get?_push_size _ rfl,rfl,rfl⟩,λb hb=>fp b (mE hb),h3 _ (Oc hK λH' z=>?_)⟩;obtain⟨a',vs',e,g1,g2⟩:=C8 (up z);cases e;exact⟨vs',g1,g2⟩
 .rename_i y hn;split at h2
  case isFalse=>cases h2
  rename_i hy;cases h2;have hn':=Fv hn;subst hn';cases BO hc;obtain⟨t,rfl⟩:=r1;exact wpAny_pyIter_ascii hy.2 ⟨s1.heap.objs.size,[s1.heap.objs.size],_,_,H1,rfl,I1.kept (t':=s1.toks) λb o e=>gP e,Oh _ y t,⟨_,Heap.get?_push_size _ rfl,rfl,rfl⟩,λb hb=>fp b (mE hb),h3 _ Od⟩
 .cases h2
theorem AB(lo hi:Int):(An lo hi).length=(hi-lo).toNat:=by unfold An;rw[lM,length_range]
theorem JV{lo hi:Int}{g:Hp->Prop}:Walk W (Zp lo (hi - lo).toNat) (An lo hi) g where
 go:=λi H _ h=>by rw[AB]at h;exact h
 O4:=λi H x H' _ h hy=>by
  obtain⟨rfl,rfl⟩:=hy;rw[AB]at h;refine⟨BI.refl _,.int (lo+(i:Nat)),?_,A4.mpr rfl⟩;unfold An;rw[List.getElem?_map,List.getElem?_range h];rfl
 stop:=λH _=>by rw[AB];exact lR
variable{α:Type}
theorem T9{l:List α}(h:l.length=1):∃a,l=[a]:=by
 match l,h with
 |[a],_=>exact⟨a,rfl⟩
theorem T8{l:List α}(h:l.length=2):∃a b,l=[a,b]:=by
 match l,h with
 |[a,b],_=>exact⟨a,b,rfl⟩
theorem T7{l:List α}(h:l.length=3):∃a b c,l=[a,b,c]:=by
 match l,h with
 |[a,b,c],_=>exact⟨a,b,c,rfl⟩
theorem Sb{c:C}{xs:List P}(h:Aw .BC [c]=some xs):∃n:Int,c= .p (.int n)/\n.natAbs < 2 ^ 61/\xs=An 0 n:=by
 unfold Aw at h;split at h<;>first|(exfalso;simp_all;done)|skip
 .rename_i n hk hc;split at h
  .rename_i hb;cases hc;cases h;exact⟨n,rfl,hb,rfl⟩
  .cases h
theorem Sa{c d:C}{xs:List P}(h:Aw .BC [c,d]=some xs):∃a n:Int,c= .p (.int a)/\d= .p (.int n)/\(a.natAbs < 2 ^ 61/\n.natAbs < 2 ^ 61)/\xs=An a n:=by
 unfold Aw at h;split at h<;>first|(exfalso;simp_all;done)|skip
 .rename_i a n hk hc;split at h
  .rename_i hb;cases hc;cases h;exact⟨a,n,rfl,rfl,hb,rfl⟩
  .cases h
end
section
variable{tg:Expr}
theorem Nh{c d f:C}{xs:List P}(h:Aw .BC [c,d,f]=some xs):∃a n s:Int,c= .p (.int a)/\d= .p (.int n)/\f= .p (.int s)/\(0 < s/\s < 1000000/\a.natAbs < 2 ^ 61/\n.natAbs < 2 ^ 61)/\xs=(List.range ((n - a + s - 1) / s).toNat).map λk=>.int (a + s * (k:Nat)):=by
 unfold Aw at h;split at h<;>first|(exfalso;simp_all;done)|skip
 .rename_i a n s hk hc;split at h
  .rename_i hb;cases hc;cases h;exact⟨a,n,s,rfl,rfl,rfl,hb,rfl⟩
  .cases h
variable{H:Hp}{y:V}
theorem IV{a b:C}{x:V}(h:Cy W H [a,b] [x,y]):Dq W H a x/\Dq W H b y:=by
 obtain⟨_,_,e,h1,h2⟩:=h;cases e;obtain⟨_,e,h2⟩:=BV h2;cases e;exact⟨h1,h2⟩
theorem Fu{a b c:C}{x z:V}(h:Cy W H [a,b,c] [x,y,z]):Dq W H a x/\Dq W H b y/\Dq W H c z:=by
 obtain⟨_,_,e,h1,h2⟩:=h;cases e;exact⟨h1,IV h2⟩
variable{F:Env->Res (List Hd)}
theorem Sz{a:Expr}{p pos:Pos}(hg:Gl X "range")(hm:X.mg "range"=none)(hF:∀ρ hs ρ',F ρ= .ok hs ρ'->hs.length=1)(ha:PA X [a] (tG W EX (Bb W) F))(hs:starEach [a] X.env=[(false,eval a X.env)]):PI X tg (.Call (.Name "range" p) [a] [] pos) (N2 W EX .BC F):=by
 intro pins s σ H R I h;refine Np hg hm ha hs pins s σ H R I (GG (Gs hF h) λvs H1 z=>?_);obtain⟨hl,cs,xs,h1,h2,h3⟩:=z;obtain⟨v,rfl⟩:=T9 hl;obtain⟨c,rfl⟩:=T9 (h1.length.symm.trans hl);obtain⟨n,rfl,hb,rfl⟩:=Sb h2;obtain⟨_,e,hc⟩:=BV h1;cases e;cases Ax hc;have:=h3 (Zp 0 (n-0).toNat) JV;rw[Int.sub_zero]at this;exact⟨n,rfl,by lia,by lia,this⟩
theorem Sy{a b:Expr}{p pos:Pos}(hg:Gl X "range")(hm:X.mg "range"=none)(hF:∀ρ hs ρ',F ρ= .ok hs ρ'->hs.length=2)(ha:PA X [a,b] (tG W EX (Bb W) F))(hs:starEach [a,b] X.env=[(false,eval a X.env),(false,eval b X.env)])(hs2:starEach [b] X.env=[(false,eval b X.env)]):PI X tg (.Call (.Name "range" p) [a,b] [] pos) (N2 W EX .BC F):=by
 intro pins s σ H R I h;refine Nn hg hm ha hs hs2 pins s σ H R I (GG (Gs hF h) λvs H1 z=>?_);obtain⟨hl,cs,xs,h1,h2,h3⟩:=z;obtain⟨v,u,rfl⟩:=T8 hl;obtain⟨c,d,rfl⟩:=T8 (h1.length.symm.trans hl);obtain⟨i,n,rfl,rfl,hb,rfl⟩:=Sa h2;obtain⟨c1,c2⟩:=IV h1;cases Ax c1;cases Ax c2;exact⟨i,n,rfl,⟨by lia,by lia,by lia,by lia⟩,h3 _ JV⟩
theorem Vg{s:Int}(hs:0 < s):Builtin.Range.rangeSize a n s=(((n - a + s - 1) / s).toNat:Nat):=by
 unfold Builtin.Range.rangeSize;rw[iP hs];have e:n-a+s-1=(n-a-1)+s:=by lia
 have e2:((n - a - 1) + s) / s=(n - a - 1) / s + 1:=by
  have:=Int.add_mul_ediv_right (n-a-1) 1 (c:=s) (by lia);rw[Int.one_mul]at this;exact this
 rw[e,e2];split
 .have:0<=(n-a-1)/s:=Int.ediv_nonneg (by lia) (by lia)
  lia
 .have:(n-a-1)/s < 0:=Int.ediv_neg_of_neg_of_pos (by lia) hs
  lia
theorem Wb{a n s:Int}(hs:0 < s)(h2:s < 1000000)(ha:a.natAbs < 2 ^ 61)(hn:n.natAbs < 2 ^ 61):Builtin.Range.small a n s=true:=by
 have hz:=Vg (a:=a) (n:=n) hs
 have hb:(n - a + s - 1) / s<=2 ^ 62 + 1000000:=by
  have:(n-a+s-1)/s*s<=n-a+s-1:=Int.ediv_mul_le _ (by omega);rcases Int.lt_or_le ((n-a+s-1)/s) 0 with z|z
  .omega
  .have h1:(n-a+s-1)/s*1<=(n-a+s-1)/s*s:=Int.mul_le_mul_of_nonneg_left (by omega) z;omega
 unfold Builtin.Range.small;rw[hz,iP hs];simp only[Builtin.Range.rangeFitsLong,bA,Bool.or_eq_true,decide_eq_true_eq,beq_iff_eq];omega
theorem MZ{a s:Int}{n:Nat}{g:Hp->Prop}:Walk W (i6 a s n) ((List.range n).map λk=>.int (a + s * (k:Nat))) g where
 go:=λi H _ h=>by rw[lM,length_range]at h;exact h
 O4:=λi H x H' _ h hy=>by
  obtain⟨rfl,rfl⟩:=hy;rw[lM,length_range]at h;refine⟨BI.refl _,.int (a+s*(i:Nat)),?_,A4.mpr (by rw[Int.mul_comm])⟩;rw[List.getElem?_map,List.getElem?_range h];rfl
 stop:=λH _=>by rw[lM,length_range];exact lR
theorem Sx{a b c:Expr}{p pos:Pos}(hg:Gl X "range")(hm:X.mg "range"=none)(hF:∀ρ hs ρ',F ρ= .ok hs ρ'->hs.length=3)(ha:PA X [a,b,c] (tG W EX (Bb W) F))(hs:starEach [a,b,c] X.env=[(false,eval a X.env),(false,eval b X.env),(false,eval c X.env)])
 (hs2:starEach [b,c] X.env=[(false,eval b X.env),(false,eval c X.env)]):PI X tg (.Call (.Name "range" p) [a,b,c] [] pos) (N2 W EX .BC F):=by
 intro pins s σ H R I h;refine Nm hg hm ha hs hs2 pins s σ H R I (GG (Gs hF h) λvs H1 z=>?_);obtain⟨hl,cs,xs,h1,h2,h3⟩:=z;obtain⟨v,u,t,rfl⟩:=T7 hl;obtain⟨c,d,f,rfl⟩:=T7 (h1.length.symm.trans hl);obtain⟨i,n,k,rfl,rfl,rfl,hb,rfl⟩:=Nh h2;obtain⟨c1,c2,c3⟩:=Fu h1;cases Ax c1;cases Ax c2;cases Ax c3;exact⟨i,n,k,_,rfl,hb.1,hb.2.1,Wb hb.1 hb.2.1 hb.2.2.1 hb.2.2.2,Vg hb.1,h3 _ MZ⟩
end
end Iv
namespace Iv
open PySem PySem.Spec L2 PyProof.Rows
variable{prog:Program}{w:World}{A:Around}{R:Result->Shared->Prop}{s:Shared}
abbrev tests(ifs:List Expr)(env:PySem.Env):Sem Bool:=forIn ifs true λc r=>if r=true then do let ok <-isTrue c env (eval c env);pure (ForInStep.yield ok)else pure (ForInStep.yield r)
theorem LD{elt target iter:Expr}{ifs:List Expr}{scope:Scope}{pos:Pos}{it acc:Value}{env:PySem.Env}(I:Nat->Shared->Prop)
 (turn : ∀n s,I n s->wpAny (model prog w) A (pyNext it) (λr s₁=>match r with
  |none=>R (.ok .next) s₁
  |some v=>wpAny (model prog w) A (letOwnedTupleGo target it v) (λ_ s₀=>wpAny (model prog w) A (assign target env v) (λ_ s₂=>wpAny (model prog w) A (tests ifs env) (λok s₃=>
   if ok=true then wpAny (model prog w) A (eval elt env) (λx s₄=>
    wpAny (model prog w) A (call (.builtin "list.append") [acc,x]) (λ_ s₅=>∃m,m < n/\I m s₅) (λ_ _=>False) s₄) (λ_ _=>False) s₃ else ∃m,m < n/\I m s₃) (λ_ _=>False) s₂) (λ_ _=>False) s₀) (λ_ _=>False) s₁) (λ_ _=>False) s)
 (n:Nat)(h:I n s):codeAny (model prog w) A (.compLoop (.ListComp elt [⟨target,iter,ifs,0⟩] scope pos) 0 it acc env) R s:=by
 refine codeAny_loop rfl I (λn s hI=>?_) n h;show wpAny _ _ ((compTurn (.ListComp elt [⟨target,iter,ifs,0⟩] scope pos) 0 it acc env).onRaise (λx=>noteFrame x env >>= λ_=>theTreesLotGoes x)) _ _ s;refine wpAny_noted ?_;rw[compTurn_list];refine wB (wpAny_standAt (wB (wpAny_mono (turn n s hI) (λr s₁ h₁=>?_) λ_ _ z=>z.elim)));cases r with
 |none=>exact wP h₁
 |some v=>
   refine wB (wpAny_mono h₁ (λ_ s₀ h₀=>wB (wpAny_mono h₀ (λ_ s₂ h₂=>wB (wpAny_mono h₂ (λok s₃ h₃=>?_) λ_ _ z=>z.elim)) λ_ _ z=>z.elim)) λ_ _ z=>z.elim);cases ok with
   |true=>
     rw[iP rfl]at h₃;exact wB (wB (wpAny_mono h₃ (λx s₄ h₄=>wB (wpAny_mono h₄ (λ_ s₅ h₅=>wP (wP ⟨rfl,h₅⟩)) λ_ _ z=>z.elim)) λ_ _ z=>z.elim))
   |false=>
     rw[iN Bool.false_ne_true]at h₃;exact wP ⟨rfl,h₃⟩
section
variable{X:Cx}{elt iter tg:Expr}{ifs:List Expr}{scope:Scope}{pos:Pos}{N:List Str}{fr:List (Option Nat)}{g:TG}{te:TE}{tc:TT}{wi:TI}
def Uv(X:Cx)(ifs:List Expr)(t:TT):Prop:=
 ∀(pins:List (Addr×Obj)) (s:Shared) (σ:L2.St) (H:Hp) (Q:Bool->Hp->Prop),Inv X pins σ H s->t σ H Q->wpAny (model X.prog X.w) X.A (tests ifs X.env) (TP X pins σ Q) X.xe s
theorem Sv:Uv X [] (λσ H Q=>Q true H):=λpins s σ H Q I h=>wpAny_tests_nil ⟨H,I,h⟩
theorem Su(h:PT X c tc):Uv X [c] tc:=λpins s σ H Q I k=>wpAny_tests_one (h pins s σ H Q I k)
def R0(J:It)(g:TG)(tc:TT)(te:TE)(σ0:L2.St)(H0:Hp)(Q:List V->Hp->Prop):Prop:=∃W:Nat->List V->Nat->L2.St->Hp->Prop,(∃m,W 0 [] m σ0 H0)/\∀i acc m σ' H',W i acc m σ' H'->
 (J.stop i H'/\Q acc H')\/(J.go i H'/\acc.length < sizeLine/\∀x H2,J.O4 i H' x H2->g x σ' H2 λσ2 H3=>tc σ2 H3 λb H4=>if b=true then te σ2 H4 λy H5=>∃m',m' < m/\W (i+1) (acc++[y]) m' σ2 H5 else ∃m',m' < m/\W (i+1) acc m' σ2 H4)
theorem QI{pins:List (Addr×Obj)}{σ:L2.St}{H:Hp}{s:Shared}{J:It}{fp:List Addr}{it:Addr}{tn:Nat->Heap->Prop}{Q:List V->Hp->Prop}{E:Value->Shared->Prop}(hc:X.calm=true)(ok:Dj X.N X.env.scope N scope fr)
 (hb:∀C s H fp,PG (AU X N scope C s H fp) tg g/\PE (AU X N scope C s H fp) elt te/\Uv (AU X N scope C s H fp) ifs tc)(I:Inv X pins σ H s)(T:Turn X.prog X.w X.K tg J fp it tn)(t0:tn 0 s.heap)(hf:∀b∈fp,FN X pins H b)
 (hW:R0 J g tc te (BL fr σ) H Q):
 wpAny (model X.prog X.w) X.A (newList []) (λacc s₃=>wpAny (model X.prog X.w) X.A (newFunctionEnv scope X.env.globals (G7 X.env.cells scope.names []) [] X.env.qual none .none (some X.env)) (λcenv s₄=>
  codeAny (model X.prog X.w) X.A (.compStart (.ListComp elt [⟨tg,iter,ifs,0⟩] scope pos) 0 (.ref it) acc {cenv with scope:=relabel scope X.env}) (CompEnd X pins σ Q acc cenv.locals) s₄) E s₃) E s:=by
 have hfl:∀b∈fp,b < s.heap.objs.size:=λb hb=>by
  obtain⟨o,e,_⟩:=T.obj 0 _ t0 b hb;exact Heap.lt_size e
 refine wpAny_newObj_type (wpAny_newFunctionEnv ok.Dw (by intro y hy;simp at hy) (λh₁ hns₁ hsb₁=>?_) ok.kind);dsimp only at hns₁ hsb₁ ⊢;generalize hH2:s.heap.push {cls:=.type "list",dict:=none,data:=.seq ([]:List Value).toArray}=H2 at hns₁ hsb₁ ⊢;have hC:H2.objs.size=s.heap.objs.size+1:=by rw[<-hH2,Heap.size_push]
 have hDC:s.heap.objs.size≠H2.objs.size:=by rw[hC];exact Nat.ne_of_lt (Nat.lt_succ_self _)
 have hCle:s.heap.objs.size<=H2.objs.size:=by rw[hC];exact Nat.le_succ _
 have old:∀b o,s.heap.get? b=some o->h₁.get? b=some o:=λb o e=>
  hsb₁.extBut b o (by rw[hC];exact Nat.ne_of_lt (Nat.lt_succ_of_lt (Heap.lt_size e))) (gP (hH2▸gP e))
 have hacc:h₁.get? s.heap.objs.size=some {cls:=.type "list",dict:=none,data:=.seq ([]:List Value).toArray}:=hsb₁.extBut _ _ hDC (gP (hH2▸Heap.get?_push_size _ rfl));obtain⟨W,⟨m0,w0⟩,turn⟩:=hW;obtain⟨hg,he,ht⟩:=hb H2.objs.size s H fp;have I1:=Hv (N:=N) (fr:=fr) (tk:=s.toks+([]:List (Str×Value)).length) I ok hf hfl hCle hns₁ old;have hDfp:s.heap.objs.size∉fp:=λz=>Nat.lt_irrefl _ (hfl _ z)
 have fpx:∀{H':Hp} {ps:List (Addr×Obj)},(∀b∈fp,H' b=none)->(∀p∈ps,p.1=s.heap.objs.size)->∀b∈fp,FN (AU X N scope H2.objs.size s H fp) ps H' b:=λ{H' ps} hn hp b hb=>
  ⟨hn b hb,(I1.ok.eJ b hb).1,I1.ok.Qj b hb,.inl hb,(I1.ok.eJ b hb).2,λp hp' z=>by
   have hp':p∈([]:List (Addr×Obj))++ps:=hp';rw[nil_append]at hp'
   exact hDfp (by rw[<-hp p hp',z];exact hb)⟩
 have loop :∀s₃:Shared,s₃={s with heap:=h₁,toks:=s.toks + ([]:List (Str×Value)).length}->
  codeAny (model X.prog X.w) X.A (.compLoop (.ListComp elt [⟨tg,iter,ifs,0⟩] scope pos) 0 (.ref it) (.ref s.heap.objs.size) (compEnvC scope (G7 X.env.cells scope.names []) H2.objs.size X.env))
   (CompEnd X pins σ Q (.ref s.heap.objs.size) H2.objs.size) s₃:=by
  rintro s₃ rfl
  refine LD (λn s'=>∃i acc its k σ' H',Inv (AU X N scope H2.objs.size s H fp) [(s.heap.objs.size,({cls:=.type "list",data:=.seq its k}:Obj))] σ' H' s'/\tn i s'.heap/\(∀b∈fp,H' b=none)/\acc.length<=sizeLine/\Vals acc its.toList/\W i acc n σ' H') ?_ m0
   ⟨0,[],#[],0,BL fr σ,H,?_,?_,λb hb=>(hf b hb).1,Nat.zero_le _,.nil,w0⟩
  .rintro n s3 ⟨i,acc,its,k,σ3,H3,I3,st3,fr3,hz3,va3,w3⟩
   have pinD:=I3.pin _ (mR mS);rcases turn i acc n σ3 H3 w3 with⟨stop,q⟩|⟨go,hlen,step⟩
   .refine B4 (T.done (AU X N scope H2.objs.size s H fp) rfl rfl rfl hc i _ s3 σ3 H3 _ I3 (fpx fr3 (by simp)) st3 stop) λr s4 ⟨hr,I4⟩=>?_
    subst hr;have p4:=I4.pin _ (mR mS);have J4:Inv X pins σ H3 s4:=I.cA (ch:=fp) I4.os I4.base I4.Ak I4.bare λb hb=>⟨(hf b hb).2.2.2.1,(hf b hb).2.1,(hf b hb).2.2.2.2.1,(hf b hb).2.2.2.2.2⟩
    have fD:FN X pins H3 s.heap.objs.size:=I.Qe (lR) p4.2.1;have e4:s4.heap.get? s.heap.objs.size=some {cls:=.type "list",data:=.seq its.toList.toArray k}:=by simpa using p4.1
    refine⟨rfl,_,H3,acc,rfl,p4.2.1,J4.ZA fD hz3 va3 e4,?_,I.Qe hCle ?_,q⟩
    .obtain⟨m,hn,_⟩:=I4.loc;exact⟨m,hn⟩
    .rw[Ab (Ne.symm hDC)];exact I4.free
   .refine B4 (T.item (AU X N scope H2.objs.size s H fp) rfl rfl rfl hc i _ s3 σ3 H3 _ I3 (fpx fr3 (by simp)) st3 go) λr s4 ⟨u,hr,h4⟩=>?_
    subst hr;refine B4 h4 λ_ s5 ⟨x,H5,I5,r5,y5,st5,fr5⟩=>?_
    have I5':=I5.pinned (fpx fr5 (by simp)) (T.obj _ _ st5);refine B4 (hg _ s5 σ3 H5 x u _ I5' r5 (step x H5 y5)) λ_ s6 ⟨σ6,H6,I6,q6⟩=>?_
    refine B4 (ht _ s6 σ6 H6 _ I6 q6) λok s6' ⟨H6',I6',q6'⟩=>?_
    cases ok with
    |false=>
      rw[iN Bool.false_ne_true]at q6' ⊢;obtain⟨m',hm,w7⟩:=q6';have p7:=I6'.pin _ (mR (mL mS));refine⟨m',hm,i+1,acc,its,k,σ6,H6',?_,?_,λb hb=>?_,hz3,va3,w7⟩
      .refine(I6'.D5 (pins':=[]) λp hp=>absurd hp (by simp)).D5 λp hp=>?_
       have:p=(s.heap.objs.size,({cls:=.type "list",data:=.seq its k}:Obj)):=by simpa using hp
       subst this;exact p7
      .refine T.keep _ _ _ st5 λb hb o e=>?_
       exact(I6'.pin (b,o) (mR (mR (BP hb e)))).1
      .obtain⟨o,e,d⟩:=T.obj _ _ st5 b hb;exact(I6'.pin (b,o) (mR (mR (BP hb e)))).2.1
    |true=>
    rw[iP rfl]at q6' ⊢;refine B4 (he _ s6' σ6 H6' _ I6' q6') λy s7 ⟨z,H7,I7,r7,q7⟩=>?_
    obtain⟨m',hm,w7⟩:=q7;have p7:=I7.pin _ (mR (mL mS));have hsz:its.size=acc.length:=by rw[va3.length];simp
    refine wpAny_list_append_plain (hsz:=by rw[hsz];exact hz3) ⟨k,p7.1⟩ λh₅ hl₅ hs₅=>?_
    obtain⟨k',e5⟩:=hl₅;refine⟨m',hm,i+1,acc++[z],its.push y,k',σ6,H7,?_,?_,λb hb=>?_,?_,?_,w7⟩
    .have J7:Inv (AU X N scope H2.objs.size s H fp) [] σ6 H7 s7:=I7.D5 λp hp=>absurd hp (by simp)
     have J8:Inv (AU X N scope H2.objs.size s H fp) [] σ6 H7 {s7 with heap:=h₅}:=by
      refine J7.turned (t':=s7.toks) (it:=s.heap.objs.size) (λb o hb e=>(hs₅.2 b hb).trans e) p7.2.1 p7.2.2.1 (.inr (lR)) (λx c e z=>?_) λp hp=>absurd (show p∈([]:List (Addr×Obj))from hp) (by simp)
      obtain⟨v,oc,hoc,hod⟩:=J7.cell x c e;rw[z,p7.1]at hoc;cases hoc;cases hod
     refine J8.D5 λp hp=>?_
     have:p=(s.heap.objs.size,({cls:=.type "list",data:=.seq (its.push y) k'}:Obj)):=by simpa using hp
     subst this;exact⟨e5,p7.2.1,p7.2.2.1,p7.2.2.2.1,λv z=>by cases z⟩
    .refine T.keep _ _ _ st5 λb hb o e=>?_
     have q:=(I7.pin (b,o) (mR (mR (BP hb e)))).1;exact(hs₅.2 b (λz=>hDfp (z▸hb))).trans q
    .obtain⟨o,e,d⟩:=T.obj _ _ st5 b hb;exact(I7.pin (b,o) (mR (mR (BP hb e)))).2.1
    .rw[lA,lS];exact hlen
    .rw[Array.toList_push];exact Vals.append va3 (.cons r7 .nil)
  .refine I1.D5 λp hp=>?_
   have:p=(s.heap.objs.size,({cls:=.type "list",data:=.seq #[] 0}:Obj)):=by simpa using hp
   subst this
   exact⟨hacc,I.Ak.fresh (lR),hDC,λz=>I.Xg (lR) (by
    rcases mK (I.GJ _ z)with e|e
    .exact absurd I.lt (by rw[<-e];exact Nat.lt_irrefl _)
    .exact e),λv z=>by cases z⟩
  .exact T.keep _ _ _ t0 λb _ o e=>old b o e
 refine codeAny_compStart_list (loop _ rfl) ?_;exact T.self _ 0 _ _ _ (T.keep _ _ _ t0 λb _ o e=>old b o e) (loop _ rfl)
noncomputable def IP(wi:TI)(g:TG)(tc:TT)(te:TE)(fr:List (Option Nat)):TE:=λσ H Q=>wi σ H λJ H1=>R0 J g tc te (BL fr σ) H1 λxs H'=>∀p,H' p=none->Q (.ref p) (upd H' p (.lst xs))
theorem Pa(N:List Str)(fr:List (Option Nat))(hc:X.calm=true)(ok:Dj X.N X.env.scope N scope fr)(hi:PI X tg iter wi)(hb:∀C s H fp,PG (AU X N scope C s H fp) tg g/\PE (AU X N scope C s H fp) elt te/\Uv (AU X N scope C s H fp) ifs tc)
 (hs:∀x,foldedSetIterable iter X.env x=pure x:=by intro _;rfl):PE X (.ListComp elt [⟨tg,iter,ifs,0⟩] scope pos) (IP wi g tc te fr):=by
 intro pins s σ H Q I h;rw[eval_ListComp];refine wpAny_comprehension_free (use:=none) rfl hs (Cp λy hy e=>I.ok.has y.1 (ok.free y hy e)) ok.kind ok.own ?_;refine B4 (hi pins s σ H _ I h) λv s1 h1=>B4 h1 λitv s2 h2=>?_
 obtain⟨it,fp,tn,J,H2,e,I2,T,st2,f2,hW⟩:=h2;subst e;refine B4 (QI (pos:=pos) (iter:=iter) (E:=X.xe) hc ok hb I2 T st2 f2 hW) λacc s3 h3=>B4 h3 λcenv s4 h4=>?_
 refine codeAny_mono h4 λr s5 h5=>?_
 obtain⟨rfl,D,H',xs,rfl,hD,I5,⟨m,hn⟩,fC,q⟩:=h5;refine⟨m,hn,λh' hs'=>⟨.ref D,_,I5.turned (t':=s5.toks) (it:=cenv.locals) (λb o hb e=>(hs'.2 b hb).trans e) fC.1 fC.2.1 fC.2.2.2.1 fC.2.2.2.2.1 fC.2.2.2.2.2,rfl,q D hD⟩⟩
theorem OX{i:Nat}{y:Str}{py spos:Pos}(N:List Str)(fr:List (Option Nat))(hN:X.N.Nodup)(hy:X.N[i]? =some y)(hl:X.env.scope.names.lookup y=some .local)(hc:X.calm=true)(ok:Dj X.N X.env.scope N scope fr)(hi:PI X tg iter wi)
 (hb:∀C s H fp,PG (AU X N scope C s H fp) tg g/\PE (AU X N scope C s H fp) elt te/\Uv (AU X N scope C s H fp) ifs tc)
 (hsw:swapsWith (.ListComp elt [⟨tg,iter,ifs,0⟩] scope pos) (some (.Name y py)) spos.line X.env=pure true:=by rfl)
 (hs:∀x,foldedSetIterable iter X.env x=pure x:=by intro _;rfl):PS X (.Assign [.Name y py] (.ListComp elt [⟨tg,iter,ifs,0⟩] scope pos) spos) (Oq (IP wi g tc te fr) (Hl i)):=by
 intro pins s σ H Q I h;rw[exec_Assign_Name_used _ _ _ _ hsw];refine wB (wpAny_standAt (wB ?_));show wpAny _ X.A (do let _ <-comprehension (.ListComp elt [⟨tg,iter,ifs,0⟩] scope pos) scope X.env _ (newList []) false (eval iter X.env) (some (assign (.Name y py) X.env))) _ _ s;refine wB (wpAny_mono (wpAny_comprehension_free (use:=some (assign (.Name y py) X.env)) (Q:=λ_ s'=>SP X pins Q .next s') rfl hs (Cp λy hy e=>I.ok.has y.1 (ok.free y hy e)) ok.kind ok.own ?_) (λ_ s' hq=>wP (wP hq)) λ_ _ e=>e);refine B4 (hi pins s σ H _ I h) λv s1 h1=>B4 h1 λitv s2 h2=>?_
 obtain⟨it,fp,tn,J,H2,e,I2,T,st2,f2,hW⟩:=h2;subst e;refine B4 (QI (pos:=pos) (iter:=iter) (E:=X.xe) hc ok hb I2 T st2 f2 hW) λacc s3 h3=>B4 h3 λcenv s4 h4=>?_
 refine codeAny_mono h4 λr s5 h5=>?_
 obtain⟨rfl,D,H',xs,rfl,hD,I5,⟨m,hn⟩,fC,q⟩:=h5;show wpAny _ X.A (assign (.Name y py) X.env (.ref D)) _ _ _;refine wpAny_assign_Name (HR (v:=.ref D) I5 hN hy (.inl hl) rfl (λs6 I6 hsb=>?_) (.inr hl));obtain⟨a,sb,ha⟩:=hsb
 have hCa:cenv.locals≠a:=by
  rcases ha with e|e
  .rw[e];exact fC.2.1
  .exact λz=>fC.2.2.2.2.1 _ _ e z.symm
 refine⟨m,hn.sameBut sb hCa,λh' hs'=>?_⟩;exact⟨_,_,I6.turned (t':=s6.toks) (it:=cenv.locals) (λb o hb e=>(hs'.2 b hb).trans e) fC.1 fC.2.1 fC.2.2.2.1 fC.2.2.2.2.1 fC.2.2.2.2.2,q D hD⟩
end
end Iv
namespace Iv
open PySem L2
variable{ρ:Env}
theorem E4{i:Nat}(e:A7 ρ i=none):ρ.set i none=ρ:=by
 apply ext_getElem?;intro j;rw[List.getElem?_set];split
 .rename_i hj;subst hj;split
  .rename_i hl;unfold A7 at e;rw[List.getElem?_eq_getElem hl]at e ⊢;have e:ρ[i]=none:=e;rw[e]
  .rename_i hl;rw[List.getElem?_eq_none (by lia)]
 .rfl
variable{j:Nat}
theorem DA{i:Nat}(h:i≠j):A7 (ρ.set i x) j=A7 ρ j:=by
 unfold A7;rw[List.getElem?_set_ne h]
variable{W:Wd}{H:Hp}
variable{fr:List (Option Nat)}
theorem AG{o:Option Nat}:(o::fr).filterMap id=(match o with|some i=>[i]|none=>[])++fr.filterMap id:=by
 cases o<;>simp
theorem KW{i:Nat}(h:i∉fr.filterMap id):Bv fr (ρ.set i none)=Bv fr ρ:=by
 unfold Bv;apply map_congr_left;intro o ho;cases o with
 |none=>rfl
 |some j=>
   show A7 (ρ.set i none) j=A7 ρ j;refine DA λz=>h ?_
   subst z;exact mem_filterMap.mpr ⟨some i,ho,rfl⟩
theorem EH:∀{fr:List (Option Nat)} {ρ:Env} {σ:L2.St} {os:List Addr},(fr.filterMap id).Nodup->A5 W H ρ σ os->∃ob or_,A5 W H (Bv fr ρ) (BL fr σ) ob/\A5 W H (CA fr ρ) σ or_/\(ob++or_).Perm os
 |[],ρ,σ,os,_,hR=>⟨[],os,⟨rfl,rfl,hR.tb⟩,hR,.refl _⟩
 | none::fr,ρ,σ,os,hn,hR=>by
   obtain⟨ob,or_,h1,h2,h3⟩:=EH (fr:=fr) (by simpa[AG]using hn) hR;exact⟨ob,or_,⟨none,BL fr σ,rfl,h1⟩,by unfold CA at h2 ⊢;simpa[AG]using h2,h3⟩
 | some i::fr,ρ,σ,os,hn,hR=>by
   rw[AG]at hn;have hn:=nA hn;have hi:i∉fr.filterMap id:=λz=>hn.2.2 i mS i z rfl
   cases hg:A7 ρ i with
   |none=>
     obtain⟨ob,or_,h1,h2,h3⟩:=EH (fr:=fr) hn.2.1 hR;refine⟨ob,or_,?_,?_,h3⟩
     .show A5 W H (A7 ρ i::Bv fr ρ) _ _;rw[hg];exact⟨_,BL fr σ,rfl,h1⟩
     .unfold CA at h2 ⊢;rw[AG,foldl_append];show A5 W H ((fr.filterMap id).foldl _ (ρ.set i none)) _ _;rw[E4 hg];exact h2
   |some c=>
     obtain⟨v,o,osr,t1,t2,t3,t4⟩:=hR.take hg;obtain⟨ob,or_,h1,h2,h3⟩:=EH (fr:=fr) hn.2.1 t3;rw[KW hi]at h1;refine⟨o++ob,or_,?_,?_,?_⟩
     .show A5 W H (A7 ρ i::Bv fr ρ) _ _;rw[hg];refine⟨v,BL fr σ,o,ob,?_,t2,h1,rfl⟩;show(σ[i]?).join::BL fr σ=_;rw[t1];rfl
     .unfold CA at h2 ⊢;rw[AG,foldl_append];exact h2
     .rw[append_assoc];exact(h3.append_left o).trans t4
theorem BE:∀{fr:List (Option Nat)} {β ρ:Env} {τ σ:L2.St} {ob or_:List Addr},(fr.filterMap id).Nodup->A5 W H β τ ob->A5 W H ρ σ or_->(∀i∈fr.filterMap id,A7 ρ i=none)->(∀(j i:Nat),fr[j]? =some (some i)->τ[j]? =some ((σ[i]?).join))->(ob++or_).Nodup->
 ∃os',A5 W H (AJ ρ fr β) σ os'/\os'.Nodup/\∀a∈os',a∈ob++or_
 |[],β,ρ,τ,σ,ob,or_,_,_,hR,_,_,hn=>⟨or_,by cases β<;>exact hR,(nA hn).2.1,λa ha=>mR ha⟩
 |none::fr,[],ρ,τ,σ,ob,or_,_,_,hR,_,_,hn=>⟨or_,hR,(nA hn).2.1,λa ha=>mR ha⟩
 |some i::fr,[],ρ,τ,σ,ob,or_,_,_,hR,_,_,hn=>⟨or_,hR,(nA hn).2.1,λa ha=>mR ha⟩
 | none::fr,x::β,ρ,τ,σ,ob,or_,hd,hB,hR,he,ht,hn=>by
   have hd':(fr.filterMap id).Nodup:=by simpa[AG]using hd
   have he':∀i∈fr.filterMap id,A7 ρ i=none:=λi hi=>he i (by rw[AG];exact mR hi)
   cases x with
   |none=>
     obtain⟨y,r,rfl,hB⟩:=hB;show ∃os',A5 W H (AJ ρ fr β) σ os'/\_;exact BE hd' hB hR he' (λj i e=>by simpa using ht (j+1) i (by simpa using e)) hn
   |some c=>
     obtain⟨v,r,o,o2,rfl,hc,hB,rfl⟩:=hB;show ∃os',A5 W H (AJ ρ fr β) σ os'/\_
     have hn':(o2++or_).Nodup:=by
      rw[append_assoc]at hn;exact(nA hn).2.1
     obtain⟨os',h1,h2,h3⟩:=BE hd' hB hR he' (λj i e=>by simpa using ht (j+1) i (by simpa using e)) hn';exact⟨os',h1,h2,λa ha=>by rw[append_assoc];exact mR (h3 a ha)⟩
 | some i::fr,x::β,ρ,τ,σ,ob,or_,hd,hB,hR,he,ht,hn=>by
   rw[AG]at hd;have hd:=nA hd;have hi:i∉fr.filterMap id:=λz=>hd.2.2 i mS i z rfl
   have hei:A7 ρ i=none:=he i (by rw[AG];exact mL mS)
   have he':∀{y:Option C},∀k∈fr.filterMap id,A7 (ρ.set i y) k=none:=λ{y} k hk=>by
    have hne:i≠k:=λz=>hi (by rw[z];exact hk)
    rw[DA hne];exact he k (by rw[AG];exact mR hk)
   have hti:=ht 0 i rfl;cases x with
   |none=>
     obtain⟨y,r,rfl,hB⟩:=hB;show ∃os',A5 W H (AJ (ρ.set i none) fr β) σ os'/\_;have hR':A5 W H (ρ.set i none) σ or_:=by rw[E4 hei];exact hR
     exact BE hd.2.1 hB hR' he' (λj i e=>by simpa using ht (j+1) i (by simpa using e)) hn
   |some c=>
     obtain⟨v,r,o,o2,rfl,hc,hB,rfl⟩:=hB
     have hσ:σ[i]? =some (some v):=by
      have hti:some (some v)=some ((σ[i]?).join):=hti;cases q:σ[i]? with
      |none=>rw[q]at hti;cases hti
      |some z=>rw[q]at hti;exact congrArg some (Option.some.inj hti).symm
     have hil:i < ρ.length:=by
      rw[<-hR.length];exact(List.getElem?_eq_some_iff.mp hσ).1
     obtain⟨os2,u1,u2⟩:=A5.fill hc hR hei hil;rw[set_same hσ]at u1;show ∃os',A5 W H (AJ (ρ.set i (some c)) fr β) σ os'/\_
     have hp:(o2++os2).Perm ((o++o2)++or_):=by
      refine(u2.append_left o2).trans ?_;rw[<-append_assoc];exact perm_append_comm.append_right or_
     obtain⟨os',h1,h2,h3⟩:=BE hd.2.1 hB u1 he' (λj i e=>by simpa using ht (j+1) i (by simpa using e)) (hp.nodup_iff.mpr hn);exact⟨os',h1,h2,λa ha=>hp.subset (h3 a ha)⟩
theorem N5:(CA fr ρ).length=ρ.length:=CN
theorem Le{i:Nat}(h:i∈fr.filterMap id):A7 (CA fr ρ) i=none:=Cn h
theorem Oe{i:Nat}(h:i∉fr.filterMap id):A7 (CA fr ρ) i=A7 ρ i:=Fb h
theorem J1{i:Nat}:∀{fr:List (Option Nat)} {ρ β:Env},i∉fr.filterMap id->A7 (AJ ρ fr β) i=A7 ρ i
 |[],ρ,β,_=>by cases β<;>rfl
 |none::fr,ρ,[],_=>rfl
 |some j::fr,ρ,[],_=>rfl
 |none::fr,ρ,x::β,h=>J1 (fr:=fr) (by simpa[AG]using h)
 | some j::fr,ρ,x::β,h=>by
   rw[AG]at h;have h1:i∉fr.filterMap id:=λz=>h (mR z)
   have h2:j≠i:=λz=>h (mL (by rw[z];exact mS))
   show A7 (AJ (ρ.set j x) fr β) i=_;rw[J1 h1,DA h2]
theorem Lu{i:Nat}{x:Option C}:∀{fr:List (Option Nat)} {ρ β:Env} {j:Nat},(fr.filterMap id).Nodup->fr[j]? =some (some i)->β[j]? =some x->i < ρ.length->A7 (AJ ρ fr β) i=x
 |[],_,_,_,_,e,_,_=>by simp at e
 |o::fr,ρ,[],j,_,_,e,_=>by simp at e
 |none::fr,ρ,y::β,0,_,e,_,_=>by simp at e
 |none::fr,ρ,y::β,j+1,hn,e,e2,hl=>Lu (fr:=fr) (j:=j) (by simpa[AG]using hn) (by simpa using e) (by simpa using e2) hl
 | some k::fr,ρ,y::β,0,hn,e,e2,hl=>by
   rw[AG]at hn;have hn:=nA hn;simp at e e2;subst e e2;show A7 (AJ (ρ.set k y) fr β) k=y;rw[J1 (λz=>hn.2.2 k mS k z rfl),Bi hl]
 | some k::fr,ρ,y::β,j + 1,hn,e,e2,hl=>by
   rw[AG]at hn;have hn:=nA hn;exact Lu (fr:=fr) (j:=j) (ρ:=ρ.set k y) hn.2.1 (by simpa using e) (by simpa using e2) (by rw[length_set];exact hl)
theorem LQ{i:Nat}(h:inner fr i=some j):fr[j]? =some (some i):=by
 unfold inner at h;obtain⟨hj,h1,_⟩:=List.findIdx?_eq_some_iff_getElem.mp h;rw[List.getElem?_eq_getElem hj];exact congrArg some (by simpa using h1)
theorem Hj{i:Nat}(h:inner fr i=none):i∉fr.filterMap id:=λz=>by
 unfold inner at h;obtain⟨o,ho,e⟩:=mem_filterMap.mp z;have e:o=some i:=e;subst e;have:=List.findIdx?_eq_none_iff.mp h _ ho;simp at this
def NX:XP:=λ_ _ _ _=>False
variable{EX:XP}{σ:L2.St}
theorem HM{g:Tg}(h:Fi g fr=true):(fr.filterMap id).Nodup/\∀j∈g.slots,fr[j]? =some none:=by
 unfold Fi at h;rw[bA]at h;exact⟨of_decide_eq_true h.1,λj hj=>of_decide_eq_true (all_eq_true.mp h.2 j hj)⟩
theorem Qd{i:Nat}(e:fr[j]? =some (some i)):(BL fr σ)[j]? =some ((σ[i]?).join):=by
 unfold BL;rw[List.getElem?_map,e];rfl
theorem U7{k:IK}{F:Env->Res (List Hd)}{B:Env->Res Bool}{E:Env->Res C}{Q:VK}(h:tG W EX (rV W) (λρ=>(F ρ).bind (Iy k g fr B E)) σ H Q):
 IP (N2 W EX k F) (gT W g) (tG W NX rB B) (tG W NX (rV W) E) fr σ H Q:=by
 obtain⟨ρ,os,hR,hn,hA⟩:=h;dsimp only at hA;refine⟨ρ,os,hR,hn,?_⟩;unfold C5;cases eF:F ρ with
 |stuck=>rw[eF]at hA;exact hA
 |err x p ρ'=>rw[eF]at hA;exact hA
 |ok hs ρ1=>
   rw[eF,Res.A3]at hA;intro vs H1 o1 os1 h1 h2 h3 h4;have hA:=C5.shift hA h4;unfold Iy at hA;cases ec:Ai ρ1 hs with
   |none=>rw[ec]at hA;exact hA.elim
   |some cs=>
   rw[ec]at hA;dsimp only at hA;cases ex:Aw k cs with
   |none=>rw[ex]at hA;exact hA.elim
   |some xs=>
   rw[ex]at hA;dsimp only at hA;refine⟨cs,xs,DC h2 h1 ec,ex,λJ hJ=>?_⟩;split at hA
   case isFalse=>exact hA.elim
   rename_i hgd;rw[bA,bA]at hgd;obtain⟨⟨hgf,hbk⟩,hbig⟩:=hgd;have hbig:xs.length<=big:=of_decide_eq_true hbig;obtain⟨hnd,hsl⟩:=HM hbk;cases eL:Cc g (BF fr hs cs) B E xs [] (Bv fr ρ1)with
   |stuck=>rw[eL]at hA;exact hA.elim
   |err x p β=>rw[eL]at hA;exact hA.elim
   |ok ys βf=>
   rw[eL]at hA;have hA:∀v H' o os',B3 W H' (.lst ys) v o->A5 W H' (AJ (CA fr ρ1) fr βf) σ os'->(o++os').Nodup->AR H1 H' (o1++os1) (o++os')->Q v H':=hA;obtain⟨ob,or_,s1,s2,s3⟩:=EH hnd h2;have n3:=nA h3;have nob:=nA (s3.nodup_iff.mpr n3.2.1);have hlen:(BL fr σ).length=fr.length:=by unfold BL;rw[lM]
   have whole:∀{H':Hp} {β:Env} {τ:L2.St} {ob':List Addr},A5 W H' β τ ob'->ob'.Nodup->AR H1 H' ob ob'->AQ g.slots (BL fr σ) τ->∃os',A5 W H' (AJ (CA fr ρ1) fr β) σ os'/\os'.Nodup/\∀a∈os',a∈ob'++or_:=by
    intro H' β τ ob' r1 r2 r3 r4;have k1:AK H1 H':=r3.but.keep s1.own;have s2':A5 W H' (CA fr ρ1) σ or_:=s2.frame r1.tb k1 r3.but λa ha z=>nob.2.2 a z a ha rfl
    refine BE hnd r1 s2' (λi hi=>Le hi) (λj i e=>?_) ?_
    .rw[r4.2 j (λz=>by rw[hsl j z]at e;cases e)];exact Qd e
    .rw[nodup_append];refine⟨r2,nob.2.1,λa ha b hb z=>?_⟩;subst z;rcases r3.src a ha with y|y
     .exact nob.2.2 a y a hb rfl
     .obtain⟨x,e,_⟩:=s2.own a hb;rw[y]at e;cases e
   have rd : ∀ {H':Hp} {β:Env} {τ:L2.St} {ob':List Addr},A5 W H' β τ ob'->ob'.Nodup->AR H1 H' ob ob'->AQ g.slots (BL fr σ) τ->holds (BF fr hs cs) β=true->Cy W H' cs vs:=by
    intro H' β τ ob' r1 r2 r3 r4 hh;obtain⟨os',w1,w2,w3⟩:=whole r1 r2 r3 r4;refine IW w1 (r3.but.keep s1.own) r3.but h1 ec h2 hgf (λq hq=>⟨?_,rfl⟩) λa ha z=>n3.2.2 a ha a (s3.subset (mL z)) rfl
    have hq':A7 ρ1 q.1=some q.2:=by
     unfold guards at hq;obtain⟨p,hp,e⟩:=mem_filterMap.mp hq;split at e
     .cases e
     .split at e
      .rename_i i hi;cases e
       have:∀{hs:List Hd} {cs:List C},Ai ρ1 hs=some cs->p∈hs.zip cs->p.1.cont ρ1=some p.2:=by
        intro hs
        induction hs with
        |nil=>intro cs _ hp;simp at hp
        |cons h hs ih=>
          intro cs e hp;unfold Ai at e;obtain⟨c,ec,e⟩:=oB e;obtain⟨ds,ed,rfl⟩:=oM e;rw[zip_cons_cons]at hp;rcases mK hp with z|z
          .rw[z];exact ec
          .exact ih ed z
       have z:=this ec hp;rw[hi]at z;exact z
      .cases e
    have hlt:q.1 < (CA fr ρ1).length:=by rw[N5];exact BW hq'
    cases hin:inner fr q.1 with
    |none=>rw[J1 (Hj hin),Oe (Hj hin)];exact hq'
    |some j=>
      have hm:(j,q.2)∈BF fr hs cs:=by
       unfold BF;exact mem_filterMap.mpr ⟨q,hq,by rw[hin];rfl⟩
      have hj:=Ik hh _ hm;have hj:A7 β j=some q.2:=hj
      have hjβ:β[j]? =some (some q.2):=by
       unfold A7 at hj;cases z:β[j]? with
       |none=>rw[z]at hj;cases hj
       |some y=>rw[z]at hj;exact congrArg some hj
      exact Lu hnd (LQ hin) hjβ hlt
   refine⟨λi acc m τ H'=>m=xs.length - i/\i<=xs.length/\∃β ob' accP,A5 W H' β τ ob'/\ob'.Nodup/\AR H1 H' ob ob'/\AQ g.slots (BL fr σ) τ/\A2 W H' accP acc/\accP.length<=i/\Cc g (BF fr hs cs) B E (xs.drop i) accP β= .ok ys βf,
    ⟨xs.length,rfl,Nat.zero_le _,Bv fr ρ1,ob,[],s1,nob.1,AR.refl _ _,AQ.refl _ _,.nil,lR,eL⟩,?_⟩
   rintro i acc m τ H' ⟨rfl,hi,β,ob',accP,r1,r2,r3,r4,r5,r6,r7⟩
   by_cases hlt:i < xs.length
   .rw[List.drop_eq_getElem_cons hlt]at r7;unfold Cc at r7;split at r7
    case isFalse=>cases r7
    rename_i hh;have hrd:=rd r1 r2 r3 r4 hh;refine .inr ⟨hJ.go i H' hrd hlt,?_,λx H2 hy=>?_⟩
    .rw[r5.length];exact Nat.lt_of_le_of_lt r6 (Nat.lt_of_lt_of_le hlt (Nat.le_trans hbig BU))
    obtain⟨sm,p,ep,rp⟩:=hJ.O4 i H' x H2 hrd hlt hy;rw[List.getElem?_eq_getElem hlt]at ep;cases ep;cases eT:DY g xs[i] β with
    |none=>rw[eT]at r7;cases r7
    |some β1=>
    rw[eT,Res.Ms,Res.A3]at r7;refine Qc eT rp (r1.same sm) r2 (λj hj=>?_) λτ2 ob2 g1 g2 g3 g4=>?_
    .have e:=hsl j hj;have:τ.length=fr.length:=r4.1.trans hlen;rw[this];exact(List.getElem?_eq_some_iff.mp e).1
    have fr2:AR H1 H2 ob ob2:=(r3.trans (AR.of sm λa ha=>.inl ha)).sub g3;have un2:AQ g.slots (BL fr σ) τ2:=r4.trans g4;refine⟨β1,ob2,g1,g2,?_⟩;unfold C5;cases eB:B β1 with
    |stuck=>rw[eB]at r7;cases r7
    |err x p ρ'=>rw[eB]at r7;cases r7
    |ok b β2=>
    rw[eB,Res.A3]at r7;intro b' H4 o4 os4 rb hR4 hn4 fr4;obtain⟨rfl,rfl⟩:=rb;have fr4':AR H1 H4 ob os4:=fr2.trans fr4;have kp4:AK H' H4:=(AK.of sm).trans (fr4.but.keep g1.own);cases b with
    |false=>
      rw[iN Bool.false_ne_true]at r7 ⊢;exact⟨xs.length-(i+1),by lia,rfl,hlt,β2,os4,accP,hR4,hn4,fr4',un2,r5.mono kp4,by lia,r7⟩
    |true=>
      rw[iP rfl]at r7 ⊢;refine⟨β2,os4,hR4,hn4,?_⟩;unfold C5;cases eE:E β2 with
      |stuck=>rw[eE]at r7;cases r7
      |err x p ρ'=>rw[eE]at r7;cases r7
      |ok c β3=>
      rw[eE,Res.A3]at r7;intro y H5 o5 os5 rc hR5 hn5 fr5;cases c with
      |obj _ _=>cases r7
      |b bb=>
      cases bb with
      |lst _=>cases r7
      |Cv _=>cases r7
      |ro _=>cases r7
      |p yp=>
      have r7:Cc g (BF fr hs cs) B E (xs.drop (i+1)) (accP++[yp]) β3= .ok ys βf:=r7;obtain⟨rp5,rfl⟩:=(show Ay W H5 yp y/\o5=[]from rc);have kp5:AK H' H5:=kp4.trans (fr5.but.keep hR4.own);refine⟨xs.length-(i+1),by lia,rfl,hlt,β3,os5,accP++[yp],hR5,hn5,fr4'.trans fr5,un2,A2.append (.cons rp5 .nil) (r5.mono kp5),?_,r7⟩;rw[lA,lS]
      lia
   .have e:i=xs.length:=by lia
    subst e;rw[List.drop_length]at r7;unfold Cc at r7;split at r7
    case isFalse=>cases r7
    rename_i hh;cases r7;refine .inl ⟨hJ.stop H' (rd r1 r2 r3 r4 hh),λp hp=>?_⟩;obtain⟨os',w1,w2,w3⟩:=whole r1 r2 r3 r4;have sm:BI H' (upd H' p (.lst acc)):=λb o e=>by rw[Ab (AS e hp)];exact e
    have hpos:p∉os':=λz=>by
     obtain⟨x,e,_⟩:=w1.own p z;rw[hp]at e;cases e
    have fr':AR H1 H' (o1++os1) os':=by
     have f1:=((r3.more or_).perm (perm_append_comm.trans s3) (.refl _)).sub (os2:=os') λa ha=>by
      rcases mem_append.mp (w3 a ha)with z|z
      .exact mR z
      .exact mL z
     exact f1.weak λa ha=>mR ha
    refine hA (.ref p) _ [p] os' ⟨p,acc,rfl,Ar,r5.mono (AK.of sm),rfl⟩ (w1.same sm) ?_ ?_
    .rw[nodup_append];exact⟨by simp,w2,λa ha b hb z=>hpos (by rw[<-mE ha,z];exact hb)⟩
    .refine fr'.trans (AR.of sm λa ha=>?_);rcases mem_append.mp ha with z|z
     .rw[mE z];exact .inr hp
     .exact .inl z
variable{X:Cx}
theorem Aj{t t':TE}(h:PE X e t)(k:∀σ H Q,t' σ H Q->t σ H Q):PE X e t':=λpins s σ H Q I z=>h pins s σ H Q I (k σ H Q z)
theorem Ek{t t':TT}(h:PT X e t)(k:∀σ H Q,t' σ H Q->t σ H Q):PT X e t':=λpins s σ H Q I z=>h pins s σ H Q I (k σ H Q z)
theorem Ls{t t':TA}(h:PA X e t)(k:∀σ H Q,t' σ H Q->t σ H Q):PA X e t':=λpos pins s σ H Q I z=>h pos pins s σ H Q I (k σ H Q z)
variable{t':TS}
theorem CK{e:Stmt}{t:TS}(h:PS X e t)(k:∀D σ H,t' D σ H->t D σ H):PS X e t':=λpins s σ H D I z=>h pins s σ H D I (k D σ H z)
theorem Mo{e:List Stmt}{t:TS}(h:Lc X e t)(k:∀D σ H,t' D σ H->t D σ H):Lc X e t':=λpins s σ H D I z=>h pins s σ H D I (k D σ H z)
noncomputable def XR(W:Wd)(σ:L2.St)(H:Hp):T->V->Prop
 |.cst p,v=>Fm p=true/\Ay W H p v
 |.var i,v=>σ[i]? =some (some v)
 |.bor i,v=>σ[i]? =some (some v)
 |.fld i f,v=>∃a C dx fs,σ[i]? =some (some (.ref a))/\H a=some (.ins C dx fs)/\JT W.K C/\By W.K C f/\fs.lookup f=some v
 |_,_=>False
def tX(W:Wd)(t:T):TE:=λσ H Q=>∃v,XR W σ H t v/\Q v H
def V4(W:Wd):List T->TA
 |[]=>Dn
 |t::ts=>Bd (tX W t) (V4 W ts)
section
variable{cf:CF}{mt:MT}{ρ:Env}{os:List Addr}
theorem QP(h:Fm p=true):∃v,Ay W H p v:=by
 cases p with
 |Az=>exact⟨_,Ae.mpr rfl⟩
 |bl b=>exact⟨_,Al.mpr rfl⟩
 |int b=>exact⟨_,A4.mpr rfl⟩
 |str b=>exact⟨_,A6.mpr rfl⟩
 |tup b=>cases h
 |fn b=>cases h
theorem Hn(hR:A5 W H ρ σ os){i:Nat}{c:C}(e:Br ρ i f=some c):∃a C dx fs v b o',σ[i]? =some (some (.ref a))/\H a=some (.ins C dx fs)/\JT W.K C/\By W.K C f/\fs.lookup f=some v/\c= .b b/\Bt W H b v o':=by
 unfold Br at e;cases hg:A7 ρ i with
 |none=>rw[hg]at e;cases e
 |some d=>
   rw[hg]at e;cases d with
   |b x=>cases e
   |obj k fs'=>
     obtain⟨b,hb,rfl⟩:=oM e;obtain⟨u,o',q1,q2,_⟩:=hR.get hg;obtain⟨a',dx',vs,os',rfl,q3,q4,_,q5⟩:=q2;obtain⟨v',o'',g1,g2,_⟩:=q4.look hb;exact⟨a',W.C3 k,dx',vs,v',b,o'',q1,q3,q5.1,q5.2.1 _ (PySem.mem_of_lookup hb),g1,rfl,g2⟩
theorem Q5{t:T}(ht:t.calm=true)(hR:A5 W H ρ σ os):(∃h v,BA t (ev cf mt t) ρ= .ok h ρ/\XR W σ H t v/\EA W σ H ρ h v [])\/BA t (ev cf mt t) ρ= .stuck:=by
 have slot:∀i,(∃h v,(if(A7 ρ i).isSome then Res.ok (Hd.slot i) ρ else .stuck)= .ok h ρ/\σ[i]? =some (some v)/\EA W σ H ρ h v [])\/(if(A7 ρ i).isSome then Res.ok (Hd.slot i) ρ else .stuck)= .stuck:=by
  intro i;cases hg:A7 ρ i with
  |none=>exact .inr rfl
  |some c=>
    obtain⟨v,o,q1,_⟩:=hR.get hg;exact .inl ⟨.slot i,v,rfl,q1,q1,rfl⟩
 cases t with
 |cst p=>
   obtain⟨v,hv⟩:=QP (W:=W) (H:=H) (show Fm p=true from ht);exact .inl ⟨.AI (.p p),v,by unfold BA ev den;rfl,⟨ht,hv⟩,hv,rfl⟩
 |var i=>exact slot i
 |bor i=>exact slot i
 |fld i f=>
   show(∃h v,(if(Br ρ i f).isSome then Res.ok (Hd.fld i f) ρ else .stuck)= .ok h ρ/\_)\/(if(Br ρ i f).isSome then Res.ok (Hd.fld i f) ρ else .stuck)= .stuck;cases hg:Br ρ i f with
   |none=>exact .inr rfl
   |some c=>
     obtain⟨a,C,dx,fs,v,b,o',q1,q2,q3,q4,q5,_⟩:=Hn hR hg;exact .inl ⟨.fld i f,v,rfl,⟨a,C,dx,fs,q1,q2,q3,q4,q5⟩,rfl,a,C,dx,fs,q1,q2,q5⟩
 |_=>cases ht
theorem BS(t:T)(ts:List T)(ρ:Env):A9 cf mt (t::ts) ρ=(BA t (ev cf mt t) ρ).bind λh ρ=>match h with
 |.fld i f=>if ts.all T.calm then(A9 cf mt ts ρ).bind λhs ρ=>.ok (.fld i f::hs) ρ else .stuck
 |h=>(A9 cf mt ts ρ).bind λhs ρ=>.ok (h::hs) ρ:=by
 conv=>lhs;unfold A9
 all_goals rfl
theorem Co(ρ:Env):A9 cf mt [] ρ= .ok [] ρ:=by unfold A9;rfl
theorem FI:∀{ts:List T},ts.all T.calm=true->A5 W H ρ σ os->(∃hs,A9 cf mt ts ρ= .ok hs ρ/\∀Q:List V->Hp->Prop,(∀vs,Bb W σ H ρ hs vs []->Q vs H)->V4 W ts σ H Q)\/A9 cf mt ts ρ= .stuck
 |[],_,hR=>.inl ⟨[],Co ρ,λQ k=>k [] ⟨rfl,rfl⟩⟩
 | t ::ts,ht,hR=>by
   rw[all_cons,bA]at ht;rcases Q5 (cf:=cf) (mt:=mt) ht.1 hR with⟨h,v,e,x,r⟩|e
   .rcases FI ht.2 hR with⟨hs,e2,q2⟩|e2
    .refine .inl ⟨h::hs,?_,λQ k=>⟨v,x,q2 _ λvs r2=>k (v::vs) ⟨v,vs,[],[],rfl,r,r2,rfl⟩⟩⟩;rw[BS,e,Res.A3];cases h with
     |fld i f=>dsimp only;rw[iP ht.2,e2];rfl
     |slot i=>dsimp only;rw[e2];rfl
     |AI c=>dsimp only;rw[e2];rfl
    .refine .inr ?_;rw[BS,e,Res.A3];cases h with
     |fld i f=>dsimp only;rw[iP ht.2,e2];rfl
     |slot i=>dsimp only;rw[e2];rfl
     |AI c=>dsimp only;rw[e2];rfl
   .refine .inr ?_;rw[BS,e];rfl
noncomputable def GF(W:Wd)(EX:XP)(cf:CF)(mt:MT):List T->TA
 |[]=>Dn
 |t::ts=>if(t::ts).all T.calm=true then V4 W (t::ts)else Bd (tG W EX (EA W) (BA t (ev cf mt t))) (GF W EX cf mt ts)
theorem QL{r:Res C}{i:Nat}(e:(r.bind λc ρ=>Res.ok (Hd.AI c) ρ)=Res.ok (Hd.fld i f) ρ'):False:=by
 cases r<;>cases e
theorem Tw{i:Nat}(e:BA t (ev cf mt t) ρ= .ok (.fld i f) ρ'):t= .fld i f:=by
 cases t with
 |fld j g=>
   have e:(if(Br ρ j g).isSome then Res.ok (Hd.fld j g) ρ else .stuck)= .ok (.fld i f) ρ':=e;split at e
   .cases e;rfl
   .cases e
 |var j=>
   have e:(if(A7 ρ j).isSome then Res.ok (Hd.slot j) ρ else .stuck)= .ok (.fld i f) ρ':=e;split at e<;>cases e
 |bor j=>
   have e:(if(A7 ρ j).isSome then Res.ok (Hd.slot j) ρ else .stuck)= .ok (.fld i f) ρ':=e;split at e<;>cases e
 |_=>
   unfold BA at e;exact(QL e).elim
theorem Lv:∀{ts:List T} {σ:L2.St} {H:Hp} {K:List V->Hp->Prop},tG W EX (Bb W) (A9 cf mt ts) σ H K->GF W EX cf mt ts σ H K
 | [],σ,H,K,h=>by
   obtain⟨ρ,os,hR,hn,hA⟩:=h;rw[Co]at hA;exact hA [] H [] os ⟨rfl,rfl⟩ hR hn (AR.refl _ _)
 | t ::ts,σ,H,K,h=>by
   unfold GF;split
   .rename_i hc;obtain⟨ρ,os,hR,hn,hA⟩:=h;rcases FI (cf:=cf) (mt:=mt) hc hR with⟨hs,e,q⟩|e
    .rw[e]at hA;exact q K λvs r=>hA vs H [] os r hR hn (AR.refl _ _)
    .rw[e]at hA;exact hA.elim
   .rename_i hc
    by_cases hf:∃i f,t= .fld i f
    .obtain⟨i,f,rfl⟩:=hf;have hts:¬ts.all T.calm=true:=λz=>hc (by rw[all_cons,z];rfl)
     obtain⟨ρ,os,hR,hn,hA⟩:=h;rw[BS]at hA;have e:BA (.fld i f) (ev cf mt (.fld i f)) ρ=(if(Br ρ i f).isSome then Res.ok (Hd.fld i f) ρ else .stuck):=rfl;rw[e]at hA;cases hg:(Br ρ i f).isSome with
     |false=>rw[hg]at hA;exact False.elim hA
     |true=>
       rw[hg]at hA;have hA:C5 W EX (Bb W σ) H os σ (if ts.all T.calm then(A9 cf mt ts ρ).bind λhs ρ=>.ok (.fld i f::hs) ρ else .stuck) K:=hA;rw[iN hts]at hA;exact False.elim hA
    .have nf:∀ρ h ρ',BA t (ev cf mt t) ρ= .ok h ρ'->∀i f,h≠.fld i f:=λρ h ρ' e i f z=>hf ⟨i,f,by rw[z]at e;exact Tw e⟩
     have h2:tG W EX (Bb W) (λρ=>(BA t (ev cf mt t) ρ).bind λh ρ=>(A9 cf mt ts ρ).bind λhs ρ=>.ok (h::hs) ρ) σ H K:=by
      obtain⟨ρ,os,hR,hn,hA⟩:=h;refine⟨ρ,os,hR,hn,?_⟩;rw[BS]at hA;show C5 W EX (Bb W σ) H os σ ((BA t (ev cf mt t) ρ).bind λh ρ=>(A9 cf mt ts ρ).bind λhs ρ=>.ok (h::hs) ρ) K;cases e:BA t (ev cf mt t) ρ with
      |stuck=>rw[e]at hA;exact hA
      |err x p ρ'=>rw[e]at hA;exact hA
      |ok h ρ'=>
        rw[e,Res.A3]at hA;cases h with
        |fld i f=>exact absurd rfl (nf ρ _ ρ' e i f)
        |slot i=>exact hA
        |AI c=>exact hA
     have:=Q3 nf h2;exact GG this λv H1 z=>Lv z
end
end Iv
namespace Iv
open PySem L2 PyProof.Rows
def AF:Expr->Bool
 |.Starred _ _=>false
 |.Set _ _ _=>false
 |.Slice _ _ _ _=>false
 |_=>true
theorem Aa(h:AF e=true)(es:List Expr)(env:PySem.Env):starEach (e::es) env=(false,eval e env)::starEach es env:=by
 cases e<;>first|rfl|cases h
theorem FL(h:AF e=true)(op:CmpOp):behindInMarks op e=false:=by
 cases e<;>first|rfl|cases h
theorem Ds(h:Be e=false)(tg:Option Expr)(l:Nat)(env:PySem.Env):swapsWith e tg l env=pure false:=by
 cases e<;>first|rfl|cases h
theorem FH(h:AF e=true)(env:PySem.Env)(x:Value):foldedSetIterable e env x=pure x:=by
 cases e<;>first|rfl|cases h
variable{W:Wd}{EX:XP}{σ:L2.St}{H:Hp}
theorem LR{F:Env->Res C}{Q:VK}(h:tG W EX (EA W) (λρ=>(F ρ).bind λc ρ=>.ok (.AI c) ρ) σ H Q):tG W EX (rV W) F σ H Q:=by
 obtain⟨ρ,os,hR,hn,hA⟩:=h;refine⟨ρ,os,hR,hn,?_⟩;dsimp only at hA;cases e:F ρ with
 |stuck=>rw[e]at hA;exact hA
 |err x p ρ'=>rw[e]at hA;exact hA
 |ok c ρ'=>rw[e]at hA;exact hA
theorem Lh{F:Env->Res Hd}{Q:Bool->Hp->Prop}(h:tG W EX rB (λρ=>(F ρ).bind λh ρ=>Res.of ((h.cont ρ).bind CH) ρ) σ H Q):tG W EX (EA W) F σ H λx H1=>OQ W x H1 Q:=by
 obtain⟨ρ,os,hR,hn,hA⟩:=h;dsimp only at hA;refine⟨ρ,os,hR,hn,?_⟩;unfold C5;cases eF:F ρ with
 |stuck=>rw[eF]at hA;exact hA
 |err x p ρ'=>rw[eF]at hA;exact hA
 |ok a ρ1=>
   rw[eF,Res.A3]at hA;intro u H1 o1 os1 rA hR1 hn1 fr1;cases ec:a.cont ρ1 with
   |none=>rw[ec]at hA;exact False.elim hA
   |some c=>
     rw[ec]at hA;have hA:C5 W EX (rB σ) H os σ (Res.of (CH c) ρ1) Q:=hA;cases eb:CH c with
     |none=>rw[eb]at hA;exact False.elim hA
     |some b=>
       rw[eb]at hA;refine⟨c,b,Fd hR1 rA ec,eb,hA b H1 [] os1 ⟨rfl,rfl⟩ hR1 (nA hn1).2.1 (fr1.sub λa ha=>mR ha)⟩
variable{X:Cx}
theorem OT(hK:W.K=X.K){a:Expr}{ta:TE}(ha:PE X a ta)(he:∀whole,isTrue a X.env whole=(do let v <-whole;standAt a.pos;holding [v] (truthy v))):PT X a (λσ H Q=>ta σ H λx H1=>OQ W x H1 Q):=by
 intro pins s σ H Q I h;exact isTrue_plain (B4 (ha pins s σ H _ I h) λv s1 ⟨x,H1,I1,r1,q1⟩=>W3 hK pins s1 σ H1 x v Q I1 r1 q1) (he _)
structure Aq(X:Cx)(W:Wd)(cf:CF)(mt:MT)(e:Expr)(t:T):Prop where
 v:PE X e (tG W NX (rV W) (ev cf mt t))
 h:PE X e (tG W NX (EA W) (BA t (ev cf mt t)))
 b:PT X e (tG W NX rB (tv cf mt t))
 x:t.calm=true->PE X e (tX W t)
 st:AF e=true
 i:(AV t).1.ok=true->∀tg,PI X tg e (N2 W NX (AV t).1 (A9 cf mt (AV t).2))
 a:∀(i:Nat) (y:Str) (py spos:Pos),X.N.Nodup->X.N[i]? =some y->Loc X.env.scope y->(X.fn y=true\/X.env.scope.names.lookup y=some .local)->PS X (.Assign [.Name y py] e spos) (Oq (tG W NX (rV W) (ev cf mt t)) (Hl i))
 nc:Be e=true->∃elt gs sc pos,e= .ListComp elt gs sc pos
 rv:∀u,t= .prim (.iter .rev) [u]->∃l p pos,e= .Call (.Name "reversed" p) [l] [] pos/\Gl X "reversed"/\X.mg "reversed"=none/\PE X l (tG W NX (EA W) (BA u (ev cf mt u)))/\AF l=true
 zp:∀u w,t= .prim (.iter .zip) [u,w]->∃l m p pos,e= .Call (.Name "zip" p) [l,m] [] pos/\Gl X "zip"/\X.mg "zip"=none/\PA X [l,m] (tG W NX (Bb W) (A9 cf mt [u,w]))/\AF l=true/\AF m=true
inductive BB(X:Cx)(W:Wd)(cf:CF)(mt:MT):List Expr->List T->Prop where
 |nil:BB X W cf mt [] []
 |cons {e:Expr} {t:T} {es:List Expr} {ts:List T} (h:Aq X W cf mt e t) (r:BB X W cf mt es ts):BB X W cf mt (e::es) (t::ts)
section
variable{cf:CF}{mt:MT}
theorem KJ(t:T)(ρ:Env):A9 cf mt [t] ρ=(BA t (ev cf mt t) ρ).bind λh ρ=>.ok [h] ρ:=by
 rw[BS];cases BA t (ev cf mt t) ρ with
 |stuck=>rfl
 |err x p ρ'=>rfl
 |ok h ρ'=>cases h<;>(rw[Res.A3,Res.A3];dsimp only;rw[Co];rfl)
theorem DT(t:T):A9 cf mt [t]=λρ=>(BA t (ev cf mt t) ρ).bind λh ρ=>.ok [h] ρ:=funext λρ=>KJ t ρ
theorem Aq.of(hK:W.K=X.K)(hw:W.w=X.w){e:Expr}{t:T}(ht:∀v ρ,BA t v ρ=(v ρ).bind λc ρ=>.ok (.AI c) ρ)(hb:∀ρ,tv cf mt t ρ=((ev cf mt t ρ).bind λc ρ=>.ok (Hd.AI c) ρ).bind λh ρ=>Res.of ((h.cont ρ).bind CH) ρ)
 (hc:t.calm=false)(hi:AV t=(.op,[t]))(v:PE X e (tG W NX (rV W) (ev cf mt t)))(he:∀whole,isTrue e X.env whole=(do let v <-whole;standAt e.pos;holding [v] (truthy v)))(st:AF e=true)(nc:Be e=false:=by rfl):Aq X W cf mt e t:=by
 have h:PE X e (tG W NX (EA W) (BA t (ev cf mt t))):=Aj v λσ H Q z=>LR (by
  rw[show BA t (ev cf mt t)=λρ=>(ev cf mt t ρ).bind λc ρ=>.ok (.AI c) ρ from funext λρ=>ht _ ρ]at z
  exact z)
 refine⟨v,h,Ek (OT hK h he) λσ H Q z=>Lh ?_,λz=>(by rw[hc]at z;cases z),st,λ_ tg=>?_,λi y py spos hN hi' hx hf=>GW hN hi' hx v (Ds nc _ _ _) hf,λz=>(by rw[nc]at z;cases z),λu z=>?_,λu w z=>?_⟩
 .rw[show(λρ=>(BA t (ev cf mt t) ρ).bind λh ρ=>Res.of ((h.cont ρ).bind CH) ρ)=tv cf mt t from funext λρ=>by rw[hb,ht]];exact z
 .rw[hi];show PI X tg e (N2 W NX .op (A9 cf mt [t]));rw[DT];exact Mp hK hw h
 .rw[z]at hi;cases hi
 .rw[z]at hi;cases hi
theorem Aq.Xe(hK:W.K=X.K)(hw:W.w=X.w){t:T}(ht:∀v ρ,BA t v ρ=(v ρ).bind λc ρ=>.ok (.AI c) ρ)
 (hc:t.calm=false)(hi:AV t=(.op,[t]))(v:PE X e (tG W NX (rV W) (ev cf mt t)))(hb:PT X e (tG W NX rB (tv cf mt t)))(st:AF e=true)(nc:Be e=false:=by rfl):Aq X W cf mt e t:=by
 have h:PE X e (tG W NX (EA W) (BA t (ev cf mt t))):=Aj v λσ H Q z=>LR (by
  rw[show BA t (ev cf mt t)=λρ=>(ev cf mt t ρ).bind λc ρ=>.ok (.AI c) ρ from funext λρ=>ht _ ρ]at z
  exact z)
 refine⟨v,h,hb,λz=>(by rw[hc]at z;cases z),st,λ_ tg=>?_,λi y py spos hN hi' hx hf=>GW hN hi' hx v (Ds nc _ _ _) hf,λz=>(by rw[nc]at z;cases z),λu z=>?_,λu w z=>?_⟩
 .rw[hi];show PI X tg e (N2 W NX .op (A9 cf mt [t]));rw[DT];exact Mp hK hw h
 .rw[z]at hi;cases hi
 .rw[z]at hi;cases hi
variable{α:Type}{H:Hp}
theorem GH{β:Type}{rep:L2.St->Hp->Env->α->β->List Addr->Prop}{F:Env->Res α}(hF:∀ρ,F ρ= .stuck){σ:L2.St}{Q:β->Hp->Prop}(h:tG W NX rep F σ H Q):False:=by
 obtain⟨ρ,os,hR,hn,hA⟩:=h;rw[hF]at hA;exact hA
theorem CS{rep:L2.St->Hp->Env->α->V->List Addr->Prop}{F:Env->Res α}(hF:∀ρ,F ρ= .stuck):PE X e (tG W NX rep F):=λ_ _ _ _ _ _ h=>(GH hF h).elim
theorem Ke{rep:L2.St->Hp->Env->α->Bool->List Addr->Prop}{F:Env->Res α}(hF:∀ρ,F ρ= .stuck):PT X e (tG W NX rep F):=λ_ _ _ _ _ _ h=>(GH hF h).elim
theorem Aq.not(hK:W.K=X.K)(hw:W.w=X.w){t:T}(ht:∀v ρ,BA t v ρ=(v ρ).bind λc ρ=>.ok (.AI c) ρ)(hv:∀ρ,ev cf mt t ρ= .stuck)(hb:∀ρ,tv cf mt t ρ= .stuck)(hc:t.calm=false)(hi:AV t=(.op,[t]))(st:AF e=true)(nc:Be e=false:=by rfl):Aq X W cf mt e t:=
 Aq.Xe hK hw ht hc hi (CS hv) (Ke hb) st nc
def DG(t:TE):Prop:=∀σ H Q Q',t σ H Q->(∀v H',Q v H'->Q' v H')->t σ H Q'
theorem Gp{EX:XP}{rep:L2.St->Hp->Env->Hd->V->List Addr->Prop}{F:Env->Res Hd}:DG (tG W EX rep F):=λ_ _ _ _ h k=>GG h k
theorem Gn :DG (tX W t):=λ_ _ _ _ ⟨v,h1,h2⟩ k=>⟨v,h1,k _ _ h2⟩
noncomputable def eP(X:Cx):List Expr->List TE->Prop
 |[],[]=>True
 |e::es,t::ts=>PE X e t/\AF e=true/\eP X es ts/\DG t
 |_,_=>False
def chain:List TE->TA
 |[]=>Dn
 |t::ts=>Bd t (chain ts)
theorem H8:∀{es:List Expr} {ts:List TE},eP X es ts->PA X es (chain ts)
 |[],[],_=>El
 |e::es,t::ts,⟨h1,h2,h3,_⟩=>Ce h1 (H8 h3) (Aa h2 es X.env)
 |[],_::_,h=>h.elim
 |_::_,[],h=>h.elim
theorem Et:∀{es:List Expr} {ts:List T},BB X W cf mt es ts->ts.all T.calm=true->∃tes,eP X es tes/\V4 W ts=chain tes
 |_,_,.nil,_=>⟨[],True.intro,rfl⟩
 | _,_,.cons (t:=t) (ts:=ts) h r,hc=>by
   rw[all_cons,bA]at hc;obtain⟨tes,h1,h2⟩:=Et r hc.2;exact⟨tX W t::tes,⟨h.x hc.1,h.st,h1,Gn⟩,by show Bd (tX W t) (V4 W ts)=Bd (tX W t) (chain tes);rw[h2]⟩
theorem CT:∀{es:List Expr} {ts:List T},BB X W cf mt es ts->∃tes,eP X es tes/\GF W NX cf mt ts=chain tes
 |_,_,.nil=>⟨[],True.intro,rfl⟩
 | _,_,.cons (t:=t) (ts:=ts) h r=>by
   by_cases hc:(t::ts).all T.calm=true
   .obtain⟨tes,h1,h2⟩:=Et (.cons h r) hc;refine⟨tes,h1,?_⟩;unfold GF;rw[iP hc];exact h2
   .obtain⟨tes,h1,h2⟩:=CT r;refine⟨_::tes,⟨h.h,h.st,h1,Gp⟩,?_⟩;unfold GF;rw[iN hc,h2];rfl
variable{ts:List T}
theorem X5{es:List Expr}(h:BB X W cf mt es ts):PA X es (GF W NX cf mt ts):=by
 obtain⟨tes,h1,h2⟩:=CT h;rw[h2];exact H8 h1
theorem Dv{es:List Expr}(h:BB X W cf mt es ts):PA X es (tG W NX (Bb W) (A9 cf mt ts)):=Ls (X5 h) λσ H Q z=>Lv z
theorem BB.plain:∀{es:List Expr} {ts:List T},BB X W cf mt es ts->∀e∈es,AF e=true
 |_,_,.nil,e,he=>by cases he
 | _,_,.cons h r,e,he=>by
   rcases mK he with z|z
   .rw[z];exact h.st
   .exact r.plain e z
theorem GK:∀{es:List Expr},(∀e∈es,AF e=true)->∀env,starEach es env=es.map λe=>(false,eval e env)
 |[],_,env=>rfl
 |e::es,h,env=>by rw[Aa (h e mS),GK (λe he=>h e (mC he)) env];rfl
theorem AY{o:O}(Ak:o.ok=true){σ:L2.St}{Q:VK}(h:tG W NX (rV W) (ev cf mt (.prim o ts)) σ H Q):GF W NX cf mt ts σ H λvs H1=>AL W (Av o) vs H1 Q:=by
 refine Lv (Vj ?_)
 rw[show ev cf mt (.prim o ts)=λρ=>(A9 cf mt ts ρ).bind λhs ρ=>Res.of ((Ai ρ hs).bind (Av o)) ρ from funext λρ=>by
   show(den cf mt (.prim o ts)).v ρ=_
   conv=>lhs;unfold den
   show(if o.ok=true then _ else _)=_
   rw[iP Ak]]at h
 exact h
theorem GX{o:O}(Ak:o.ok=false)(ρ:Env):ev cf mt (.prim o ts) ρ= .stuck:=by
 show(den cf mt (.prim o ts)).v ρ=_
 conv=>lhs;unfold den
 show(if o.ok=true then _ else _)=_;rw[Ak];rfl
theorem AX(ρ:Env):tv cf mt (.prim o ts) ρ=((ev cf mt (.prim o ts) ρ).bind λc ρ=>.ok (Hd.AI c) ρ).bind λh ρ=>Res.of ((h.cont ρ).bind CH) ρ:=by
 show(den cf mt (.prim o ts)).b ρ=(((den cf mt (.prim o ts)).v ρ).bind _).bind _;unfold den;rfl
theorem Ck{g:List C->Option C}{g2:C->C->Option C}(hg:∀a b,g [a,b]=g2 a b){x y:V}{Q:VK}(h:AL W g [x,y] H Q):BX W g2 x y H Q:=by
 obtain⟨cs,c,h1,h2,h3⟩:=h;have:=h1.length;obtain⟨a,b,rfl⟩:=T8 this.symm;obtain⟨r1,r2⟩:=IV h1;exact⟨a,b,c,r1,r2,by rw[<-hg];exact h2,h3⟩
theorem Cm{g:List C->Option C}{g1:C->Option C}(hg:∀a,g [a]=g1 a){x:V}{Q:VK}(h:AL W g [x] H Q):ak W g1 x H Q:=by
 obtain⟨cs,c,h1,h2,h3⟩:=h;have:=h1.length;obtain⟨a,rfl⟩:=T9 this.symm;obtain⟨v,e,r1⟩:=BV h1;cases e;exact⟨a,c,r1,by rw[<-hg];exact h2,h3⟩
theorem EE(h1:Aq X W cf mt a x)(h2:Aq X W cf mt b y):∃ta tb,PE X a ta/\PE X b tb/\GF W NX cf mt [x,y]=Bd ta (Bd tb Dn)/\DG ta/\DG tb:=by
 obtain⟨tes,h3,h4⟩:=CT (.cons h1 (.cons h2 .nil))
 match tes,h3 with
 |[ta,tb],⟨q1,_,⟨q2,_,_,m2⟩,m1⟩=>exact⟨ta,tb,q1,q2,h4,m1,m2⟩
theorem H9(h1:Aq X W cf mt a x):∃ta,PE X a ta/\GF W NX cf mt [x]=Bd ta Dn/\DG ta:=by
 obtain⟨tes,h3,h4⟩:=CT (.cons h1 .nil)
 match tes,h3 with
 |[ta],⟨q1,_,_,m⟩=>exact⟨ta,q1,h4,m⟩
theorem N8(h1:Aq X W cf mt a x)(h2:Aq X W cf mt b y)(h3:Aq X W cf mt c z):∃ta tb tc,PE X a ta/\PE X b tb/\PE X c tc/\GF W NX cf mt [x,y,z]=Bd ta (Bd tb (Bd tc Dn))/\DG ta/\DG tb/\DG tc:=by
 obtain⟨tes,h3,h4⟩:=CT (.cons h1 (.cons h2 (.cons h3 .nil)))
 match tes,h3 with
 |[ta,tb,tc],⟨q1,_,⟨q2,_,⟨q3,_,_,m3⟩,m2⟩,m1⟩=>exact⟨ta,tb,tc,q1,q2,q3,h4,m1,m2,m3⟩
variable{r':R2}
theorem C4.imp{f:Value->Value->Sem Value}{r:R2}(h:C4 X f r)(k:∀x y H Q,r' x y H Q->r x y H Q):C4 X f r':=λpins s σ H x y v u Q I rx ry z=>h pins s σ H x y v u Q I rx ry (k _ _ _ _ z)
theorem VQ.imp{f:Value->Sem Value}{r r':V->Hp->VK->Prop}(h:VQ X f r)(k:∀x H Q,r' x H Q->r x H Q):VQ X f r':=λpins s σ H x v Q I rx z=>h pins s σ H x v Q I rx (k _ _ _ z)
theorem B5.imp{r r':List V->Hp->VK->Prop}(h:B5 X f r)(k:∀x H Q,r' x H Q->r x H Q):B5 X f r':=λpins s σ H xs us Q I r z=>h pins s σ H xs us Q I r (k _ _ _ z)
theorem V2.imp{r:R2}(h:V2 X r)(k:∀x y H Q,r' x y H Q->r x y H Q):V2 X r':=λvalue slice pins s σ H x y v u Q I rx ry z hs=>h value slice pins s σ H x y v u Q I rx ry (k _ _ _ _ z) hs
theorem AE(v:Env->Res C)(ρ:Env):BA (.prim o ts) v ρ=(v ρ).bind λc ρ=>.ok (.AI c) ρ:=rfl
theorem DJ(hK:W.K=X.K)(hw:W.w=X.w){op:Operator}{o:O}(Ak:o.ok=true){g:C->C->Option C}(ho:C4 X (binaryOp op) (BX W g))(hg:∀a b,Av o [a,b]=g a b){a b:Expr}{x y:T}{pos:Pos}(hi:AV (.prim o [x,y])=(.op,[.prim o [x,y]]))
 (h1:Aq X W cf mt a x)(h2:Aq X W cf mt b y):Aq X W cf mt (.BinOp a op b pos) (.prim o [x,y]):=by
 obtain⟨ta,tb,q1,q2,q3,_,_⟩:=EE h1 h2;refine Aq.of hK hw AE AX rfl hi (Aj (aI (C4.imp ho λx y H Q z=>Ck hg z) q1 q2) λσ H Q z=>?_) (λ_=>rfl) rfl;have z:=AY Ak z;rw[q3]at z;exact z
theorem RS(hK:W.K=X.K)(hw:W.w=X.w){pos:Pos}(h1:Aq X W cf mt a x):Aq X W cf mt (.UnaryOp .USub a pos) (.prim .neg [x]):=by
 obtain⟨ta,q1,q3,_⟩:=H9 h1;refine Aq.of hK hw AE AX rfl rfl (Aj (aG (VQ.imp Zx λx H Q z=>Cm (W:=W) (g:=Av .neg) (g1:=F7 Xk) (λ_=>rfl) z) q1) λσ H Q z=>?_) (λ_=>rfl) rfl;have z:=AY (o:=.neg) rfl z;rw[q3]at z;exact z
theorem HZ{o:O}(Ak:o.ok=true)(hbl:∀cs c,Av o cs=some c->∃b,c= .p (.bl b)){σ:L2.St}{Q:Bool->Hp->Prop}(h:tG W NX rB (tv cf mt (.prim o ts)) σ H Q):
 GF W NX cf mt ts σ H λvs H1=>AL W (Av o) vs H1 λx H2=>∃k,x= .bl k/\Q k H2:=by
 refine AY Ak ?_;obtain⟨ρ,os,hR,hn,hA⟩:=h;refine⟨ρ,os,hR,hn,?_⟩;rw[AX]at hA
 have hv :∀c ρ',ev cf mt (.prim o ts) ρ= .ok c ρ'->∃b,c= .p (.bl b):=by
  intro c ρ' e;have e:(den cf mt (.prim o ts)).v ρ= .ok c ρ':=e;unfold den at e;have e:(if o.ok=true then(A9 cf mt ts ρ).bind λhs ρ=>Res.of ((Ai ρ hs).bind (Av o)) ρ else .stuck)= .ok c ρ':=e;rw[iP Ak]at e;cases e1:A9 cf mt ts ρ with
  |stuck=>rw[e1]at e;cases e
  |err x p ρ2=>rw[e1]at e;cases e
  |ok hs ρ2=>
    rw[e1,Res.A3]at e;cases e2:Ai ρ2 hs with
    |none=>rw[e2]at e;cases e
    |some cs=>
      rw[e2]at e;have e:Res.of (Av o cs) ρ2= .ok c ρ':=e;cases e3:Av o cs with
      |none=>rw[e3]at e;cases e
      |some d=>
        rw[e3]at e;cases e;exact hbl cs _ e3
 show C5 W NX (rV W σ) H os σ (ev cf mt (.prim o ts) ρ) _;cases e:ev cf mt (.prim o ts) ρ with
 |stuck=>rw[e]at hA;exact hA
 |err x p ρ'=>rw[e]at hA;exact hA
 |ok c ρ'=>
   rw[e]at hA;obtain⟨b,rfl⟩:=hv c ρ' e;intro v H' o1 os' r1 r2 r3 r4;have r1:B3 W H' (.p (.bl b)) v o1:=r1;obtain⟨r5,rfl⟩:=r1;refine⟨b,Al.mp r5,?_⟩;exact hA b H' [] os' ⟨rfl,rfl⟩ r2 r3 r4
theorem RX(hK:W.K=X.K)(hw:W.w=X.w){op:CmpOp}{o:O}(Ak:o.ok=true)(ho:C4 X (compareOp op) (BX W (Cw o)))(hg:∀a b,Av o [a,b]=Cw o a b)(hbl:∀cs c,Av o cs=some c->∃b,c= .p (.bl b)){a b:Expr}{x y:T}{pos:Pos}
 (hi:AV (.prim o [x,y])=(.op,[.prim o [x,y]]))(h1:Aq X W cf mt a x)(h2:Aq X W cf mt b y):Aq X W cf mt (.Compare a [op] [b] pos) (.prim o [x,y]):=by
 obtain⟨ta,tb,q1,q2,q3,_,_⟩:=EE h1 h2;have ho':=C4.imp ho λx y H Q z=>Ck hg z
 refine Aq.Xe hK hw AE rfl hi (Aj (SF ho' q1 q2 (FL h2.st op)) λσ H Q z=>?_) (Ek (Sl ho' q1 q2 (FL h2.st op)) λσ H Q z=>?_) rfl
 .have z:=AY Ak z;rw[q3]at z;exact z
 .have z:=HZ Ak hbl z;rw[q3]at z;exact z
end
variable{α β γ δ:Type}
theorem Bq{rep:L2.St->Hp->Env->α->β->List Addr->Prop}{rep':L2.St->Hp->Env->γ->δ->List Addr->Prop}{F:Env->Res α}{G:α->Env->Res γ}{Q:δ->Hp->Prop}{K:β->Hp->Prop}
 (h:tG W EX rep' (λρ=>(F ρ).bind G) σ H Q)(k:∀a ρ1 b H1 o1 os1,rep σ H1 ρ1 a b o1->A5 W H1 ρ1 σ os1->(o1++os1).Nodup->C5 W EX (rep' σ) H1 (o1++os1) σ (G a ρ1) Q->AK H H1->(∃ρ0,F ρ0= .ok a ρ1)->K b H1):tG W EX rep F σ H K:=by
 obtain⟨ρ,os,hR,hn,hA⟩:=h;dsimp only at hA;refine⟨ρ,os,hR,hn,?_⟩;unfold C5;cases eF:F ρ with
 |stuck=>rw[eF]at hA;exact hA
 |err x p ρ'=>rw[eF]at hA;exact hA
 |ok a ρ1=>
   rw[eF,Res.A3]at hA;exact λb H1 o1 os1 h1 h2 h3 h4=>k a ρ1 b H1 o1 os1 h1 h2 h3 (C5.shift hA h4) (h4.but.keep hR.own) ⟨ρ,eF⟩
theorem Dq.same{H H':Hp}(s:BI H H')(h:Dq W H c v):Dq W H' c v:=by
 have k:=AK.of s;cases c with
 |obj c fs=>obtain⟨a,dx,vs,e,h1⟩:=h;exact⟨a,dx,vs,e,s _ _ h1⟩
 |b x=>
   cases x with
   |p x=>exact Ay.mono k h
   |ro ps=>obtain⟨a,vs,e,h1,h2⟩:=h;exact⟨a,vs,e,h1.mono k,h2.mono k⟩
   |lst ps=>obtain⟨a,vs,e,h1,h2⟩:=h;exact⟨a,vs,e,s _ _ h1,h2.mono k⟩
   |Cv kvs=>
     obtain⟨a,e,h1⟩:=h;obtain⟨es,h2,_⟩:=h1.ex;exact⟨a,e,h1.mono k (by rw[h2];exact s _ _ h2)⟩
section
variable{cf:CF}{mt:MT}
theorem NS(hp:Fm p=true)(h1:Aq X W cf mt a x)(h2:Aq X W cf mt b y):∃ta tb,PE X a ta/\PE X b tb/\GF W NX cf mt [x,y,.cst p]=Bd ta (Bd tb (Bd (tX W (.cst p)) Dn))/\DG ta/\DG tb:=by
 have hq:(T.cst p).calm=true:=hp
 have e1:GF W NX cf mt [.cst p]=Bd (tX W (.cst p)) Dn:=by
  unfold GF;rw[iP (by simp[hq])];rfl
 by_cases c2:y.calm=true
 .have e2:GF W NX cf mt [y,.cst p]=Bd (tX W y) (Bd (tX W (.cst p)) Dn):=by
   unfold GF;rw[iP (by simp[hq,c2])];rfl
  by_cases c1:x.calm=true
  .refine⟨tX W x,tX W y,h1.x c1,h2.x c2,?_,Gn,Gn⟩;unfold GF;rw[iP (by simp[hq,c2,c1])];rfl
  .refine⟨_,tX W y,h1.h,h2.x c2,?_,Gp,Gn⟩;unfold GF;rw[iN (by simp[c1]),e2]
 .have e2:GF W NX cf mt [y,.cst p]=Bd (tG W NX (EA W) (BA y (ev cf mt y))) (Bd (tX W (.cst p)) Dn):=by
   conv=>lhs;unfold GF
   rw[iN (by simp[c2]),e1]
  refine⟨_,_,h1.h,h2.h,?_,Gp,Gp⟩
  conv=>lhs;unfold GF
  rw[iN (by simp[c2]),e2]
variable{H:Hp}
theorem KP{σ:L2.St}{x y:V}{Q:VK}(h:tX W (.cst p) σ H λw H3=>AL W (Av (.chain o1 o2)) [x,y,w] H3 Q):
 BX W (Cw o1) x y H λz H3=>∃k,z= .bl k/\(if k=true then tX W (.cst p) σ H3 λw H4=>BX W (Cw o2) y w H4 Q else Q (.bl false) H3):=by
 obtain⟨w,hw,cs,c,r1,r2,q⟩:=h;obtain⟨a,b,d,rfl⟩:=T7 r1.length.symm;obtain⟨ra,rb,rd⟩:=Fu r1;have r2:Cq o1 o2 a b d=some c:=r2;unfold Cq at r2;obtain⟨k,e1,e2⟩:=oB r2;refine⟨a,b,.p (.bl k),ra,rb,by unfold Cw;rw[e1];rfl,λv H' o s r ho hf=>⟨k,?_,?_⟩⟩
 .exact Al.mp r.1
 .cases k with
  |true=>
    rw[iP rfl]at e2 ⊢;refine⟨w,⟨hw.1,Ay.mono (AK.of s) hw.2⟩,b,d,c,rb.same s,rd.same s,by unfold Cw;exact e2,λv' H2 o' s' r' ho' hf'=>?_⟩;exact q v' H2 o' (s.trans s') r' ho' (λa ha=>BI.free s (hf' a ha))
  |false=>
    rw[iN Bool.false_ne_true]at e2 ⊢;cases e2;exact q (.bl false) H' [] s ⟨Al.mpr rfl,rfl⟩ .nil (λa ha=>by cases ha)
theorem MA{b:Expr}(h:AF c=true)(o1 o2:CmpOp):lastMarks [o1,o2] [b,c]=false:=FL h o2
theorem Nb(hK:W.K=X.K)(hw:W.w=X.w){op1 op2:CmpOp}(Ak:(O.chain o1 o2).ok=true)(r1:C4 X (compareOp op1) (BX W (Cw o1)))(r2:C4 X (compareOp op2) (BX W (Cw o2)))(hp:Fm p=true){pos:Pos}
 (h1:Aq X W cf mt a x)(h2:Aq X W cf mt b y)(h3:Aq X W cf mt c (.cst p)):Aq X W cf mt (.Compare a [op1,op2] [b,c] pos) (.prim (.chain o1 o2) [x,y,.cst p]):=by
 obtain⟨ta,tb,q1,q2,q3,m1,m2⟩:=NS hp h1 h2
 have hbl:∀cs c,Av (.chain o1 o2) cs=some c->∃b,c= .p (.bl b):=by
  intro cs c e
  obtain⟨a,b,d,e⟩:∃a b d,Cq o1 o2 a b d=some c:=by
   rcases cs with _|⟨a,_|⟨b,_|⟨d,_|⟨f,r⟩⟩⟩⟩
   .exact absurd (show(none:Option C)=some c from e) nofun
   .exact absurd (show(none:Option C)=some c from e) nofun
   .exact absurd (show(none:Option C)=some c from e) nofun
   .exact⟨a,b,d,e⟩
   .exact absurd (show(none:Option C)=some c from e) nofun
  unfold Cq at e;obtain⟨k,e1,e2⟩:=oB e;cases k with
  |true=>
    rw[iP rfl]at e2;obtain⟨k2,_,e3⟩:=oM e2;exact⟨k2,e3.symm⟩
  |false=>
    rw[iN Bool.false_ne_true]at e2;cases e2;exact⟨false,rfl⟩
 have h3x:=h3.x hp;refine Aq.Xe hK hw AE rfl rfl (Aj (Pb r1 r2 q1 q2 h3x (MA h3.st op1 op2)) λσ H Q z=>?_) (Ek (OU r1 r2 q1 q2 h3x (MA h3.st op1 op2)) λσ H Q z=>?_) rfl
 .have z:=AY Ak z;rw[q3]at z;exact m1 _ _ _ _ z λu H1 z=>m2 _ _ _ _ z λw H2 z=>KP z
 .have z:=HZ Ak hbl z;rw[q3]at z;exact m1 _ _ _ _ z λu H1 z=>m2 _ _ _ _ z λw H2 z=>KP z
theorem RV(hK:W.K=X.K)(hw:W.w=X.w)(hu:X.A.units + 200 < cLine){pos:Pos}(hs:JN b)(h1:Aq X W cf mt a x)(h2:Aq X W cf mt b y):Aq X W cf mt (.Subscript a b pos) (.prim .idx [x,y]):=by
 obtain⟨ta,tb,q1,q2,q3,_,_⟩:=EE h1 h2;refine Aq.of hK hw AE AX rfl rfl (Aj (aJ (V2.imp (bz hK (g:=CL)) λx y H Q z=>Ck (W:=W) (g:=Av .idx) (g2:=CL) (λ_ _=>rfl) z) q1 q2 hs) λσ H Q z=>?_) (λ_=>rfl) rfl;have z:=AY (o:=.idx) rfl z;rw[q3]at z;exact z
abbrev TV:=L2.St->Hp->(Option V->Hp->Prop)->Prop
def ig:Option V->Value->Prop
 |none,u=>u= .none
 |some v,u=>RelV v u
def fR:Option V->Option Int->Prop
 |none,none=>True
 |some v,some i=>v= .int i
 |_,_=>False
def PV(X:Cx)(e:Option Expr)(t:TV):Prop:=∀(pins:List (Addr×Obj)) (s:Shared) (σ:L2.St) (H:Hp) (Q:Option V->Hp->Prop),Inv X pins σ H s->t σ H Q->
    wpAny (model X.prog X.w) X.A (evalPart e X.env) (λu s'=>∃o H',Inv X pins σ H' s'/\ig o u/\Q o H') X.xe s
def VZ:TV:=λ_ H Q=>Q none H
def VY(t:TE):TV:=λσ H Q=>t σ H λv H1=>Q (some v) H1
theorem Gk:PV X none VZ:=by
 intro pins s σ H Q I h;rw[evalPart_none];exact wP ⟨none,H,I,rfl,h⟩
variable{te:TE}
theorem Gj(h:PE X e te):PV X (some e) (VY te):=by
 intro pins s σ H Q I hw;rw[evalPart_some];exact B4 (h pins s σ H _ I hw) λu s1 ⟨x,H1,I1,r1,q1⟩=>⟨some x,H1,I1,r1,q1⟩
theorem Vl{o:Option V}{i:Option Int}(h:fR o i)(r:ig o u):IsPart u i:=by
 cases o with
 |none=>
   cases i with
   |none=>rw[show u= .none from r];exact .none
   |some i=>exact h.elim
 |some v=>
   cases i with
   |none=>exact h.elim
   |some i=>
     have h:v= .int i:=h;subst h;obtain⟨t,rfl⟩:=r;exact .int i t
theorem IZ{r:V->Option Int->Option Int->Hp->VK->Prop}{lo hi:Option Expr}{tl th:TV}{pos:Pos}(hr:Zn X r)(he:PE X e te)(hl:PV X lo tl)(hu:PV X hi th):
 PE X (.Subscript e (.Slice lo hi none p2) pos) (λσ H Q=>te σ H λx H1=>tl σ H1 λl H2=>th σ H2 λu H3=>∃i j,fR l i/\fR u j/\r x i j H3 Q):=by
 intro pins s σ H Q I h;refine Subscript_ (B4 (he pins s σ H _ I h) λv s1 ⟨x,H1,I1,r1,q1⟩=>?_);refine wpAny_Slice (B4 (hl pins s1 σ H1 _ I1 q1) λvl s2 ⟨l,H2,I2,pl,q2⟩=>B4 (hu pins s2 σ H2 _ I2 q2) λvu s3 ⟨u,H3,I3,pu,i,j,g1,g2,q3⟩=>?_);rw[evalPart_none];refine wP ?_;have I4:Inv X pins σ H3 {s3 with heap:=s3.heap.push {cls:=.type "slice",data:=.fields #[vl,vu,.none]}}:=I3.kept (t':=s3.toks) λb ob q=>gP q
 obtain⟨T,id,hT,ht,hg⟩:=hr pins {s3 with heap:=s3.heap.push {cls:=.type "slice",data:=.fields #[vl,vu,.none]}} σ H3 x v vl vu i j s3.heap.objs.size Q I4 r1 (Heap.IsSliceOf.new ..) (Vl g1 pl) (Vl g2 pu) q3;show wpAny (model X.prog X.w) X.A (subscriptTail e (.Slice lo hi none p2) v (.ref s3.heap.objs.size)) (EP X pins σ Q) X.xe {s3 with heap:=s3.heap.push {cls:=.type "slice",data:=.fields #[vl,vu,.none]}};exact tail_any (ops:=[.ref s3.heap.objs.size,v]) ht hT hg (by with_unfolding_all rfl)
theorem Gm{i:Int}(h:E6 d=some i)(r:Dq W H d u):u= .int i:=by
 unfold E6 at h;split at h
 .cases h;exact Ax r
 .cases h
theorem OE(hK:W.K=X.K)(hw:W.w=X.w){pos:Pos}(h1:Aq X W cf mt a x):Aq X W cf mt (.Subscript a (.Slice none none none p2) pos) (.prim (.D4 false false) [x]):=by
 obtain⟨ta,q1,q3,m1⟩:=H9 h1;refine Aq.of hK hw AE AX rfl rfl (Aj (IZ (Ml hK) q1 Gk Gk) λσ H Q z=>?_) (λ_=>rfl) rfl;have z:=AY (o:=.D4 false false) rfl z;rw[q3]at z;refine m1 _ _ _ _ z λu H1 z=>?_
 obtain⟨a,c,g1,g2,g3⟩:=Cm (g:=Av (.D4 false false)) (g1:=λa=>D3 a none none) (λ_=>rfl) z;exact⟨none,none,True.intro,True.intro,a,c,g1,g2,g3⟩
theorem OD(hK:W.K=X.K)(hw:W.w=X.w){pos:Pos}(h1:Aq X W cf mt a x)(h2:Aq X W cf mt b y):Aq X W cf mt (.Subscript a (.Slice (some b) none none p2) pos) (.prim (.D4 true false) [x,y]):=by
 obtain⟨ta,tb,q1,q2,q3,m1,m2⟩:=EE h1 h2;refine Aq.of hK hw AE AX rfl rfl (Aj (IZ (Ml hK) q1 (Gj q2) Gk) λσ H Q z=>?_) (λ_=>rfl) rfl;have z:=AY (o:=.D4 true false) rfl z;rw[q3]at z;refine m1 _ _ _ _ z λu H1 z=>m2 _ _ _ _ z λw H2 z=>?_
 obtain⟨a,b,c,g1,g2,g3,g4⟩:=Ck (g:=Av (.D4 true false)) (g2:=λa i=>(E6 i).bind λi=>D3 a (some i) none) (λ_ _=>rfl) z;obtain⟨i,e1,e2⟩:=oB g3;exact⟨some i,none,Gm e1 g2,True.intro,a,c,g1,e2,g4⟩
theorem OC(hK:W.K=X.K)(hw:W.w=X.w){pos:Pos}(h1:Aq X W cf mt a x)(h2:Aq X W cf mt b y):Aq X W cf mt (.Subscript a (.Slice none (some b) none p2) pos) (.prim (.D4 false true) [x,y]):=by
 obtain⟨ta,tb,q1,q2,q3,m1,m2⟩:=EE h1 h2;refine Aq.of hK hw AE AX rfl rfl (Aj (IZ (Ml hK) q1 Gk (Gj q2)) λσ H Q z=>?_) (λ_=>rfl) rfl;have z:=AY (o:=.D4 false true) rfl z;rw[q3]at z;refine m1 _ _ _ _ z λu H1 z=>m2 _ _ _ _ z λw H2 z=>?_
 obtain⟨a,b,c,g1,g2,g3,g4⟩:=Ck (g:=Av (.D4 false true)) (g2:=λa i=>(E6 i).bind λi=>D3 a none (some i)) (λ_ _=>rfl) z;obtain⟨i,e1,e2⟩:=oB g3;exact⟨none,some i,True.intro,Gm e1 g2,a,c,g1,e2,g4⟩
theorem OB(hK:W.K=X.K)(hw:W.w=X.w){pos:Pos}(h1:Aq X W cf mt a x)(h2:Aq X W cf mt b y)(h3:Aq X W cf mt d z):Aq X W cf mt (.Subscript a (.Slice (some b) (some d) none p2) pos) (.prim (.D4 true true) [x,y,z]):=by
 obtain⟨ta,tb,tc,q1,q2,q3,q4,m1,m2,m3⟩:=N8 h1 h2 h3;refine Aq.of hK hw AE AX rfl rfl (Aj (IZ (Ml hK) q1 (Gj q2) (Gj q3)) λσ H Q z=>?_) (λ_=>rfl) rfl;have z:=AY (o:=.D4 true true) rfl z;rw[q4]at z;refine m1 _ _ _ _ z λu H1 z=>m2 _ _ _ _ z λw H2 z=>m3 _ _ _ _ z λt H3 z=>?_
 obtain⟨cs,c,g1,g2,g4⟩:=z;obtain⟨a,b,d,rfl⟩:=T7 g1.length.symm;obtain⟨ra,rb,rd⟩:=Fu g1;have g2:((E6 b).bind λi=>(E6 d).bind λj=>D3 a (some i) (some j))=some c:=g2;obtain⟨i,e1,e2⟩:=oB g2;obtain⟨j,e3,e4⟩:=oB e2;exact⟨some i,some j,Gm e1 rb,Gm e3 rd,a,c,ra,e4,g4⟩
end
section
variable{cf:CF}{mt:MT}
noncomputable def Cr(c:C)(r:Env->Res C)(ρ:Env):Res C:=match c with
    |.p (.bl true)=>r ρ
    |.p (.bl false)=>.ok (.p (.bl false)) ρ
    |_=>.stuck
noncomputable def aN(c:C)(r:Env->Res C)(ρ:Env):Res C:=match c with
    |.p (.bl true)=>.ok (.p (.bl true)) ρ
    |.p (.bl false)=>r ρ
    |_=>.stuck
theorem XX(a b:T):ev cf mt (.and a b)=λρ=>(ev cf mt a ρ).bind λc ρ=>Cr c (ev cf mt b) ρ:=funext λρ=>by
 show(den cf mt (.and a b)).v ρ=_
 conv=>lhs;unfold den
 all_goals rfl
theorem VX(a b:T):tv cf mt (.and a b)=λρ=>(tv cf mt a ρ).bind λc ρ=>if c then tv cf mt b ρ else .ok false ρ:=funext λρ=>by
 show(den cf mt (.and a b)).b ρ=_
 conv=>lhs;unfold den
theorem cu(a b:T):ev cf mt (.or a b)=λρ=>(ev cf mt a ρ).bind λc ρ=>aN c (ev cf mt b) ρ:=funext λρ=>by
 show(den cf mt (.or a b)).v ρ=_
 conv=>lhs;unfold den
 all_goals rfl
theorem Zz(a b:T):tv cf mt (.or a b)=λρ=>(tv cf mt a ρ).bind λc ρ=>if c then .ok true ρ else tv cf mt b ρ:=funext λρ=>by
 show(den cf mt (.or a b)).b ρ=_
 conv=>lhs;unfold den
variable{H:Hp}
theorem Zk{c:C}{b:Bool}(r:B3 W H (.p (.bl b)) v o):v= .bl b/\o=[]:=⟨Al.mp r.1,r.2⟩
variable{os:List Addr}
theorem M4{σ:L2.St}{b:Bool}{Q:VK}(hR:A5 W H ρ σ os)(hn:os.Nodup)(h:C5 W NX (rV W σ) H os σ (.ok (.p (.bl b)) ρ) Q):Q (.bl b) H:=
 h (.bl b) H [] os ⟨Al.mpr rfl,rfl⟩ hR hn (AR.refl _ _)
theorem cX{σ:L2.St}{Q:VK}(h:tG W NX (rV W) (ev cf mt (.and a b)) σ H Q):Vb (tG W NX (rV W) (ev cf mt a)) (tG W NX (rV W) (ev cf mt b)) σ H Q:=by
 rw[XX]at h;refine Bq h λc ρ1 v H1 o1 os1 r1 r2 r3 r4 kp ef=>?_
 unfold Cr at r4;split at r4
 .obtain⟨rfl,rfl⟩:=Zk (c:=.p (.bl true)) r1;exact⟨true,rfl,Tp ⟨ρ1,os1,r2,r3,r4⟩⟩
 .obtain⟨rfl,rfl⟩:=Zk (c:=.p (.bl false)) r1;exact⟨false,rfl,Tq (M4 r2 r3 r4)⟩
 .exact False.elim r4
theorem fT{σ:L2.St}{Q:VK}(h:tG W NX (rV W) (ev cf mt (.or a b)) σ H Q):ZF (tG W NX (rV W) (ev cf mt a)) (tG W NX (rV W) (ev cf mt b)) σ H Q:=by
 rw[cu]at h;refine Bq h λc ρ1 v H1 o1 os1 r1 r2 r3 r4 kp ef=>?_
 unfold aN at r4;split at r4
 .obtain⟨rfl,rfl⟩:=Zk (c:=.p (.bl true)) r1;exact⟨true,rfl,Tp (M4 r2 r3 r4)⟩
 .obtain⟨rfl,rfl⟩:=Zk (c:=.p (.bl false)) r1;exact⟨false,rfl,Tq ⟨ρ1,os1,r2,r3,r4⟩⟩
 .exact False.elim r4
theorem cY{σ:L2.St}{Q:Bool->Hp->Prop}(h:tG W NX rB (tv cf mt (.and a b)) σ H Q):ZJ (tG W NX rB (tv cf mt a)) (tG W NX rB (tv cf mt b)) σ H Q:=by
 rw[VX]at h;refine Bq h λc ρ1 v H1 o1 os1 r1 r2 r3 r4 kp ef=>?_
 obtain⟨rfl,rfl⟩:=r1;cases c with
 |true=>exact Tp ⟨ρ1,os1,r2,r3,r4⟩
 |false=>exact Tq (r4 false H1 [] os1 ⟨rfl,rfl⟩ r2 r3 (AR.refl _ _))
theorem fV{σ:L2.St}{Q:Bool->Hp->Prop}(h:tG W NX rB (tv cf mt (.or a b)) σ H Q):ib (tG W NX rB (tv cf mt a)) (tG W NX rB (tv cf mt b)) σ H Q:=by
 rw[Zz]at h;refine Bq h λc ρ1 v H1 o1 os1 r1 r2 r3 r4 kp ef=>?_
 obtain⟨rfl,rfl⟩:=r1;cases c with
 |true=>exact Tp (r4 true H1 [] os1 ⟨rfl,rfl⟩ r2 r3 (AR.refl _ _))
 |false=>exact Tq ⟨ρ1,os1,r2,r3,r4⟩
structure JM(X:Cx)(W:Wd)(cf:CF)(mt:MT)(op:PySem.BoolOp)(es:List Expr)(t:T):Prop where
 v:∀pos,PE X (.BoolOp op es pos) (tG W NX (rV W) (ev cf mt t))
 w:∀pos,PW X (.BoolOp op es pos) (tG W NX rB (tv cf mt t))
theorem JM.one{op:PySem.BoolOp}(h:Aq X W cf mt e t):JM X W cf mt op [e] t:=
 ⟨λpos=>WV h.v,λpos=>by cases op with|And=>exact Sk h.b|Or=>exact WJ h.b⟩
variable{e':Expr}
theorem JM.and{es:List Expr}(h:Aq X W cf mt e t)(r:JM X W cf mt .And (e'::es) u):JM X W cf mt .And (e::e'::es) (.and t u):=
 ⟨λpos=>Aj (X4 h.v (r.v pos)) λ_ _ _ z=>cX z,λpos whole pins s σ H Q I z=>WK h.b (r.w pos) whole pins s σ H Q I (cY z)⟩
theorem JM.or{es:List Expr}(h:Aq X W cf mt e t)(r:JM X W cf mt .Or (e'::es) u):JM X W cf mt .Or (e::e'::es) (.or t u):=
 ⟨λpos=>Aj (aH h.v (r.v pos)) λ_ _ _ z=>fT z,λpos whole pins s σ H Q I z=>aD h.b (r.w pos) whole pins s σ H Q I (fV z)⟩
def Pm(c:C)(ρ:Env):Res C:=match c with
    |.p (.bl b)=>.ok (.p (.bl (!b))) ρ
    |_=>.stuck
theorem XU(a:T):ev cf mt (.not a)=λρ=>(ev cf mt a ρ).bind λc ρ=>Pm c ρ:=funext λρ=>by
 show(den cf mt (.not a)).v ρ=_
 conv=>lhs;unfold den
 all_goals rfl
theorem VW(a:T):tv cf mt (.not a)=λρ=>(tv cf mt a ρ).bind λb ρ=>.ok (!b) ρ:=funext λρ=>by
 show(den cf mt (.not a)).b ρ=_
 conv=>lhs;unfold den
theorem RR(hK:W.K=X.K)(hw:W.w=X.w){pos:Pos}(h1:Aq X W cf mt a x):Aq X W cf mt (.UnaryOp .Not a pos) (.not x):=by
 refine Aq.Xe hK hw (λ_ _=>rfl) rfl rfl (Aj (WW h1.v) λσ H Q z=>?_) (Ek (WL h1.b) λσ H Q z=>?_) rfl
 .rw[XU]at z;refine Bq z λc ρ1 v H1 o1 os1 r1 r2 r3 r4 kp ef=>?_
  unfold Pm at r4;split at r4
  .rename_i b;obtain⟨rfl,rfl⟩:=Zk (c:=.p (.bl b)) r1;exact⟨b,rfl,M4 r2 r3 r4⟩
  .exact False.elim r4
 .rw[VW]at z;refine Bq z λc ρ1 v H1 o1 os1 r1 r2 r3 r4 kp ef=>?_
  obtain⟨rfl,rfl⟩:=r1;exact r4 (!c) H1 [] os1 ⟨rfl,rfl⟩ r2 r3 (AR.refl _ _)
noncomputable def MM(c:C)(r:Env->Res (List P))(ρ:Env):Res (List P):=match c with
    |.p x=>(r ρ).bind λxs ρ=>.ok (x::xs) ρ
    |_=>.stuck
theorem Iq(t:T)(ts:List T):Cu cf mt (t::ts)=λρ=>(ev cf mt t ρ).bind λc ρ=>MM c (Cu cf mt ts) ρ:=funext λρ=>by
 conv=>lhs;unfold Cu
 all_goals rfl
theorem Hq(ρ:Env):Cu cf mt [] ρ= .ok [] ρ:=by unfold Cu;rfl
theorem J0:∀{es:List Expr} {ts:List T},BB X W cf mt es ts->PA X es (tG W NX (ie W) (Cu cf mt ts))
 | _,_,.nil=>Ls El λσ H Q h=>by
   obtain⟨ρ,os,hR,hn,hA⟩:=h;rw[Hq]at hA;exact hA [] H [] os ⟨A2.nil,rfl⟩ hR hn (AR.refl _ _)
 | _,_,.cons (t:=t) (ts:=ts) h r=>Ls (Ce h.v (J0 r) (Aa h.st _ _)) λσ H Q z=>by
   rw[Iq]at z;refine Bq z λc ρ1 v H1 o1 os1 r1 r2 r3 r4 kp ef=>?_
   unfold MM at r4;split at r4
   .rename_i x;have r1:B3 W H1 (.p x) v o1:=r1;obtain⟨r5,rfl⟩:=r1;refine Bq (rep':=ie W) (G:=λxs ρ=>.ok (x::xs) ρ) (Q:=Q) ⟨ρ1,os1,r2,r3,r4⟩ λxs ρ2 vs H2 o2 os2 s1 s2 s3 s4 kp2 _=>?_
    obtain⟨s5,rfl⟩:=s1;exact s4 (v::vs) H2 [] os2 ⟨A2.cons (r5.mono kp2) s5,rfl⟩ s2 s3 (AR.refl _ _)
   .exact False.elim r4
theorem Hr:∀{ts:List T} {ρ ρ':Env} {ps:List P},Cu cf mt ts ρ= .ok ps ρ'->ps.length=ts.length
 |[],ρ,ρ',ps,e=>by rw[Hq]at e;cases e;rfl
 | t ::ts,ρ,ρ',ps,e=>by
   rw[Iq]at e;dsimp only at e;cases e1:ev cf mt t ρ with
   |stuck=>rw[e1]at e;cases e
   |err x p ρ2=>rw[e1]at e;cases e
   |ok c ρ2=>
     rw[e1,Res.A3]at e;unfold MM at e;split at e
     .cases e2:Cu cf mt ts ρ2 with
      |stuck=>rw[e2]at e;cases e
      |err x p ρ3=>rw[e2]at e;cases e
      |ok qs ρ3=>
        rw[e2]at e;cases e;rw[lC,lC,Hr e2]
     .cases e
theorem Qm(ts:List T):ev cf mt (.tup ts)=λρ=>if ts.length<=1000 then(Cu cf mt ts ρ).bind λps ρ=>.ok (.p (.tup ps)) ρ else .stuck:=funext λρ=>by
 show(den cf mt (.tup ts)).v ρ=_
 conv=>lhs;unfold den
 all_goals rfl
theorem Qn(ts:List T):ev cf mt (.lst ts)=λρ=>if ts.length<=1000 then(Cu cf mt ts ρ).bind λps ρ=>.ok (.lst ps) ρ else .stuck:=funext λρ=>by
 show(den cf mt (.lst ts)).v ρ=_
 conv=>lhs;unfold den
 all_goals rfl
theorem Pp{σ:L2.St}{Q:VK}(hR:A5 W H ρ σ os)(hn:os.Nodup)(h:C5 W NX (rV W σ) H os σ (.ok c ρ) Q):Ez W H c Q:=λv H' o s r ho hf=>h.made hR hn s r ho hf
theorem GL{n:Nat}(h:n<=1000):n<=sizeLine:=Nat.le_trans h (by decide)
variable{ts:List T}
theorem RQ(hK:W.K=X.K)(hw:W.w=X.w){es:List Expr}{k:Nat}{pos:Pos}(h:BB X W cf mt es ts):Aq X W cf mt (.Tuple es k pos) (.tup ts):=by
 refine Aq.of hK hw (λ_ _=>rfl) (λρ=>by show(den cf mt (.tup ts)).b ρ=(((den cf mt (.tup ts)).v ρ).bind _).bind _;unfold den;rfl) rfl rfl ?_ (λ_=>rfl) rfl;rw[Qm]
 by_cases hl:ts.length<=1000
 .refine Aj (WU (J0 h)) λσ H Q z=>?_
  simp only[iP hl]at z;refine Bq z λps ρ1 vs H1 o1 os1 r1 r2 r3 r4 kp ef=>?_
  obtain⟨r5,rfl⟩:=r1;obtain⟨ρ0,ef⟩:=ef;exact⟨GL (by rw[r5.length,Hr ef];exact hl),(Pp r2 r3 r4).tup r5⟩
 .exact CS λρ=>iN hl
theorem RT(hK:W.K=X.K)(hw:W.w=X.w){es:List Expr}{pos:Pos}(h:BB X W cf mt es ts):Aq X W cf mt (.List es pos) (.lst ts):=by
 refine Aq.of hK hw (λ_ _=>rfl) (λρ=>by show(den cf mt (.lst ts)).b ρ=(((den cf mt (.lst ts)).v ρ).bind _).bind _;unfold den;rfl) rfl rfl ?_ (λ_=>rfl) rfl;rw[Qn]
 by_cases hl:ts.length<=1000
 .refine Aj (WY (J0 h)) λσ H Q z=>?_
  simp only[iP hl]at z;refine Bq z λps ρ1 vs H1 o1 os1 r1 r2 r3 r4 kp ef=>?_
  obtain⟨r5,rfl⟩:=r1;obtain⟨ρ0,ef⟩:=ef;exact⟨GL (by rw[r5.length,Hr ef];exact hl),(Pp r2 r3 r4).list r5⟩
 .exact CS λρ=>iN hl
end
section
variable{cf:CF}{mt:MT}
theorem Aq.at(hK:W.K=X.K)(hw:W.w=X.w){e:Expr}{t:T}(hb:∀ρ,tv cf mt t ρ=(BA t (ev cf mt t) ρ).bind λh ρ=>Res.of ((h.cont ρ).bind CH) ρ)(hi:AV t=(.op,[t]))(v:PE X e (tG W NX (rV W) (ev cf mt t)))(h:PE X e (tG W NX (EA W) (BA t (ev cf mt t))))
 (x:t.calm=true->PE X e (tX W t))(he:∀whole,isTrue e X.env whole=(do let v <-whole;standAt e.pos;holding [v] (truthy v)))(st:AF e=true)(nc:Be e=false:=by rfl):Aq X W cf mt e t:=by
 refine⟨v,h,Ek (OT hK h he) λσ H Q z=>Lh ?_,x,st,λ_ tg=>?_,λi y py spos hN hi' hx hf=>GW hN hi' hx v (Ds nc _ _ _) hf,λz=>(by rw[nc]at z;cases z),λu z=>?_,λu w z=>?_⟩
 .rw[show(λρ=>(BA t (ev cf mt t) ρ).bind λh ρ=>Res.of ((h.cont ρ).bind CH) ρ)=tv cf mt t from funext λρ=>(hb ρ).symm];exact z
 .rw[hi];show PI X tg e (N2 W NX .op (A9 cf mt [t]));rw[DT];exact Mp hK hw h
 .rw[z]at hi;cases hi
 .rw[z]at hi;cases hi
theorem XT(i:Nat)(ρ:Env):ev cf mt (.var i) ρ=match A7 ρ i with
 |some c=>if c.cp then .ok c ρ else .ok c (ρ.set i none)
 |none=>.stuck:=by
 show(den cf mt (.var i)).v ρ=_;unfold den;rfl
theorem RP(hK:W.K=X.K)(hw:W.w=X.w){i:Nat}{x:Str}{pos:Pos}(hN:X.N[i]? =some x)(hv:cZ X.env.scope x)(hd:(x == ("__debug__":Str))=false)(hcd:(x == ("__classdict__":Str))=false):Aq X W cf mt (.Name x pos) (.var i):=by
 have pe:=Lr (pos:=pos) hN hv hd hcd;refine Aq.at hK hw (λρ=>?_) rfl (Aj pe λσ H Q z=>?_) (Aj pe λσ H Q z=>?_) (λ_=>Aj pe λσ H Q z=>z) (λ_=>rfl) rfl
 .show(den cf mt (.var i)).b ρ=_;unfold den;rfl
 .obtain⟨ρ,os,hR,hn,hA⟩:=z;rw[XT]at hA;cases hg:A7 ρ i with
  |none=>rw[hg]at hA;exact False.elim hA
  |some c=>
    rw[hg]at hA;dsimp only at hA;split at hA
    .rename_i hc;obtain⟨v,o,q1,q2,_⟩:=hR.get hg;have:=q2.cp hc;subst this;exact⟨v,q1,hA v H [] os q2 hR hn (AR.refl _ _)⟩
    .obtain⟨v,o,os',q1,q2,q3,q4⟩:=hR.take hg;exact⟨v,q1,hA v H o os' q2 q3 (q4.nodup_iff.mpr hn) ((AR.refl _ _).sub λa ha=>q4.subset ha)⟩
 .obtain⟨ρ,os,hR,hn,hA⟩:=z;have hA:C5 W NX (EA W σ) H os σ (if(A7 ρ i).isSome then .ok (.slot i) ρ else .stuck) Q:=hA;cases hg:A7 ρ i with
  |none=>rw[hg]at hA;exact False.elim hA
  |some c=>
    rw[hg]at hA;obtain⟨v,o,q1,q2,_⟩:=hR.get hg;exact⟨v,q1,hA v H [] os ⟨q1,rfl⟩ hR hn (AR.refl _ _)⟩
theorem QQ{H H':Hp}(h:Fm p=true)(h1:Ay W H p v)(h2:Ay W H' p w):v=w:=by
 cases p with
 |Az=>rw[Ae.mp h1,Ae.mp h2]
 |bl b=>rw[Al.mp h1,Al.mp h2]
 |int b=>rw[A4.mp h1,A4.mp h2]
 |str b=>rw[A6.mp h1,A6.mp h2]
 |tup _=>cases h
 |fn _=>cases h
theorem DI(hK:W.K=X.K)(hw:W.w=X.w){e:Expr}(pe:PE X e (tC v))(hp:∀H,Ay W H p v)(he:∀whole,isTrue e X.env whole=(do let v <-whole;standAt e.pos;holding [v] (truthy v)))(st:AF e=true)(nc:Be e=false:=by rfl):Aq X W cf mt e (.cst p):=by
 refine Aq.at hK hw (λρ=>?_) rfl (Aj pe λσ H Q z=>?_) (Aj pe λσ H Q z=>?_) (λhc=>Aj pe λσ H Q z=>?_) he st nc
 .show(den cf mt (.cst p)).b ρ=_;unfold den;rfl
 .obtain⟨ρ,os,hR,hn,hA⟩:=z
  have hA:C5 W NX (rV W σ) H os σ (.ok (.p p) ρ) Q:=by
   rw[show ev cf mt (.cst p) ρ= .ok (.p p) ρ from by show(den cf mt (.cst p)).v ρ=_;unfold den;rfl]at hA;exact hA
  exact hA v H [] os ⟨hp H,rfl⟩ hR hn (AR.refl _ _)
 .obtain⟨ρ,os,hR,hn,hA⟩:=z
  have hA:C5 W NX (EA W σ) H os σ (.ok (.AI (.p p)) ρ) Q:=by
   rw[show BA (.cst p) (ev cf mt (.cst p)) ρ= .ok (.AI (.p p)) ρ from by unfold BA ev den;rfl]at hA;exact hA
  exact hA v H [] os ⟨hp H,rfl⟩ hR hn (AR.refl _ _)
 .obtain⟨w,⟨h1,h2⟩,q⟩:=z;have:=QQ hc (hp H) h2;subst this;exact q
theorem RW(hK:W.K=X.K)(hw:W.w=X.w){i:Nat}{x:Str}{pos:Pos}(hN:X.N[i]? =some x)(hv:cZ X.env.scope x)(hd:(x == ("__debug__":Str))=false)(hcd:(x == ("__classdict__":Str))=false):Aq X W cf mt (.Attribute (.Name x p) f pos) (.fld i f):=by
 have pe:=P9 (f:=f) (pos:=pos) (Lr (pos:=p) hN hv hd hcd) rfl;refine Aq.at hK hw (λρ=>?_) rfl (Aj pe λσ H Q z=>?_) (Aj pe λσ H Q z=>?_) (λhc=>Aj pe λσ H Q z=>?_) (λ_=>rfl) rfl
 .show(den cf mt (.fld i f)).b ρ=_;unfold den;rfl
 .obtain⟨ρ,os,hR,hn,hA⟩:=z;rw[show ev cf mt (.fld i f) ρ=(match Br ρ i f with|some c=>if c.cp then .ok c ρ else .stuck|none=>.stuck)from by show(den cf mt (.fld i f)).v ρ=_;unfold den;rfl]at hA;cases hg:Br ρ i f with
  |none=>rw[hg]at hA;exact False.elim hA
  |some c=>
    rw[hg]at hA;dsimp only at hA;split at hA
    .rename_i hc;obtain⟨a,C,dx,fs,v,b,o',q1,q2,q3,q4,q5,rfl,q6⟩:=Hn hR hg;have:o'=[]:=B3.cp (c:=.b b) q6 hc;subst this;exact⟨.ref a,q1,a,C,dx,fs,v,rfl,q2,hK▸q3,hK▸q4,q5,hA v H [] os q6 hR hn (AR.refl _ _)⟩
    .exact False.elim hA
 .obtain⟨ρ,os,hR,hn,hA⟩:=z;have hA:C5 W NX (EA W σ) H os σ (if(Br ρ i f).isSome then .ok (.fld i f) ρ else .stuck) Q:=hA;cases hg:Br ρ i f with
  |none=>rw[hg]at hA;exact False.elim hA
  |some c=>
    rw[hg]at hA;obtain⟨a,C,dx,fs,v,b,o',q1,q2,q3,q4,q5,_,q6⟩:=Hn hR hg;exact⟨.ref a,q1,a,C,dx,fs,v,rfl,q2,hK▸q3,hK▸q4,q5,hA v H [] os ⟨rfl,a,C,dx,fs,q1,q2,q5⟩ hR hn (AR.refl _ _)⟩
 .obtain⟨v,⟨a,C,dx,fs,q1,q2,q3,q4,q5⟩,q⟩:=z;exact⟨.ref a,q1,a,C,dx,fs,v,rfl,q2,hK▸q3,hK▸q4,q5,q⟩
structure Z5(X:Cx)(W:Wd)(cf:CF)(k f:Nat):Prop where
 ex:∃fd ps,D1 X.prog X.w X.K X.mg X.base MY k (W.Cb f) fd ps (K3 W (cf f))/\Binds X.K fd ps []
 ne:∀cs x p,cf f cs≠.err x p
theorem Bj{es:List Expr}(h:∀e∈es,AF e=true)(pos:Pos)(env:PySem.Env):(backTo pos (starEach es env)).any (·.1)=false:=by
 rw[GK h];unfold backTo;rw[map_map,List.any_map];rw[List.any_eq_false];intro e _;simp
theorem TZ(f:Nat)(ts:List T):ev cf mt (.call f ts)=λρ=>(A9 cf mt ts ρ).bind λhs ρ=>AH cf f hs ρ:=funext λρ=>by
 show(den cf mt (.call f ts)).v ρ=_
 conv=>lhs;unfold den
 all_goals rfl
theorem OG(hK:W.K=X.K)(hw:W.w=X.w){k f:Nat}{es:List Expr}{ts:List T}{pos:Pos}(F:Z5 X W cf k f)(hr:Bk k X.A)(hg:Gl X x)(hm:X.mg x=some (.ref (W.Cb f)))(hk:keepIn X.K (.ref (W.Cb f))=true)(hdb:(x == ("__debug__":Str))=false)
 (h:BB X W cf mt es ts):Aq X W cf mt (.Call (.Name x p) es [] pos) (.call f ts):=by
 obtain⟨fd,ps,F1,F2⟩:=F.ex;refine Aq.of hK hw (λ_ _=>rfl) (λρ=>by show(den cf mt (.call f ts)).b ρ=(((den cf mt (.call f ts)).v ρ).bind _).bind _;unfold den;rfl) rfl rfl ?_ (λ_=>rfl) rfl;rw[TZ];have pl:=h.plain;have pd:=Dv h
 have conv1:∀σ H Q,tG W NX (rV W) (λρ=>(A9 cf mt ts ρ).bind λhs ρ=>AH cf f hs ρ) σ H Q->K0 (K3 W (cf f)) [] E0 (tG W NX (Bb W) (A9 cf mt ts)) σ H Q:=λσ H Q z=>by
  have:=Gw (E:=E0) F.ne z;unfold K0;simp only[append_nil];exact this
 cases es with
 |nil=>
   cases h;refine Aj (Pc F1 hr hg hm hk F2 .nil GZ hdb) λσ H Q z=>?_
   have z:=conv1 σ H Q z;unfold K0 at z ⊢;obtain⟨ρ,os,hR,hn,hA⟩:=z;rw[Co]at hA;exact hA [] H [] os ⟨rfl,rfl⟩ hR hn (AR.refl _ _)
 |cons e es=>
   exact Aj (SG F1 hr hg hm hk F2 .nil GZ pd hdb (Aa (pl e mS) es _) (Bj (λe he=>pl e (mC he)) pos _)) conv1
end
section
variable{cf:CF}{mt:MT}
variable{H:Hp}
theorem DO:∀{fs:List (Str×B)} {vs:List (Str×V)} {o:List Addr},Ba W H fs vs o->fs.lookup m=none->vs.lookup m=none
 |[],_,_,h,_=>by rw[h.1];rfl
 | (g,b)::fs,_,_,⟨v,r,o1,o2,e1,h1,h2,e⟩,el=>by
   subst e1;rw[lookup_cons]at el ⊢;cases hg:m == g with
   |true=>rw[hg]at el;cases el
   |false=>rw[hg]at el;exact DO h2 el
variable{F:Env->Res (List Hd)}
theorem Q2{σ:L2.St}{i:Nat}{K:List V->Hp->Prop}(hs:σ[i]? =some (some v))(h:tG W NX (Bb W) (λρ=>(F ρ).bind λhs ρ=>.ok (.slot i::hs) ρ) σ H K):tG W NX (Bb W) F σ H λvs H1=>K (v::vs) H1:=
 Bq h λa ρ1 vs H1 o1 os1 r1 r2 r3 r4 kp ef=>r4 (v::vs) H1 o1 os1 ⟨v,vs,[],o1,rfl,⟨hs,rfl⟩,r1,rfl⟩ r2 r3 (AR.refl _ _)
variable{apos:Pos}
theorem Ja{pos:Pos}{es:List Expr}{env:PySem.Env}(pl:∀e∈es,AF e=true)(hl:es.length < 29)(hline:(apos.endLine == pos.line)=true):eval (.Call (.Attribute (.Name x p) m apos) es [] pos) env=(do
 let ov <-eval (.Name x p) env
 standAt apos.atName
 let(f,first) <-holding [ov] (getMethod ov m (do return (<-importBound (.Name x p) env).getD true))
 callWith pos f first (backTo pos (starEach es env)) (backToKw pos (keywordEach [] env))):=by
 have bR:methodCallForm (es.length + ([]:List Keyword).length) (backTo pos (starEach es env)) (backToKw pos (keywordEach [] env))=true:=by
  unfold methodCallForm
  have h1:(backTo pos (starEach es env)).all (!·.1)=true:=by
   rw[GK pl];unfold backTo;rw[map_map,List.all_map,all_eq_true];intro e _;simp
  have h2:(backToKw pos (keywordEach [] env))=[]:=rfl;rw[h1,h2];simp
  lia
 show(do
  let ov <-attributeBase (.Name x p) m env (eval (.Name x p) env)
  standAt apos.atName
  methodCall (.Name x p) m apos pos env ov (es.length+([]:List Keyword).length) (backTo pos (starEach es env)) (backToKw pos (keywordEach [] env)))=_
 have hb:attributeBase (.Name x p) m env (eval (.Name x p) env)=eval (.Name x p) env:=rfl;rw[hb];unfold methodCall calleeOf methodCallPos;rw[bR,hline];simp only[Bool.not_true,Bool.false_or,if_true,pure_bind]
theorem Fc(m:Str)(i:Nat)(ts:List T)(ρ:Env):ev cf mt (.Ag m (.var i) ts) ρ=match A7 ρ i with
 | some (.obj c fs)=>match fs.lookup m,mt.m c m with
   |none,some f=>(A9 cf mt ts ρ).bind λhs ρ=>AH cf f (.slot i::hs) ρ
   |_,_=>.stuck
 |_=>.stuck:=by
 show(den cf mt (.Ag m (.var i) ts)).v ρ=_
 conv=>lhs;unfold den
 all_goals rfl
structure eR(X:Cx)(W:Wd)(cf:CF)(mt:MT)(k:Nat):Prop where
 O7:∀c m f,mt.m c m=some f->JT X.K (W.C3 c)/\(m≠Str.ofString "__init__"->Meth X.K (W.C3 c) m (W.Cb f))/\Z5 X W cf k f
variable{ts:List T}
theorem Oy(hK:W.K=X.K)(hw:W.w=X.w){k:Nat}(M:eR X W cf mt k)(hr:Bk k X.A){i:Nat}{m:Str}{es:List Expr}{pos:Pos}(hx:PE X (.Name x p) (Fq i))(hni:m≠Str.ofString "__init__")(hl:es.length < 29)(hline:(apos.endLine == pos.line)=true)
 (h:BB X W cf mt es ts):Aq X W cf mt (.Call (.Attribute (.Name x p) m apos) es [] pos) (.Ag m (.var i) ts):=by
 refine Aq.of hK hw (λ_ _=>rfl) (λρ=>by show(den cf mt (.Ag m (.var i) ts)).b ρ=(((den cf mt (.Ag m (.var i) ts)).v ρ).bind _).bind _;unfold den;rfl) rfl rfl ?_ (λ_=>rfl) rfl;have pl:=h.plain;have pd:=Dv h;intro pins s σ H Q I z;obtain⟨ρ,os,hR,hn,hA⟩:=z;rw[Fc]at hA;cases hg:A7 ρ i with
 |none=>rw[hg]at hA;exact False.elim hA
 |some d=>
   rw[hg]at hA;cases d with
   |b x=>exact False.elim hA
   |obj c fs=>
     dsimp only at hA;cases hl1:fs.lookup m with
     |some y=>rw[hl1]at hA;exact False.elim hA
     |none=>
       cases hl2:mt.m c m with
       |none=>rw[hl1,hl2]at hA;exact False.elim hA
       |some f=>
         rw[hl1,hl2]at hA;dsimp only at hA;obtain⟨v,o,q1,q2,_⟩:=hR.get hg;obtain⟨a,dx,vs,osf,rfl,q3,q4,_,q5⟩:=q2;obtain⟨M1,M2,F⟩:=M.O7 c m f hl2;obtain⟨fd,ps,F1,F2⟩:=F.ex
         have key:tG W NX (Bb W) (A9 cf mt ts) σ H λvs H2=>K3 W (cf f) (.ref a::vs) H2 Q E0:=by
          refine Q2 (i:=i) q1 (Gw F.ne ⟨ρ,os,hR,hn,?_⟩);show C5 W NX (rV W σ) H os σ (((A9 cf mt ts ρ).bind λhs ρ=>.ok (.slot i::hs) ρ).bind λhs ρ=>AH cf f hs ρ) Q;cases e1:A9 cf mt ts ρ with
          |stuck=>rw[e1]at hA;exact hA
          |err x p ρ'=>rw[e1]at hA;exact hA
          |ok hs ρ'=>rw[e1]at hA;exact hA
         cases es with
         |nil=>
           cases h;refine P7 hx M1 (M2 hni) F1 hr F2 .nil GZ (Ja pl hl hline) pins s σ H Q I ⟨.ref a,q1,a,dx,vs,rfl,q3,DO q4 hl1,?_⟩;obtain⟨ρ',os',hR',hn',hA'⟩:=key;rw[Co]at hA';exact hA' [] H [] os' ⟨rfl,rfl⟩ hR' hn' (AR.refl _ _)
         |cons e es=>
           refine SD hx M1 (M2 hni) F1 hr F2 .nil GZ pd (Aa (pl e mS) es _) (Bj (λe he=>pl e (mC he)) pos _) (Ja pl hl hline) pins s σ H Q I ⟨.ref a,q1,a,dx,vs,rfl,q3,DO q4 hl1,?_⟩;simp only[append_nil];exact key
theorem T1{f c:Nat}{σ:L2.St}{Q:VK}{E:XK}(hC:JT W.K (W.C3 c))(hE:∀cs x p,cf f cs≠.err x p)(h:tG W NX (rV W) (λρ=>(F ρ).bind λhs ρ=>FV cf f c hs ρ) σ H Q):
 tG W NX (Bb W) F σ H λvs H1=>∀x dx,H1 x=none->H1 dx=none->dx≠x->K3 W (cf f) (.ref x::vs) (upd (upd H1 dx (.own x)) x (.ins (W.C3 c) dx [])) (λv H2=>v= .Az/\Q (.ref x) H2) E:=by
 refine Bq h λhs ρ1 vs H1 o1 os1 h1 h2 h3 hA _ _=>?_
 intro x dx hx hdx hne;unfold FV at hA;cases ec:Ai ρ1 hs with
 |none=>rw[ec]at hA;exact False.elim hA
 |some cs =>
   rw[ec]at hA;dsimp only at hA;split at hA
   case isFalse=>exact False.elim hA
   rename_i hgc;obtain⟨hg,hc1⟩:=hgc;cases ecf:cf f (.obj c []::cs)with
   |stuck=>rw[ecf]at hA;exact False.elim hA
   |err x p=>exact absurd ecf (hE _ x p)
   |ok rc outs0=>
     rw[ecf]at hA
     obtain ⟨s,outs,rfl,rfl,hB⟩:∃s outs,rc= .p .Az/\outs0=some s::outs/\C5 W NX (rV W σ) H1 (o1++os1) σ ((Res.of (back (lend ρ1 hs cs) hs cs outs) ρ1).bind λρ' _=>.ok s ρ') Q:=by
      cases rc with
      |obj _ _=>exact False.elim hA
      |b y =>
        cases y with
        |p y =>
          cases y with
          |Az=>
            cases outs0 with
            |nil=>exact False.elim hA
            |cons a outs=>
              cases a with
              |none=>exact False.elim hA
              |some s=>exact⟨s,outs,rfl,rfl,hA⟩
          |_=>exact False.elim hA
        |_=>exact False.elim hA
     cases eb:back (lend ρ1 hs cs) hs cs outs with
     |none=>rw[eb]at hB;exact False.elim hB
     |some ρ2=>
       rw[eb]at hB;have hA:∀v H' o os',B3 W H' s v o->A5 W H' ρ2 σ os'->(o++os').Nodup->AR H1 H' (o1++os1) (o++os')->Q v H':=hB;obtain⟨oa,or_,q1,q2,q3⟩:=EW h2 h1 ec hg.2 hg.1 (λ_ _=>rfl) h2;have q2:A5 W H1 (lend ρ1 hs cs) σ or_:=q2;have na:=q3.nodup_iff.mpr h3;have na':=nA na;generalize hH2:upd (upd H1 dx (.own x)) x (.ins (W.C3 c) dx [])=H2
       have sm:BI H1 H2:=λb o e=>by
        rw[<-hH2,Ab (AS e hx),Ab (AS e hdx)];exact e
       have hx2:H2 x=some (.ins (W.C3 c) dx []):=by rw[<-hH2];exact Ar
       have xa:x∉oa:=λz=>by
        obtain⟨y,e,_⟩:=q1.own x z;rw[hx]at e;cases e
       have xr:x∉or_:=λz=>by
        obtain⟨y,e,_⟩:=q2.own x z;rw[hx]at e;cases e
       refine⟨.obj c []::cs,x::oa,⟨.ref x,vs.map some,[x],oa,rfl,⟨x,dx,[],[],rfl,hx2,⟨rfl,rfl⟩,rfl,hC,(λq hq=>by cases hq),λz=>absurd hc1 (Nat.not_lt.mpr z)⟩,q1.same sm,rfl⟩,nodup_cons.mpr ⟨xa,na'.1⟩,?_⟩;rw[ecf];intro v H' o oos r1 r2 r3 r4;have r1:B3 W H' (.p .Az) v o:=r1;obtain⟨r5,rfl⟩:=r1;refine⟨Ae.mp r5,?_⟩;obtain⟨v',r',os_,oos2,e1,s1,s2,rfl⟩:=r2;cases e1
       have own2:∀a∈x::oa,∃y,H2 a=some y/\Mu y:=λa ha=>by
        rcases mK ha with z|z
        .rw[z];exact⟨_,hx2,λ_ z=>HO.noConfusion z,λ_ _ z=>HO.noConfusion z⟩
        .obtain⟨y,e,m⟩:=q1.own a z;exact⟨y,sm _ _ e,m⟩
       have k1:AK H2 H':=r4.but.keep own2
       have dis:∀a∈or_,a∉x::oa:=λa ha z=>by
        rcases mK z with y|y
        .exact xr (y▸ha)
        .exact na'.2.2 a y a ha rfl
       have q2':A5 W H' (lend ρ1 hs cs) σ or_:=(q2.same sm).frame s2.tb k1 r4.but dis;have r3:(os_++oos2).Nodup:=r3;have r3':=nA r3;have r4:AR H2 H' (x::oa) (os_++oos2):=r4
       have ndo:∀a∈os_++oos2,a∉or_:=λa ha z=>by
        rcases r4.src a ha with y|y
        .exact dis a z y
        .obtain⟨b,eb,_⟩:=q2.own a z;rw[sm _ _ eb]at y;cases y
       obtain⟨os',t1,t2,t3⟩:=Fj (ρ0:=ρ1) h1 eb s2 q2' (by
        rw[nodup_append]
        exact⟨r3'.2.1,na'.2.1,λa ha b hb z=>ndo a (mR ha) (z▸hb)⟩) hg.1 λj hj=>⟨Cn hj,by
         show j < ((BH hs cs).foldl _ ρ1).length;rw[CN]
         exact Jb ec hg.2 j hj⟩
       refine hA (.ref x) H' os_ os' s1 t1 ?_ ?_
       .rw[nodup_append];refine⟨r3'.1,t2,λa ha b hb z=>?_⟩;subst z;rcases mem_append.mp (t3 a hb)with y|y
        .exact r3'.2.2 a ha a y rfl
        .exact ndo a (mL ha) y
       .have f0:AR H1 H2 (o1++os1) (or_++(x::oa)):=AR.of sm λa ha=>by
         rcases mem_append.mp ha with z|z
         .exact .inl (q3.subset (mR z))
         .rcases mK z with y|y
          .rw[y];exact .inr hx
          .exact .inl (q3.subset (mL y))
        refine(f0.trans (r4.more or_)).sub λa ha=>?_
        rcases mem_append.mp ha with z|z
        .exact mR (mL z)
        .rcases mem_append.mp (t3 a z)with y|y
         .exact mR (mR y)
         .exact mL y
theorem TX(c:Nat)(ts:List T)(ρ:Env):ev cf mt (.make c ts) ρ=match mt.m c (Str.ofString "__init__")with
 |some f=>(A9 cf mt ts ρ).bind λhs ρ=>FV cf f c hs ρ
 |none=>.stuck:=by
 show(den cf mt (.make c ts)).v ρ=_
 conv=>lhs;unfold den
 all_goals rfl
theorem Oz(hK:W.K=X.K)(hw:W.w=X.w){k c:Nat}(M:eR X W cf mt k)(hr:Bk (k + 1) X.A){es:List Expr}{pos:Pos}(hg:Gl X x)(hm:X.mg x=some (.ref (W.C3 c)))(hmk:∀f,mt.m c (Str.ofString "__init__")=some f->Mk X.K (W.C3 c) (W.Cb f))(hdb:(x == ("__debug__":Str))=false)
 (h:BB X W cf mt es ts):Aq X W cf mt (.Call (.Name x p) es [] pos) (.make c ts):=by
 refine Aq.of hK hw (λ_ _=>rfl) (λρ=>by show(den cf mt (.make c ts)).b ρ=(((den cf mt (.make c ts)).v ρ).bind _).bind _;unfold den;rfl) rfl rfl ?_ (λ_=>rfl) rfl;have pl:=h.plain;have pd:=Dv h;rw[show ev cf mt (.make c ts)=_ from funext λρ=>TX c ts ρ];cases hf:mt.m c (Str.ofString "__init__")with
 |none=>exact CS λρ=>rfl
 |some f=>
   obtain⟨M1,_,F⟩:=M.O7 c _ f hf;obtain⟨fd,ps,F1,F2⟩:=F.ex
   have conv1:∀σ H Q,tG W NX (rV W) (λρ=>(A9 cf mt ts ρ).bind λhs ρ=>FV cf f c hs ρ) σ H Q->JZ (W.C3 c) (K3 W (cf f)) [] E0 (tG W NX (Bb W) (A9 cf mt ts)) σ H Q:=λσ H Q z=>by
    have:=T1 (E:=E0) (hK▸M1) F.ne z;unfold JZ;simp only[append_nil];exact this
   cases es with
   |nil=>
     cases h;refine Aj (P8 (hmk f hf) F1 hr hg hm F2 .nil GZ hdb) λσ H Q z=>?_
     have z:=conv1 σ H Q z;unfold JZ at z ⊢;obtain⟨ρ,os,hR,hn,hA⟩:=z;rw[Co]at hA;exact hA [] H [] os ⟨rfl,rfl⟩ hR hn (AR.refl _ _)
   |cons e es=>
     exact Aj (SE (hmk f hf) F1 hr hg hm F2 .nil GZ pd hdb (Aa (pl e mS) es _) (Bj (λe he=>pl e (mC he)) pos _)) conv1
end
section
variable{cf:CF}{mt:MT}
variable{H:Hp}
theorem Mx{m:MO}{r:V->List V->Hp->VK->Prop}(hM:L5 W m r){σ:L2.St}{os o1:List Addr}{hs:List Hd}{vs:List V}{Q:VK}(hR:A5 W H ρ σ os)(hn:(o1++os).Nodup)(hh:EA W σ H ρ h (.ref a) [])(h1:Bb W σ H ρ hs vs o1)
 (hp:∀c,h≠.AI c)(hA:C5 W NX (rV W σ) H (o1++os) σ (J6 m h hs ρ) Q):r (.ref a) vs H Q:=by
 unfold J6 at hA;cases ec:h.cont ρ with
 |none=>rw[ec]at hA;exact False.elim hA
 |some d=>
   cases ed:Ai ρ hs with
   |none=>rw[ec,ed]at hA;cases d<;>exact False.elim hA
   |some cs =>
     rw[ec,ed]at hA;cases d with
     |obj _ _=>exact False.elim hA
     |b b =>
       dsimp only at hA;split at hA
       case isFalse=>exact False.elim hA
       cases es:Ei m b cs with
       |none=>rw[es]at hA;exact False.elim hA
       |some q=>
         obtain⟨c,b'⟩:=q;rw[es]at hA;dsimp only at hA;cases e2:setB ρ h b' with
         |none=>rw[e2]at hA;exact False.elim hA
         |some ρ'=>
           rw[e2]at hA;have hA:∀v H' o os',B3 W H' c v o->A5 W H' ρ' σ os'->(o++os').Nodup->AR H (H') (o1++os) (o++os')->Q v H':=hA
           have nb:C.cp (.b b)=false:=by
            cases b with
            |lst _=>rfl
            |Cv _=>rfl
            |p _=>exact absurd es (by unfold Ei;exact nofun)
            |ro _=>exact absurd es (by unfold Ei;exact nofun)
           have hb:Bt W H b (.ref a) [a]:=by
            cases h with
            |AI c=>exact absurd rfl (hp c)
            |slot i=>
              obtain⟨v,o,q1,q2,_⟩:=hR.get (show A7 ρ i=some (.b b)from ec);rw[hh.1]at q1;cases q1;have:=Bt.addr q2 nb;subst this;exact q2
            |fld i f=>
              obtain⟨a0,C,dx,fs,v,b0,o',q1,q2,_,_,q5,eb,q6⟩:=Hn hR (show Br ρ i f=some (.b b)from ec);cases eb;obtain⟨_,a1,C1,dx1,fs1,g1,g2,g3⟩:=hh;rw[g1]at q1;cases q1;rw[g2]at q2;cases q2;rw[g3]at q5;cases q5;have:=Bt.addr q6 nb;subst this;exact q6
           refine hM H a b b' cs c vs Q hb nb (DC hR h1 ed) es λv x' hb' k rc=>?_
           obtain⟨os',t1,t2,t3⟩:=N4 hR (nA hn).2.1 ec hh nb hb' k e2;exact hA v _ [] os' rc t1 (t2.nodup_iff.mpr (nA hn).2.1) (t3.weak λa ha=>mR ha)
theorem XW(m:MO)(o:T)(ts:List T)(ρ:Env):ev cf mt (.ES m o ts) ρ=match placeOf o with
 |some h=>if m.ok && Vz (h.cont ρ) && (!h.E9 || ts.all T.calm)then(A9 cf mt ts ρ).bind λhs ρ=>J6 m h hs ρ else .stuck
 |none=>.stuck:=by
 show(den cf mt (.ES m o ts)).v ρ=_
 conv=>lhs;unfold den
 all_goals rfl
inductive Oa(X:Cx)(W:Wd):Expr->T->TE->Prop where
 |nm {x:Str} {p:Pos} {i:Nat} (h:PE X (.Name x p) (Fq i)):Oa X W (.Name x p) (.var i) (Fq i)
 |fl {x f:Str} {p q:Pos} {i:Nat} (h:PE X (.Attribute (.Name x p) f q) (W5 X.K (Fq i) f)):Oa X W (.Attribute (.Name x p) f q) (.fld i f) (W5 X.K (Fq i) f)
theorem Oa.pe{to:TE}(h:Oa X W e o to):PE X e to:=by cases h<;>assumption
theorem Oa.base{to:TE}(h:Oa X W e o to)(m:Str)(env:PySem.Env):attributeBase e m env (eval e env)=eval e env:=by cases h<;>rfl
theorem Mw(hK:W.K=X.K){m:MO}{r:V->List V->Hp->VK->Prop}(hM:L5 W m r){to:TE}(hr:Oa X W e o to){es:List Expr}{ts:List T}(h:BB X W cf mt es ts){σ:L2.St}{Q:VK}(z:tG W NX (rV W) (ev cf mt (.ES m o ts)) σ H Q):
 to σ H λx H1=>dt X.K "list" x H1/\(if ts.all T.calm=true then V4 W ts else tG W NX (Bb W) (A9 cf mt ts)) σ H1 λxs H2=>r x xs H2 Q:=by
 obtain⟨ρ,os,hR,hn,hA⟩:=z;rw[XW]at hA
 have fin:∀(h:Hd) (a:Addr),(∀c,h≠.AI c)->EA W σ H ρ h (.ref a) []->(h.E9=true->ts.all T.calm=true)->(∀H1 ρ1,h.E9=false->EA W σ H1 ρ1 h (.ref a) [])->C5 W NX (rV W σ) H os σ ((A9 cf mt ts ρ).bind λhs ρ=>J6 m h hs ρ) Q->
  (if ts.all T.calm=true then V4 W ts else tG W NX (Bb W) (A9 cf mt ts)) σ H λxs H2=>r (.ref a) xs H2 Q:=by
  intro h a hp hh hc hst hA;split
  .rename_i hcalm;rcases FI (cf:=cf) (mt:=mt) hcalm hR with⟨hs,e1,q⟩|e1
   .rw[e1,Res.A3]at hA;exact q _ λvs hv=>Mx (o1:=[]) hM hR hn hh hv hp hA
   .rw[e1]at hA;exact False.elim hA
  .rename_i hcalm
   have hnf:h.E9=false:=by
    cases e:h.E9 with
    |false=>rfl
    |true=>exact absurd (hc e) hcalm
   exact Bq (rep':=rV W) (G:=λhs ρ=>J6 m h hs ρ) (Q:=Q) ⟨ρ,os,hR,hn,hA⟩ λhs ρ1 vs H1 o1 os1 r1 r2 r3 r4 _ _=>Mx hM r2 r3 (hst H1 ρ1 hnf) r1 hp r4
 cases hr with
 |@nm x p i hx=>
   have hA:C5 W NX (rV W σ) H os σ (if(m.ok && Vz (A7 ρ i) && (!false || ts.all T.calm))=true then(A9 cf mt ts ρ).bind λhs ρ=>J6 m (.slot i) hs ρ else .stuck) Q:=hA;split at hA
   case isFalse=>exact False.elim hA
   rename_i hc;rw[bA,bA]at hc;cases hg:A7 ρ i with
   |none=>rw[hg]at hc;exact absurd hc.1.2 (by decide)
   |some d=>
     rw[hg]at hc;unfold Vz at hc;split at hc
     .rename_i ps hd;cases hd;obtain⟨v,o,q1,q2,_⟩:=hR.get hg;obtain⟨a,vs,rfl,q3,q4,rfl⟩:=q2;exact⟨.ref a,q1,.inl ⟨rfl,vs,E2.of q3⟩,fin (.slot i) a (λc z=>by cases z) ⟨q1,rfl⟩ (λz=>by cases z) (λ_ _ _=>⟨q1,rfl⟩) hA⟩
     .exact absurd hc.1.2 (by decide)
 |@fl x f p q i hx=>
   have hA:C5 W NX (rV W σ) H os σ (if(m.ok && Vz (Br ρ i f) && (!true || ts.all T.calm))=true then(A9 cf mt ts ρ).bind λhs ρ=>J6 m (.fld i f) hs ρ else .stuck) Q:=hA;split at hA
   case isFalse=>exact False.elim hA
   rename_i hc;rw[bA,bA]at hc;cases hg:Br ρ i f with
   |none=>rw[hg]at hc;exact absurd hc.1.2 (by decide)
   |some d=>
     rw[hg]at hc;unfold Vz at hc;split at hc
     .rename_i ps hd;cases hd;obtain⟨a0,C,dx,fs,v,b0,o',q1,q2,c1,c2,q5,eb,q6⟩:=Hn hR hg;cases eb;obtain⟨a,vs,rfl,q3,q4,rfl⟩:=q6;exact⟨.ref a0,q1,a0,C,dx,fs,.ref a,rfl,q2,hK▸c1,hK▸c2,q5,.inl ⟨rfl,vs,E2.of q3⟩,fin (.fld i f) a (λc z=>by cases z) ⟨rfl,a0,C,dx,fs,q1,q2,q5⟩ (λ_=>by simpa using hc.2) (λ_ _ z=>by cases z) hA⟩
     .exact absurd hc.1.2 (by decide)
theorem Pu(m:MO)(o:T)(ts:List T)(ρ:Env):tv cf mt (.ES m o ts) ρ=((ev cf mt (.ES m o ts) ρ).bind λc ρ=>.ok (Hd.AI c) ρ).bind λh ρ=>Res.of ((h.cont ρ).bind CH) ρ:=by
 show(den cf mt (.ES m o ts)).b ρ=(((den cf mt (.ES m o ts)).v ρ).bind _).bind _;unfold den;rfl
variable{id:String}{apos cpos:Pos}
theorem Ox(hK:W.K=X.K)(hw:W.w=X.w){m:MO}{name:Str}{r:V->List V->Hp->VK->Prop}(hM:L5 W m r)(slot:Slot "list" name id)(hty:typeOf (.builtin id)=pure (.type "method_descriptor"))(hm:NY X id r){to:TE}(hr:Oa X W e o to)(hline:(apos.endLine == cpos.line)=true):
 Aq X W cf mt (.Call (.Attribute e name apos) [] [] cpos) (.ES m o []):=by
 refine Aq.of hK hw (λ_ _=>rfl) (Pu m o []) rfl rfl (Aj (X0 PySem.F.plainAttrs_list slot hty hm hr.pe (hr.base name _) hline) λσ H Q z=>?_) (λ_=>rfl) rfl;exact Mw hK hM hr .nil z
theorem K4(hK:W.K=X.K)(hw:W.w=X.w){m:MO}{name:Str}{r:V->List V->Hp->VK->Prop}(hM:L5 W m r)(slot:Slot "list" name id)(hty:typeOf (.builtin id)=pure (.type "method_descriptor"))(hm:NY X id r){to:TE}(hr:Oa X W e o to)(hline:(apos.endLine == cpos.line)=true)
 (h:Aq X W cf mt a x):Aq X W cf mt (.Call (.Attribute e name apos) [a] [] cpos) (.ES m o [x]):=by
 have hs:BB X W cf mt [a] [x]:=.cons h .nil;have st:starEach [a] X.env=[(false,eval a X.env)]:=Aa h.st [] X.env
 have bR:((backTo cpos (starEach [a] X.env)).all (λx=>!x.1) && (backToKw cpos (keywordEach [] X.env)).all (λx=>x.1.isSome)
  && decide (([a]:List Expr).length+([]:List Keyword).length+(if([]:List Keyword).isEmpty then 0 else 1) < 30))=true:=by rw[st];rfl
 have pa:PA X [a] (if[x].all T.calm=true then V4 W [x]else tG W NX (Bb W) (A9 cf mt [x])):=by
  split
  .rename_i hc;obtain⟨tes,h1,h2⟩:=Et hs hc;rw[h2];exact H8 h1
  .exact Dv hs
 exact Aq.of hK hw (λ_ _=>rfl) (Pu m o [x]) rfl rfl (Aj (Pd PySem.F.plainAttrs_list slot hty hm hr.pe pa (hr.base name _) bR hline st rfl) λσ H Q z=>Mw hK hM hr hs z) (λ_=>rfl) rfl
def OR(K:PySem.W.Frag):V->List V->Hp->VK->Prop:=λx vs H Q=>∃l b xs zs,x= .ref l/\vs=[.ref b]/\H l=some (.lst xs)/\Ey K H b zs/\xs.length+zs.length<=sizeLine/\Q .Az (upd H l (.lst (xs++zs)))
theorem SW:NY X "list.extend" (OR X.K):=by
 intro pins s σ H x vs v us Q I rx rv h;obtain⟨l,b,xs,zs,rfl,rfl,hH,hB,hz,q⟩:=h;cases rx;obtain⟨u,rfl,ru⟩:=rv.one;cases ru;obtain⟨z,its,n,r,hl,e⟩:=I.Km hH;obtain⟨its2,r2,ht,hz2⟩:=I.tuple hB;have hl2:=r2.length;obtain⟨⟨cl,Cv,dat,sl⟩,e2,c2,n2,d2⟩:=ht;have c2:cl= .type "tuple":=c2;have d2:dat= .seq its2.toArray n2:=d2;subst c2 d2;have hsz:its.toArray.size+its2.toArray.size<=sizeLine:=by rw[size_toArray,size_toArray];lia
 have hlong:¬(!its.toArray.isEmpty && Builtin.List.listTooLong (its.toArray.size + its2.toArray.size))=true:=by
  rw[Hc hsz,Bool.and_false];exact Bool.false_ne_true
 refine call_meets F.slot_list_extend ⟨_,e,rfl⟩ F.entry_list_extend (F.args_list_extend_2 _ _)
  (TF l its.toArray n b its2.toArray n2 Cv sl hlong (by rw[size_toArray];lia) (by lia)) ⟨e,e2,?_⟩
 refine⟨.Az,_,I.T6 (its':=its++its2) hH e (by simp) (r.append r2) ?_,rfl,q⟩;rw[lA]
 lia
theorem Xm:NY X "list.extend" (λx xs H Q=>IX x xs H Q\/OR X.K x xs H Q):=NY.or Nw SW
theorem Ly(hK:W.K=X.K):L5 W .extend (λx xs H Q=>IX x xs H Q\/OR X.K x xs H Q):=J5 λH a ps xs b' cs c vs Q h1 h2 hv e q=>by
 have e:EU ps cs=some (c,b'):=e;unfold EU at e;split at e
 .rename_i zs;split at e
  .rename_i hl;cases e;obtain⟨v,rfl,b,ws,rfl,s1,r1⟩:=BV hv;have k:=F5 (x':=.lst (xs++ws)) h1;refine .inl ⟨a,b,xs,ws,rfl,rfl,h1,s1,by rw[h2.length,r1.length];exact Nat.le_trans hl BU,?_⟩;exact q .Az (.lst (xs++ws)) ⟨a,xs++ws,rfl,Ar,A2.append (r1.mono k) (h2.mono k),rfl⟩ k ⟨Ae.mpr rfl,rfl⟩
  .cases e
 .rename_i zs;split at e
  .rename_i hl;cases e;obtain⟨v,rfl,r0⟩:=BV hv;obtain⟨b,ws,rfl,s1,r1⟩:=C8 r0;have k:=F5 (x':=.lst (xs++ws)) h1;refine .inr ⟨a,b,xs,ws,rfl,rfl,h1,hK▸s1,by rw[h2.length,r1.length];exact Nat.le_trans hl BU,?_⟩;exact q .Az (.lst (xs++ws)) ⟨a,xs++ws,rfl,Ar,A2.append (r1.mono k) (h2.mono k),rfl⟩ k ⟨Ae.mpr rfl,rfl⟩
  .cases e
 .cases e
end
theorem QF:bootBuiltins "len"=some (.builtin "len"):=by decide +kernel
theorem Yp:bootBuiltins "isinstance"=some (.builtin "isinstance"):=by decide +kernel
theorem Yo:bootBuiltins "min"=some (.builtin "min"):=by decide +kernel
theorem Yq:bootBuiltins "all"=some (.builtin "all"):=by decide +kernel
theorem MR:bootBuiltins "list"=some (.type "list"):=by decide +kernel
theorem KU:bootBuiltins "tuple"=some (.type "tuple"):=by decide +kernel
theorem QG:bootBuiltins "int"=some (.type "int"):=by decide +kernel
theorem Uj:bootBuiltins "bool"=some (.type "bool"):=by decide +kernel
theorem QE:bootBuiltins "str"=some (.type "str"):=by decide +kernel
theorem Ui:bootBuiltins "dict"=some (.type "dict"):=by decide +kernel
section
variable{cf:CF}{mt:MT}
theorem Hu:∀{ts:List T} {ρ ρ':Env} {hs:List Hd},A9 cf mt ts ρ= .ok hs ρ'->hs.length=ts.length
 |[],ρ,ρ',hs,e=>by rw[Co]at e;cases e;rfl
 | t ::ts,ρ,ρ',hs,e=>by
   rw[BS]at e;cases e1:BA t (ev cf mt t) ρ with
   |stuck=>rw[e1]at e;cases e
   |err x p ρ2=>rw[e1]at e;cases e
   |ok h ρ2=>
     rw[e1,Res.A3]at e
     have fin:∀(h:Hd),((A9 cf mt ts ρ2).bind λhs ρ=>.ok (h::hs) ρ)= .ok hs ρ'->hs.length=(t::ts).length:=λh e=>by
      cases e2:A9 cf mt ts ρ2 with
      |stuck=>rw[e2]at e;cases e
      |err x p ρ3=>rw[e2]at e;cases e
      |ok gs ρ3=>
        rw[e2]at e;cases e;rw[lC,lC,Hu e2]
     cases h with
     |AI c=>exact fin _ e
     |slot i=>exact fin _ e
     |fld i f=>
       dsimp only at e;split at e
       .exact fin _ e
       .cases e
variable{ts:List T}{H:Hp}
theorem Kg{o:O}(Ak:o.ok=true){σ:L2.St}{Q:VK}(h:tG W NX (rV W) (ev cf mt (.prim o ts)) σ H Q):tG W NX (Bb W) (A9 cf mt ts) σ H λvs H1=>vs.length=ts.length/\AL W (Av o) vs H1 Q:=by
 refine Gs (λρ hs ρ' e=>Hu e) (Vj ?_)
 rw[show ev cf mt (.prim o ts)=λρ=>(A9 cf mt ts ρ).bind λhs ρ=>Res.of ((Ai ρ hs).bind (Av o)) ρ from funext λρ=>by
   show(den cf mt (.prim o ts)).v ρ=_
   conv=>lhs;unfold den
   show(if o.ok=true then _ else _)=_
   rw[iP Ak]]at h
 exact h
theorem Mm{g g':List C->Option C}{n:Nat}(hg:∀cs,cs.length=n->g cs=g' cs){vs:List V}{Q:VK}(h:vs.length=n/\AL W g vs H Q):AL W g' vs H Q:=by
 obtain⟨hl,cs,c,h1,h2,h3⟩:=h;exact⟨cs,c,h1,by rw[<-hg cs (by rw[<-h1.length];exact hl)];exact h2,h3⟩
variable{id:String}
theorem Mj(hK:W.K=X.K)(hw:W.w=X.w){o:O}(Ak:o.ok=true){g:List C->Option C}(hc:B5 X (.builtin id) (AL W g)){e:Expr}{es:List Expr}{pos:Pos}(hg':∀cs,cs.length=ts.length->Av o cs=g cs)(hv:bootBuiltins x=some (.builtin id))
 (hg:Gl X x)(hm:X.mg x=none)(hn:x≠"__name__")(hdb:(x == ("__debug__":Str))=false)(hi:AV (.prim o ts)=(.op,[.prim o ts]))(h:BB X W cf mt (e::es) ts):Aq X W cf mt (.Call (.Name x p) (e::es) [] pos) (.prim o ts):=by
 have pl:=h.plain;exact Aq.of hK hw AE AX rfl hi (Aj (GY (B5.imp hc λxs H Q z=>Mm hg' z) hg hm hv (Dv h) hn hdb (Aa (pl e mS) es _) (Bj (λe he=>pl e (mC he)) pos _)) λσ H Q z=>Kg Ak z) (λ_=>rfl) rfl
theorem Mi(hK:W.K=X.K)(hw:W.w=X.w){o:O}(Ak:o.ok=true){g:List C->Option C}(hc:B5 X (.type id) (AL W g)){e:Expr}{es:List Expr}{pos:Pos}(hg':∀cs,cs.length=ts.length->Av o cs=g cs)(hv:bootBuiltins x=some (.type id))
 (hg:Gl X x)(hm:X.mg x=none)(hn:x≠"__name__")(hdb:(x == ("__debug__":Str))=false)(hi:AV (.prim o ts)=(.op,[.prim o ts]))(h:BB X W cf mt (e::es) ts):Aq X W cf mt (.Call (.Name x p) (e::es) [] pos) (.prim o ts):=by
 have pl:=h.plain;exact Aq.of hK hw AE AX rfl hi (Aj (I0 (B5.imp hc λxs H Q z=>Mm hg' z) hg hm hv (Dv h) hn hdb (Aa (pl e mS) es _) (Bj (λe he=>pl e (mC he)) pos _)) λσ H Q z=>Kg Ak z) (λ_=>rfl) rfl
theorem Em{f:List C->Option C}{g:C->Option C}(h:∀c,f [c]=g c):∀cs:List C,cs.length=1->f cs=Nr g cs:=λcs hl=>by
 obtain⟨c,rfl⟩:=T9 hl;exact h c
theorem Xd{f:List C->Option C}{g:C->C->Option C}(h:∀c d,f [c,d]=g c d):∀cs:List C,cs.length=2->f cs=dC g cs:=λcs hl=>by
 obtain⟨c,d,rfl⟩:=T8 hl;exact h c d
theorem Ye(hK:W.K=X.K)(hc:X.calm=true):B5 X (.type "list") (AL W (Nr λc=>(Nf c).map .lst)):=by
 refine B5.imp (QD hK) λxs H Q z=>?_
 obtain⟨x,c,r,rfl,h1,h2,h3⟩:=Cd z;obtain⟨ps,e1,rfl⟩:=oM h2;have go:∀{g:C->Option C},g c=some (.lst ps)->AL W (Nr g) [x] H Q:=λe=>⟨[c],_,⟨x,[],rfl,h1,rfl⟩,e,h3⟩
 unfold Nf at e1;split at e1
 .rename_i qs hn;cases e1;exact go (by show(Cj c).map C.lst=_;unfold Cj;rw[hn];rfl)
 .rename_i qs hn;cases e1;exact go (by show(Cj c).map C.lst=_;unfold Cj;rw[hn];rfl)
 .cases e1
theorem RU(hK:W.K=X.K)(hw:W.w=X.w){t:Ty}(ht:∀cs,t≠.cls cs)(hy:bootBuiltins y=some (.type (Ma t)))(hgy:Gl X y)(hmy:X.mg y=none)(hny:y≠"__name__")(hdy:(y == ("__debug__":Str))=false)
 (hg:Gl X "isinstance")(hm:X.mg "isinstance"=none){p pos:Pos}(h:Aq X W cf mt a x):Aq X W cf mt (.Call (.Name "isinstance" p) [a,.Name y q] [] pos) (.prim (.Gr t) [x]):=by
 obtain⟨ta,q1,q2,m1⟩:=H9 h;have Ak:(O.Gr t).ok=true:=by cases t<;>first|rfl|exact absurd rfl (ht _)
 have pa:PA X [a,.Name y q] (Bd ta (Bd (tC (.ty (Ma t))) Dn)):=Ce q1 (Ce (SH hgy hmy hy rfl hny hdy) El (Aa rfl [] _)) (Aa h.st _ _);refine Aq.of hK hw AE AX rfl rfl (Aj (GY (cJ hK hw t ht) hg hm Yp pa (by decide) (by decide) (Aa h.st _ _) (Bj (λe he=>by rw[mE he];rfl) pos _)) λσ H Q z=>?_) (λ_=>rfl) rfl;have z:=AY Ak z;rw[q2]at z;refine m1 _ _ _ _ z λu H1 z=>?_
 obtain⟨c,r,g1,g2,g3⟩:=Cm (g:=Av (.Gr t)) (g1:=λc=>(FG t c).map λb=>.p (.bl b)) (λ_=>rfl) z;obtain⟨b,e1,rfl⟩:=oM g2;exact⟨u,c,b,rfl,g1,e1,g3.bl⟩
theorem Q0{i x:Int}:∀{l:List Int},x∈insI i l↔x=i\/x∈l
 |[]=>by unfold insI;simp
 | j ::r=>by
   unfold insI;split
   .simp
   .rw[mem_cons,Q0 (l:=r),mem_cons];constructor
    .rintro(h|h|h)
     .exact .inr (.inl h)
     .exact .inl h
     .exact .inr (.inr h)
    .rintro(h|h|h)
     .exact .inr (.inl h)
     .exact .inl h
     .exact .inr (.inr h)
theorem Ij:∀(ns:List Int),A2 W H (ns.map P.int) (ns.map V.int)
 |[]=>.nil
 |n::ns=>.cons (A4.mpr rfl) (Ij ns)
end
section
variable{cf:CF}{mt:MT}
variable{ts:List T}
theorem Aq.iter{k:IK}(st:AF e=true)(nc:Be e=false)(i:k.ok=true->∀tg,PI X tg e (N2 W NX k (A9 cf mt ts)))
 (rv:∀u,T.prim (.iter k) ts= .prim (.iter .rev) [u]->∃l p pos,e= .Call (.Name "reversed" p) [l] [] pos/\Gl X "reversed"/\X.mg "reversed"=none/\PE X l (tG W NX (EA W) (BA u (ev cf mt u)))/\AF l=true)
 (zp:∀u w,T.prim (.iter k) ts= .prim (.iter .zip) [u,w]->∃l m p pos,e= .Call (.Name "zip" p) [l,m] [] pos/\Gl X "zip"/\X.mg "zip"=none/\PA X [l,m] (tG W NX (Bb W) (A9 cf mt [u,w]))/\AF l=true/\AF m=true):Aq X W cf mt e (.prim (.iter k) ts):=by
 have hv:∀ρ,ev cf mt (.prim (.iter k) ts) ρ= .stuck:=λρ=>GX rfl ρ
 have v:PE X e (tG W NX (rV W) (ev cf mt (.prim (.iter k) ts))):=CS hv;refine⟨v,CS λρ=>(by rw[AE,hv];rfl),Ke λρ=>(by rw[AX,hv];rfl),λz=>(by cases z),st,i,λi y py spos hN hi' hx hf=>GW hN hi' hx v (Ds nc _ _ _) hf,λz=>(by rw[nc]at z;cases z),rv,zp⟩
theorem HU{es:List Expr}{p pos:Pos}(hg:Gl X "range")(hm:X.mg "range"=none)(h:BB X W cf mt es ts)(hl:ts.length=1\/ts.length=2\/ts.length=3):Aq X W cf mt (.Call (.Name "range" p) es [] pos) (.prim (.iter .BC) ts):=by
 refine Aq.iter rfl rfl (λ_ tg=>?_) (λu z=>by cases z) (λu w z=>by cases z);have pd:=Dv h;have hF:∀ρ hs ρ',A9 cf mt ts ρ= .ok hs ρ'->hs.length=ts.length:=λρ hs ρ' e=>Hu e
 cases h with
 |nil=>rcases hl with z|z|z<;>cases z
 |cons h1 r1=>
   cases r1 with
   |nil=>exact Sz hg hm hF pd (Aa h1.st _ _)
   |cons h2 r2=>
     have s2:=Aa h2.st;cases r2 with
     |nil=>exact Sy hg hm hF pd (by rw[Aa h1.st,s2];rfl) (s2 _ _)
     |cons h3 r3=>
       have s3:=Aa h3.st;cases r3 with
       |nil=>exact Sx hg hm hF pd (by rw[Aa h1.st,s2,s3];rfl) (by rw[s2,s3];rfl)
       |cons _ _=>rcases hl with z|z|z<;>simp at z
theorem DK(hK:W.K=X.K)(hw:W.w=X.w){o:O}(Ak:o.ok=false)(hi:AV (.prim o ts)=(.op,[.prim o ts]))(st:AF e=true)(nc:Be e=false):Aq X W cf mt e (.prim o ts):=
 Aq.not hK hw AE (λρ=>GX Ak ρ) (λρ=>by rw[AX,GX Ak];rfl) rfl hi st nc
theorem Hs(ρ:Env):Ht cf mt [] ρ= .ok true ρ:=by unfold Ht;rfl
theorem Qt(t:T)(ts:List T):Ht cf mt (t::ts)=tv cf mt t:=funext λρ=>by conv=>lhs;unfold Ht
theorem Jv(g:Tg)(k:IK)(its cond:List T)(elt:T)(fr:List (Option Nat)):ev cf mt (.comp g k its cond elt fr)=λρ=>if k.ok then(A9 cf mt its ρ).bind (Iy k g fr (Ht cf mt cond) (ev cf mt elt))else .stuck:=funext λρ=>by
 show(den cf mt (.comp g k its cond elt fr)).v ρ=_
 conv=>lhs;unfold den
 all_goals rfl
variable{ifs:List Expr}
theorem Sw{t t':TT}(h:Uv X ifs t)(k:∀σ H Q,t' σ H Q->t σ H Q):Uv X ifs t':=λpins s σ H Q I z=>h pins s σ H Q I (k σ H Q z)
variable{cs:List T}
theorem WS(h:BB X W cf mt ifs cs)(hl:cs.length<=1):Uv X ifs (tG W NX rB (Ht cf mt cs)):=by
 cases h with
 |nil=>
   refine Sw Sv λσ H Q z=>?_
   obtain⟨ρ,os,hR,hn,hA⟩:=z;rw[Hs]at hA;exact hA true H [] os ⟨rfl,rfl⟩ hR hn (AR.refl _ _)
 |cons h r=>
   cases r with
   |nil=>rw[Qt];exact Su h.b
   |cons _ _=>simp at hl
theorem OF(hK:W.K=X.K)(hw:W.w=X.w)(hc:X.calm=true){elt it tg:Expr}{sc:Scope}{pos:Pos}{N:List Str}{fr:List (Option Nat)}(ok:Dj X.N X.env.scope N sc fr)(h1:Aq X W cf mt it x)(hl:cs.length<=1)
 (hb:∀C s H fp,PG (AU X N sc C s H fp) tg (gT W g)/\Aq (AU X N sc C s H fp) W cf mt elt e/\BB (AU X N sc C s H fp) W cf mt ifs cs):
 Aq X W cf mt (.ListComp elt [⟨tg,it,ifs,0⟩] sc pos) (.comp g (AV x).1 (AV x).2 cs e fr):=by
 have hv:∀σ H Q,tG W NX (rV W) (ev cf mt (.comp g (AV x).1 (AV x).2 cs e fr)) σ H Q->(AV x).1.ok=true/\IP (N2 W NX (AV x).1 (A9 cf mt (AV x).2)) (gT W g) (tG W NX rB (Ht cf mt cs)) (tG W NX (rV W) (ev cf mt e)) fr σ H Q:=λσ H Q z=>by
  rw[Jv]at z;cases hk:(AV x).1.ok with
  |false=>rw[hk]at z;exact(GH (λρ=>rfl) z).elim
  |true=>rw[hk]at z;exact⟨rfl,U7 z⟩
 have hb':∀C s H fp,PG (AU X N sc C s H fp) tg (gT W g)/\PE (AU X N sc C s H fp) elt (tG W NX (rV W) (ev cf mt e))/\Uv (AU X N sc C s H fp) ifs (tG W NX rB (Ht cf mt cs)):=λC s H fp=>⟨(hb C s H fp).1,(hb C s H fp).2.1.v,WS (hb C s H fp).2.2 hl⟩
 have v:PE X (.ListComp elt [⟨tg,it,ifs,0⟩] sc pos) (tG W NX (rV W) (ev cf mt (.comp g (AV x).1 (AV x).2 cs e fr))):=λpins s σ H Q I z=>by
  obtain⟨hk,z⟩:=hv σ H Q z;exact Pa N fr hc ok (h1.i hk tg) hb' (FH h1.st _) pins s σ H Q I z
 have h:PE X (.ListComp elt [⟨tg,it,ifs,0⟩] sc pos) (tG W NX (EA W) (BA (.comp g (AV x).1 (AV x).2 cs e fr) (ev cf mt (.comp g (AV x).1 (AV x).2 cs e fr)))):=Aj v λσ H Q z=>LR z
 refine⟨v,h,Ek (OT hK h λ_=>rfl) λσ H Q z=>Lh ?_,λz=>(by cases z),rfl,λ_ tg'=>?_,λi y py spos hN hy hx hf=>?_,λ_=>⟨_,_,_,_,rfl⟩,λu z=>(by cases z),λu w z=>(by cases z)⟩
 .rw[show(λρ=>(BA (.comp g (AV x).1 (AV x).2 cs e fr) (ev cf mt (.comp g (AV x).1 (AV x).2 cs e fr)) ρ).bind λh ρ=>Res.of ((h.cont ρ).bind CH) ρ)=tv cf mt (.comp g (AV x).1 (AV x).2 cs e fr)from funext λρ=>by
    show(((den cf mt (.comp g (AV x).1 (AV x).2 cs e fr)).v ρ).bind _).bind _=(den cf mt (.comp g (AV x).1 (AV x).2 cs e fr)).b ρ;unfold den
    rfl]
  exact z
 .show PI X tg' _ (N2 W NX .op (A9 cf mt [.comp g (AV x).1 (AV x).2 cs e fr]));rw[DT];exact Mp hK hw h
 .have hs:swapsWith (.ListComp elt [⟨tg,it,ifs,0⟩] sc pos) (some (.Name y py)) spos.line X.env=pure (X.env.blockKind == .function && X.env.kindOf y == some .local && py.line == pos.line && !(sc.names.any λ(n,k)=>n == y && (k == .local || k == .cell))):=rfl;cases hbo:(X.env.blockKind == .function && X.env.kindOf y == some .local && py.line == pos.line && !(sc.names.any λ(n,k)=>n == y && (k == .local || k == .cell)))with
  |false=>
    rw[hbo]at hs;exact GW hN hy hx v hs hf
  |true=>
    rw[hbo]at hs
    have hl':X.env.scope.names.lookup y=some .local:=by
     simp only[bA]at hbo;exact beq_iff_eq.mp hbo.1.1.2
    intro pins s σ H D I z;obtain⟨hk,z⟩:=hv σ H _ z;exact OX N fr hN hy hl' hc ok (h1.i hk tg) hb' hs (FH h1.st _) pins s σ H D I z
theorem TY(o:T)(ts:List T)(ρ:Env):ev cf mt (.Q9 o ts) ρ=match placeOf o with
 |some h=>if XD (h.cont ρ) && (!h.E9 || ts.all T.calm)then(A9 cf mt ts ρ).bind λhs ρ=>bH h hs ρ else .stuck
 |none=>.stuck:=by
 show(den cf mt (.Q9 o ts)).v ρ=_
 conv=>lhs;unfold den
 all_goals rfl
end
theorem FU(x:Str):∀l:List Str,AM (l++[x])=if l.contains x then AM l else AM l + 1
 |[]=>rfl
 | a ::l=>by
   have ih:=FU x l;rw[cons_append];have e1:AM (a::(l++[x]))=if(l++[x]).contains a then AM (l++[x])else AM (l++[x])+1:=rfl
   have e2:AM (a::l)=if l.contains a then AM l else AM l+1:=rfl
   rw[e1,e2,ih]
   by_cases hax:x=a
   .subst hax;simp
   .have hxa:¬a=x:=λz=>hax z.symm
    by_cases h1:a∈l<;>by_cases h2:x∈l<;>simp[h1,h2,hax,hxa]
variable{prog:Program}{w:World}{A:Around}{R:Result->Shared->Prop}{E:Value->Shared->Prop}{s:Shared}
abbrev Ed(prog:Program)(w:World)(h:Heap)(S:Addr)(l:List Str):Prop:=h.SetOf (PySem.strKind prog w) S (λk=>l.contains k) (AM l)
theorem I9:∀l:List Str,AM l<=l.length
 |[]=>lR
 | a::l=>by
   have:=I9 l;show(if l.contains a then AM l else AM l+1)<=l.length+1;split<;>lia
theorem take_snoc{l:List Str}{i:Nat}{x:Str}(h:l[i]? =some x):l.take (i + 1)=l.take i++[x]:=by
 rw[List.take_add_one,h];rfl
theorem Gg{I S ax:Addr}{items:Array Value}{ks:List Str}(hSI:S≠I)(hSa:S≠ax)(haI:ax≠I)(hh:A.in1.handled=none)(hk:∀(i:Nat) (v:Value),items[i]? =some v->∃x t,ks[i]? =some x/\v= .str x t)(hl:ks.length=items.size)(hb:items.size + 1 < scanBound):
 ∀ (m i:Nat) (s:Shared),items.size - i=m->i<=items.size->s.heap.IsTupleIter I ax i->s.heap.IsTuple ax items->Ed prog w s.heap S (ks.take i)->
   (∀h' tk,(∀b o,b≠S->b≠I->s.heap.get? b=some o->h'.get? b=some o)->Ed prog w h' S ks->R (.ok (.ret .none)) {s with heap:=h',toks:=tk})->
   codeAny (model prog w) A (.builtin "set.update.loop" ⟨[.ref S,.ref I],[]⟩) R s:=by
 have W:=Walks.tuple (prog:=prog) (w:=w) hh I ax haI items;have mv:∀{h h':Heap} {l:List Str},(∀o,h.get? S=some o->h'.get? S=some o)->Ed prog w h S l->Ed prog w h' S l:=λ{h h' l} k ⟨o,es,ep,t,ho,r⟩=>⟨o,es,ep,t,k o ho,r⟩
 intro m
 induction m with
 |zero=>
   intro i s hm hi hit htu hS hR;have hin:i=items.size:=by lia
   subst hin;refine codeAny_builtin F.entry_set_update_loop ?_;rw[Around.under_plainId F.plain_set_update_loop _];show wpAny _ A.in1 (pyNext (.ref I) >>= _) _ _ s;refine wB (W.done s _ _ ⟨hit,htu⟩ λh' tk k=>?_);show wpAny _ A.in1 (ret Value.none) _ _ _;refine wP (hR h' tk (λb o h1 h2 e=>k b o (by simpa using h2) e) ?_);rw[<-hl,List.take_length]at hS;exact mv (λo e=>k S o (by simpa using hSI) e) hS
 |succ m ih=>
   intro i s hm hi hit htu hS hR;have hlt:i < items.size:=by lia
   refine codeAny_builtin F.entry_set_update_loop ?_;rw[Around.under_plainId F.plain_set_update_loop _];show wpAny _ A.in1 (pyNext (.ref I) >>= _) _ _ s;refine wB (W.item i s _ _ hlt ⟨hit,htu⟩ λv h1 tk hv st k=>?_);obtain⟨x,t,hx,rfl⟩:=hk i v hv;have hS1:=mv (λo e=>k S o (by simpa using hSI) e) hS;show wpAny _ A.in1 (holding [Value.str x t] (setAdd S (.str x t)) >>= _) _ _ _;refine wB (wpAny_holding ?_);unfold setAdd;refine wpAny_holding ?_
   have hkey:(PySem.strKind prog w).is x (.str x t)=true:=by
    show Value.isStrOf x (.str x t)=true;simp[Value.isStrOf]
   refine wB ((PySem.strKind prog w).pyHash (k:=x) hkey ?_)
   have hroom:AM (ks.take i) + 1 < scanBound:=by
    have:=I9 (ks.take i);rw[length_take]at this
    lia
   refine wpAny_setAddHashed_of (knd:=PySem.strKind prog w) (s:={s with heap:=h1,toks:=tk+1}) hkey rfl hS1 hroom λh2 hsb hS2=>?_
   have hS3:Ed prog w h2 S (ks.take (i + 1)):=by
    rw[take_snoc hx];refine SetOf_congr hS2 (λk'=>?_) ?_
    .simp[List.contains_eq_mem,Bool.or_comm,eq_comm]
    .rw[FU]
   have kp:∀b o,b≠S->b≠I->s.heap.get? b=some o->h2.get? b=some o:=λb o n1 n2 e=>by rw[hsb.2 b n1];exact k b o (by simpa using n2) e
   refine wP ⟨plainId_quiet F.plain_set_update_loop _,ih (i+1) _ (by lia) hlt (st.1.at λo e=>by rw[hsb.2 I hSI.symm];exact e) (st.2.at λo e=>by rw[hsb.2 ax hSa.symm];exact e) hS3 λh' tk' k' hS4=>?_⟩;exact hR h' tk' (λb o n1 n2 e=>k' b o n1 n2 (kp b o n1 n2 e)) hS4
end Iv
namespace PySem.F
theorem K1:isSubtype (.type "tuple") (.type "set")=pure false:=by rw[isSubtype_type];kernel_rfl
theorem IQ:isSubtype (.type "tuple") (.type "frozenset")=pure false:=by rw[isSubtype_type];kernel_rfl
end PySem.F
namespace Iv
open PySem L2 PyProof.Rows
abbrev OJ(led:Bool):Obj:={cls:=.type "set",dict:=none,data:=.set #[] 0 (.fresh 0 0 led)}
variable{prog:Program}{w:World}{A:Around}{E:Value->Shared->Prop}{s:Shared}
variable{ax:Addr}{ks:List Str}
theorem RL{S:Addr}{led:Bool}{items:Array Value}{Q:Value->Shared->Prop}(hh:A.handled=none)(hS:s.heap.get? S=some (OJ led))(hSl:S≠ax)(ht:s.heap.IsTuple ax items)
 (hk:∀(i:Nat) (v:Value),items[i]? =some v->∃x t,ks[i]? =some x/\v= .str x t)(hl:ks.length=items.size)(hb:items.size+1 < scanBound)
 (h:∀h' tk,(∀b o,b≠S->b < s.heap.objs.size->s.heap.get? b=some o->h'.get? b=some o)->Ed prog w h' S ks->Q .none {s with heap:=h',toks:=tk}):
 wpAny (model prog w) A (Builtin.«set.__init__» ⟨[.ref S,.ref ax],[]⟩) (λfin s'=>∃r,fin= .done (.ret r)/\Q r s') E s:=by
 have hT:s.TypeIs (.ref S) "set":=⟨_,hS,rfl⟩;have hTt:s.TypeIs (.ref ax) "tuple":=ht.typeIs;have hls:=F.K1;have hlf:=F.IQ;unfold Builtin.«set.__init__» noKeywords Builtin.Frozenset.updateFrom;generalize hPI:pyIter=PI
 wp_walk
 subst hPI;refine wpAny_pyIter_tuple ht ?_;refine wB (wpAny_runValue ?_);have hlt:S < s.heap.objs.size:=Heap.lt_size hS;obtain⟨ot,hot,r⟩:=ht;have hax:ax < s.heap.objs.size:=Heap.lt_size hot;refine Gg (A:=A) (ks:=ks) (items:=items) (ax:=ax) (Nat.ne_of_lt hlt) hSl (Nat.ne_of_lt hax) (by simp[hh]) hk hl hb items.size 0 _ (by lia) (Nat.zero_le _) ?_ ?_ ?_ λh' tk k hS'=>?_
 .exact⟨_,Heap.get?_push_size _ rfl,rfl,rfl⟩
 .exact⟨ot,gP hot,r⟩
 .exact SetOf_congr ((setObjOf_fresh (knd:=PySem.strKind prog w) led).setOf (gP hS) (by unfold scanBound;lia)) (λ_=>rfl) rfl
 .show wpAny _ _ _ _ _ _;refine wP ?_;show wpAny _ _ (ret Value.none) _ _ _;exact wP ⟨_,rfl,h h' tk (λb o n1 n2 e=>k b o n1 (Nat.ne_of_lt n2) (gP e)) hS'⟩
theorem RM{items:Array Value}{Q:Value->Shared->Prop}(hh:A.handled=none)(ht:s.heap.IsTuple ax items)
 (hk:∀(i:Nat) (v:Value),items[i]? =some v->∃x t,ks[i]? =some x/\v= .str x t)(hl:ks.length=items.size)(hb:items.size+1 < scanBound)
 (h:∀h' tk,(∀b o,s.heap.get? b=some o->h'.get? b=some o)->Ed prog w h' s.heap.objs.size ks->Q (.ref s.heap.objs.size) {s with heap:=h',toks:=tk}):
 wpAny (model prog w) A (call (.type "set") [.ref ax]) Q E s:=by
 obtain⟨c,tl,hmro⟩:=F.called_set.mro;have hmade:=F.called_set.made;have hsub:=F.called_set.sub;have h1:=F.called_set.notType;have h2:=F.called_set.canCreate;have hct:=F.typeCall_set_1 (.ref ax);refine wpAny_call (codeAny_of_tree ?_);show wpAny _ _ (callAny (.type "set") _) _ _ _;refine wP ⟨Code.quiet_builtin _ (by decide +kernel),codeAny_builtin F.entry_type_call ?_⟩;rw[Around.under_plain (weight_type_call_type "set" [.ref ax] []) rfl]
 repeat (any_goals (first|assumption|wp_step))
 refine codeAny_mono (code_set_new_1 (.ref ax) (E:=E) (Q₁:=λobj s₁=>∃led:Bool,obj= .ref s.heap.objs.size/\s₁={s with heap:=s.heap.push (OJ led)}) λled=>⟨led,rfl,rfl⟩) λr s₁ hr=>?_
 cases r with
 |error e=>exact hr
 |ok fl =>
   cases fl with
   |next=>exact hr.elim
   |brk=>exact hr.elim
   |cont=>exact hr.elim
   |ret obj=>
     obtain⟨led,rfl,rfl⟩:=hr;have hS:(s.heap.push (OJ led)).get? s.heap.objs.size=some (OJ led):=Heap.get?_push_size _ rfl;have hT:Shared.TypeIs {s with heap:=s.heap.push (OJ led)} (.ref s.heap.objs.size) "set":=⟨_,hS,rfl⟩;have hli:=F.called_set.init.lookup;have hbi:=F.called_set.init.bind (.ref s.heap.objs.size);obtain⟨ot,hot,rt⟩:=ht;have hax:ax < s.heap.objs.size:=Heap.lt_size hot
     repeat (any_goals (first|assumption|wp_step))
     refine codeAny_mono (codeAny_call_builtin (R:=wants (λr s₂=>r= .none/\∃h' tk,s₂={s with heap:=h',toks:=tk}/\Ed prog w h' s.heap.objs.size ks/\∀b o,s.heap.get? b=some o->h'.get? b=some o) E) F.called_set.init.plain F.entry_set_init (check_set_init_1 hT ?_)) λr₂ s₂ hr₂=>?_
     .refine wpAny_mono (RL (E:=E) (A:=A.in1.in1) (led:=led) (Q:=λr s₂=>r= .none/\∃h' tk,s₂={s with heap:=h',toks:=tk}/\Ed prog w h' s.heap.objs.size ks/\∀b o,s.heap.get? b=some o->h'.get? b=some o) (by simp[hh]) hS (Nat.ne_of_gt hax) ⟨ot,gP hot,rt⟩ hk hl hb λh' tk k hS'=>?_) (λfin s' ⟨r,e,q⟩=>?_) λe s' z=>z
      .refine⟨rfl,h',tk,rfl,hS',λb o e=>?_⟩;have hbl:=Heap.lt_size e;exact k b o (Nat.ne_of_lt hbl) (by rw[Heap.size_push];exact Nat.lt_succ_of_lt hbl) (gP e)
      .subst e;exact q
     .cases r₂ with
      |error e=>exact hr₂
      |ok fl₂=>
        cases fl₂ with
        |ret r=>
          obtain⟨rfl,h',tk,rfl,hS',hk'⟩:=hr₂
          repeat (any_goals (first|assumption|wp_step))
          exact h _ _ hk' hS'
        |_=>exact hr₂.elim
def SX(P:Program)(w:World)(a:Addr)(l:List Str):HO:=.ext λh=>Ed P w h a l
section
variable{X:Cx}{W:Wd}{cf:CF}{mt:MT}
theorem Me{H:Hp}:∀{ps:List P} {xs:List Str} {vs:List V} {us:List Value},strsOf ps=some xs->A2 W H ps vs->Vals vs us->xs.length=us.length/\∀(i:Nat) (u:Value),us[i]? =some u->∃x t,xs[i]? =some x/\u= .str x t
 | [],xs,vs,us,e,h,r=>by
   cases e;have h:vs=[]:=h;subst h;cases r;exact⟨rfl,λi u z=>by simp at z⟩
 | .str x::ps,xs,vs,us,e,h,r=>by
   obtain⟨ys,e1,rfl⟩:=oM (show(strsOf ps).map (x::·)=some xs from e);obtain⟨v,vs',rfl,h1,h2⟩:=h;have h1:=A6.mp h1;subst h1;cases r with
   |@cons _ u _ us' r1 r2=>
     obtain⟨t,rfl⟩:=r1;obtain⟨g1,g2⟩:=Me e1 h2 r2;refine⟨by simp[g1],λi u z=>?_⟩
     match i,z with
     |0,z=>cases z;exact⟨x,t,rfl,rfl⟩
     |i+1,z=>exact g2 i u z
 |.Az::_,_,_,_,e,_,_=>by cases e
 |.bl _::_,_,_,_,e,_,_=>by cases e
 |.int _::_,_,_,_,e,_,_=>by cases e
 |.tup _::_,_,_,_,e,_,_=>by cases e
 |.fn _::_,_,_,_,e,_,_=>by cases e
def WD(W:Wd)(X:Cx):List V->Hp->VK->Prop:=λxs H Q=>∃x ps l,xs=[x]/\Ay W H (.tup ps) x/\strsOf ps=some l/\l.length < 4000/\∀p,H p=none->Q (.ref p) (upd H p (SX X.prog X.w p l))
theorem cE(hK:W.K=X.K)(hc:X.calm=true):B5 X (.type "set") (WD W X):=by
 intro pins s σ H xs us Q I r h;obtain⟨x,ps,l,rfl,h1,h2,h3,q⟩:=h;obtain⟨a,vs,rfl,h4,h5⟩:=Ah.mp h1;obtain⟨u,rfl,ru⟩:=vals1 r;cases ru;obtain⟨its,r2,pl,_⟩:=I.tuple (hK▸h4);obtain⟨g1,g2⟩:=Me h2 h5 r2;refine RM (ks:=l) (items:=its.toArray) (I.ok.hd hc) pl (λi v e=>g2 i v (by simpa using e)) (by simpa using g1) (by unfold scanBound;simp only[size_toArray];lia) λh' tk k hS=>?_
 refine⟨.ref s.heap.objs.size,upd H s.heap.objs.size (SX X.prog X.w s.heap.objs.size l),I.laid k (lR) ⟨hS,?_,λh1 h2 ⟨o,es,ep,t,ho,r⟩ k=>⟨o,es,ep,t,k o ho,r⟩⟩,rfl,q _ (I.Ak.fresh (lR))⟩;obtain⟨o,es,ep,t,ho,_⟩:=hS;exact⟨o,ho⟩
def au(X:Cx):List V->Hp->VK->Prop:=λxs H Q=>∃p l,xs=[.ref p]/\H p=some (SX X.prog X.w p l)/\Q (.int (AM l)) H
theorem Yf:B5 X (.builtin "len") (au X):=by
 intro pins s σ H xs us Q I r h;obtain⟨p,l,rfl,h1,q⟩:=h;obtain⟨u,rfl,ru⟩:=vals1 r;cases ru;obtain⟨⟨o,es,ep,t,ho,hex,hd,_,_,hb,hf,hn⟩,_⟩:=(show BM X.prog X.w H s.heap p (SX X.prog X.w p l)from I.Ak p _ h1);refine call_len_set ho hex hd hf (by unfold scanBound at hb;lia) ⟨.int (AM l),H,I.tok _,⟨s.toks+1,by rw[hn]⟩,q⟩
theorem Yn:bootBuiltins "set"=some (.type "set"):=rfl
theorem Lk(hK:W.K=X.K)(hw:W.w=X.w)(hc:X.calm=true)(hg:Gl X "len")(hm:X.mg "len"=none)(hg2:Gl X "set")(hm2:X.mg "set"=none){p q pos:Pos}(h:Aq X W cf mt l t):
 Aq X W cf mt (.Call (.Name "len" p) [.Call (.Name "set" q) [l] [] p2] [] pos) (.prim .Dz [t]):=by
 obtain⟨ta,q1,q2,m1⟩:=H9 h;have pe1:PE X (.Call (.Name "set" q) [l] [] p2) (dz (WD W X) (Bd ta Dn)):=I0 (cE hK hc) hg2 hm2 Yn (Ce q1 El (Aa h.st [] _)) (by decide) (by decide) (Aa h.st [] _) (Bj (λe he=>by cases he) p2 _);have pa:PA X [.Call (.Name "set" q) [l] [] p2] (Bd (dz (WD W X) (Bd ta Dn)) Dn):=Ce pe1 El (Aa rfl [] _);refine Aq.of hK hw AE AX rfl rfl (Aj (GY Yf hg hm QF pa (by decide) (by decide) (Aa rfl [] _) (Bj (λe he=>by cases he) pos _)) λσ H Q z=>?_) (λ_=>rfl) rfl;have z:=AY (o:=.Dz) rfl z;rw[q2]at z;refine m1 _ _ _ _ z λu H1 z=>?_
 obtain⟨c,r,g1,g2,g3⟩:=Cm (g:=Av .Dz) (g1:=EV) (λ_=>rfl) z;unfold EV at g2;obtain⟨xs,e1,e2⟩:=oB g2;obtain⟨ps,e3,e4⟩:=oB e1;split at e2
 case isFalse=>cases e2
 rename_i hl;cases e2;cases c with
 |obj _ _=>cases e3
 |b y =>
   cases y with
   |p y=>
     cases y with
     |tup qs=>
       cases e3;refine⟨u,ps,xs,rfl,g1,e4,hl,λa ha=>⟨a,xs,rfl,Ar,?_⟩⟩;exact g3 _ _ [] (λb x e=>by rw[Ab λz=>by rw[z,ha]at e;cases e];exact e) ⟨A4.mpr rfl,rfl⟩ .nil (λ_ z=>by cases z)
     |_=>cases e3
   |_=>cases e3
end
section
variable{X:Cx}{W:Wd}{cf:CF}{mt:MT}
theorem GV{st:Stmt}{as:List Nat}{F:Env->Res Fl}(hF:∀ρ,F ρ= .stuck):PS X st (tS W NX as F):=λ_ _ _ _ _ _ h=>by
 obtain⟨ρ,os,hR,hn,hA⟩:=h;rw[hF]at hA;exact False.elim hA
end
section
variable{X:Cx}{W:Wd}{cf:CF}{mt:MT}
variable{H:Hp}
theorem Ba.put{ob:List Addr}(hb:Bt W H b y ob):∀{fs:List (Str×B)} {vs:List (Str×V)} {o:List Addr},Ba W H fs vs o->(o++ob).Nodup->∃o',Ba W H (Iv.Bf f b fs) (L2.Bf f y vs) o'/\o'.Nodup/\∀a∈o',a∈o++ob
 | [],_,_,⟨e1,e2⟩,hn=>by
   subst e1 e2;exact⟨ob++[],⟨y,[],ob,[],rfl,hb,⟨rfl,rfl⟩,rfl⟩,by simpa using hn,λa ha=>by simpa using ha⟩
 | (g, c)::fs,_,_,⟨v,r,o1,o2,e1,h1,h2,e2⟩,hn=>by
   subst e1 e2;have hn':(o1++(o2++ob)).Nodup:=by rw[<-append_assoc];exact hn
   have n1:=nA hn';unfold Iv.Bf L2.Bf
   by_cases hg:g=f
   .rw[iP hg,iP hg];refine⟨ob++o2,⟨y,r,ob,o2,rfl,hb,h2,rfl⟩,(perm_append_comm.nodup_iff).mp n1.2.1,λa ha=>?_⟩;rcases mem_append.mp ha with z|z
    .exact mR z
    .exact mL (mR z)
   .rw [iN hg,iN hg];obtain⟨o',q1,q2,q3⟩:=Ba.put hb h2 n1.2.1;refine⟨o1++o',⟨v,_,o1,o',rfl,h1,q1,rfl⟩,?_,λa ha=>?_⟩
    .rw[nodup_append];exact⟨n1.1,q2,λa ha b hb z=>n1.2.2 a ha b (q3 b hb) z⟩
    .rcases mem_append.mp ha with z|z
     .exact mL (mL z)
     .rcases mem_append.mp (q3 a z)with y|y
      .exact mL (mR y)
      .exact mR y
theorem Ba.len:∀{fs:List (Str×B)} {vs:List (Str×V)} {o:List Addr},Ba W H fs vs o->vs.length=fs.length
 |[],_,_,h=>by rw[h.1];rfl
 |(g,c)::fs,_,_,⟨v,r,o1,o2,e1,h1,h2,e2⟩=>by rw[e1,lC,lC,Ba.len h2]
theorem PQ{a C dx:Addr}{fs:List (Str×V)}{x':HO}(h:H a=some (.ins C dx fs)):AK H (upd H a x'):=λb=>by
 by_cases hb:b=a
 .subst hb;refine⟨λxs z=>?_,λo u z=>?_⟩
  .rw[h]at z;cases z
  .rw[h]at z;cases z
 .rw[Ab hb];exact⟨λ_ z=>z,λ_ _ z=>z⟩
theorem TL(i:Nat)(f:Str)(v:T)(ρ:Env):exec cf mt A1 (.GR i f v) ρ=(ev cf mt v ρ).bind λv ρ=>HW mt i f v ρ:=by
 conv=>lhs;unfold exec
variable{spos:Pos}{val:Expr}
theorem So(hK:W.K=X.K)(hF:∀c f,mt.f c f=true->By X.K (W.C3 c) f){f:Str}{apos:Pos}{i:Nat}(hx:PE X (.Name x p) (Fq i))(hv:Aq X W cf mt val v):
 PS X (.Assign [.Attribute (.Name x p) f apos] val spos) (tS W NX [] (exec cf mt A1 (.GR i f v))):=by
 refine CK (WO hx hv.v (by cases val<;>rfl)) λD σ H z=>?_
 obtain⟨ρ,os,hR,hn,hA⟩:=z;rw[TL]at hA;refine⟨ρ,os,hR,hn,after hR hA λc ρ1 y H1 o1 os1 r1 r2 r3 r4 r5=>?_⟩;unfold HW at r5;cases hg:A7 ρ1 i with
 |none=>rw[hg]at r5;exact False.elim r5
 |some d=>
   rw[hg]at r5;cases d with
   |b _=>exact False.elim r5
   |obj kk fs=>
     cases c with
     |obj _ _=>exact False.elim r5
     |b b =>
       dsimp only at r5;split at r5
       case isFalse=>exact False.elim r5
       rename_i hc;rw[bA]at hc;have r5:∀σ' H' os',A5 W H' (ρ1.set i (some (.obj kk (Iv.Bf f b fs)))) σ' os'->os'.Nodup->AR H1 H' (o1++os1) os'->AQ [] σ σ'->D.nx σ' H':=r5;obtain⟨vv,oi,osr,t1,t2,t3,t4⟩:=r2.take hg;obtain⟨a,dx,vs,osf,rfl,q1,q2,rfl,q4⟩:=t2;have n3:=nA r3;have nd:=nA (t4.nodup_iff.mpr n3.2.1);have nf:=nodup_cons.mp nd.1;have ha1:a∈os1:=t4.subset (mL mS);have no:By X.K (W.C3 kk) f:=hF kk f hc.1;refine⟨.ref a,t1,a,W.C3 kk,dx,vs,rfl,q1,hK▸q4.1,no,by rw[q2.len];have:=of_decide_eq_true hc.2;lia,?_⟩;have kp:AK H1 (upd H1 a (.ins (W.C3 kk) dx (L2.Bf f y vs))):=PQ q1;have bt:JP [a] H1 (upd H1 a (.ins (W.C3 kk) dx (L2.Bf f y vs))):=Dh mS;have fr1:=q2.frame kp bt (λb hb z=>nf.1 (by rw[<-mE z];exact hb));have fb:Bt W (upd H1 a (.ins (W.C3 kk) dx (L2.Bf f y vs))) b y o1:=Bt.frame r1 kp bt λb hb z=>n3.2.2 b hb a ha1 (mE z)
       have fr3:=t3.frame (t3.tb.upd kp q1 rfl) kp bt λb hb z=>nd.2.2 a mS b hb (mE z).symm
       have dis:∀b∈osf,b∈os1:=λb hb=>t4.subset (mL (mC hb))
       obtain⟨o',g1,g2,g3⟩:=Ba.put (f:=f) fb fr1 (by
        rw[nodup_append]
        exact⟨nf.2,n3.1,λb hb d hd z=>n3.2.2 d hd b (dis b hb) z.symm⟩)
       have ha':a∉o':=λz=>by
        rcases mem_append.mp (g3 a z)with y|y
        .exact nf.1 y
        .exact n3.2.2 a y a ha1 rfl
       obtain⟨os2,u1,u2⟩:=A5.fill (c:=.obj kk (Iv.Bf f b fs)) (v:=.ref a) (o:=a::o') ⟨a,dx,_,o',rfl,Ar,g1,rfl,q4.put (hK▸no)⟩ fr3 (Bi (BW hg)) (by rw[length_set];exact BW hg);rw[set_set,set_same t1]at u1
       have nd2:((a::o')++osr).Nodup:=by
        rw[nodup_append];refine⟨nodup_cons.mpr ⟨ha',g2⟩,nd.2.1,λb hb d hd z=>?_⟩;subst z;rcases mK hb with y|y
        .exact nd.2.2 a mS b hd y.symm
        .rcases mem_append.mp (g3 b y)with w|w
         .exact nd.2.2 b (mC w) b hd rfl
         .exact n3.2.2 b w b (t4.subset (mR hd)) rfl
       refine r5 σ _ os2 u1 (u2.nodup_iff.mpr nd2) ⟨Dh (mR ha1),λb hb=>.inl ?_,λb x e=>?_⟩ (AQ.refl _ _)
       .rcases mem_append.mp (u2.subset hb)with y|y
        .rcases mK y with w|w
         .rw[w];exact mR ha1
         .rcases mem_append.mp (g3 b w)with u|u
          .exact mR (dis b u)
          .exact mL u
        .exact mR (t4.subset (mR y))
       .by_cases hba:b=a
        .subst hba;exact⟨_,Ar⟩
        .exact⟨x,by rw[Ab hba];exact e⟩
theorem TR(is:List Nat)(t:T)(ρ:Env):exec cf mt A1 (.asg (.tup is) t) ρ=(BA t (ev cf mt t) ρ).bind λh ρ=>Res.of ((h.cont ρ).bind λc=>K8 (.tup is) c ρ) ρ |>.bind λρ' _=>.ok .nx ρ':=by
 conv=>lhs;unfold exec
theorem TU(i:Nat)(t:T)(ρ:Env):exec cf mt A1 (.asg (.nm i) t) ρ=(ev cf mt t ρ).bind λc ρ=>.ok .nx (ρ.set i (some c)):=by
 conv=>lhs;unfold exec
theorem Ow{es:List Expr}{k:Nat}(h:LO e=false)(env:PySem.Env):swappedStores [.Tuple es k p] e env=pure none:=by
 cases e<;>first|rfl|cases h
theorem RO{es:List Expr}{k:Nat}{l:Nat}(env:PySem.Env):swapsWithSole [.Tuple es k p] e l env=pure false:=by
 show swapsWith e (some (.Tuple es k p)) l env=pure false;cases e<;>rfl
theorem Nj{es:List Expr}{k:Nat}{is:List Nat}(hg:PG X (.Tuple es k p) (gT W (.tup is)))(hi:∀i∈is,i < X.N.length)(hv:Aq X W cf mt val v)(hnt:LO val=false):
 PS X (.Assign [.Tuple es k p] val spos) (tS W NX is (exec cf mt A1 (.asg (.tup is) v))):=by
 intro pins s σ H D I z;refine WR hv.h hg (RO _) (Ow hnt _) rfl pins s σ H D I ?_;obtain⟨ρ,os,hR,hn,hA⟩:=z;rw[TR]at hA;refine⟨ρ,os,hR,hn,after hR hA λh ρ1 y H1 o1 os1 r1 r2 r3 r4 r5=>?_⟩;cases ec:h.cont ρ1 with
 |none=>rw[ec]at r5;exact False.elim r5
 |some c=>
   rw[ec]at r5;have r6:CO W NX is D σ H1 (o1++os1) ((Res.of (K8 (.tup is) c ρ1) ρ1).bind λρ' _=>.ok .nx ρ'):=r5;cases e2:K8 (.tup is) c ρ1 with
   |none=>rw[e2]at r6;exact False.elim r6
   |some ρ'=>
     rw[e2]at r6;have r7:∀σ' H' os',A5 W H' ρ' σ' os'->os'.Nodup->AR H1 H' (o1++os1) os'->AQ is σ σ'->D.nx σ' H':=r6;unfold K8 at e2;split at e2
     .rename_i e0;cases e0
     .rename_i is' vs e0;cases e0;have rp:Ay W H1 (.tup vs) y:=Fd r2 r1 ec;exact Qc (g:=.tup is) e2 rp r2 (nA r3).2.1 (λi hi'=>by rw[I.len];exact hi i hi') λσ' os' g1 g2 g3 g4=>r7 σ' H1 os' g1 g2 ((AR.refl _ _).sub λa ha=>mR (g3 a ha)) g4
     .cases e2
end
variable{X:Cx}{W:Wd}{pins:List (Addr×Obj)}{σ:L2.St}{H:Hp}
def VI:HO:=.ext λ_=>True
def grown(H:Hp)(P c:Addr)(oc:Obj)(ps:Array Value):Hp:=upd (upd H c (.La oc VI)) P (.JQ ps)
theorem Q8{P c:Addr}{oc:Obj}{ps more:Array Value}{h':Heap}{tk:Nat}(I:Inv X pins σ H s)(hP:H P=some (.JQ ps))(hc:s.heap.objs.size<=c)
 (hx:∀b o,b≠P->s.heap.get? b=some o->h'.get? b=some o)(hoc:h'.get? c=some oc)(hPn:h'.get? P=some {cls:=.none,data:=.fields (ps++more)}):
 Inv X pins σ (grown H P c oc (ps++more)) {s with heap:=h',toks:=tk}/\AK H (grown H P c oc (ps++more))/\∀os,AR H (grown H P c oc (ps++more)) os os:=by
 have hcn:H c=none:=I.Ak.fresh hc;have neP:∀b x,H b=some x->Ii x=false->b≠P:=λb x e n z=>by rw[z,hP]at e;cases e;cases n
 have nec:∀b x,H b=some x->b≠c:=λb x e z=>by rw[z,hcn]at e;cases e
 have hPc:P≠c:=nec P _ hP
 have same:∀b x,H b=some x->Ii x=false->grown H P c oc (ps++more) b=some x:=λb x e n=>by
  unfold grown;rw[Ab (neP b x e n),Ab (nec b x e)];exact e
 have lt:∀b o,s.heap.get? b=some o->b≠c:=λb o e z=>absurd (Nat.lt_of_lt_of_le (Heap.lt_size e) (z▸hc)) (Nat.lt_irrefl _)
 have neU:∀b,H b=none->b≠P:=λb n z=>by rw[z,hP]at n;cases n
 have there:∀b x,H b=some x->∃x',grown H P c oc (ps++more) b=some x':=λb x e=>by
  by_cases hb:b=P
  .exact⟨_,by rw[hb];exact Ar⟩
  .exact⟨x,by unfold grown;rw[Ab hb,Ab (nec b x e)];exact e⟩
 have kp:AK H (grown H P c oc (ps++more)):=λa=>⟨λxs e=>same a _ e rfl,λo u e=>same a _ e rfl⟩
 refine⟨I.un ⟨λb o e n hb _=>hx b o (neU b n) e,λb o e n hb _=>⟨o.slots,hx b o (neU b n) e⟩,λb o e n _=>?_,λb o e _=>?_,λb xs e=>same b _ e rfl,λb o u e=>same b _ e rfl,λb qs e=>?_⟩ (λa o e=>?_),kp,λos=>⟨λb x e _ n=>same b x e n,λa ha=>.inl ha,there⟩⟩
 .unfold grown;rw[Ab (neU b n),Ab (lt b o e)];exact n
 .by_cases hb:b=P
  .exact⟨_,by rw[hb];exact hPn⟩
  .exact⟨o,hx b o hb e⟩
 .by_cases hb:b=P
  .rw[hb,hP]at e;cases e;exact⟨more,by rw[hb];exact Ar⟩
  .exact⟨#[],by unfold grown;rw[Ab hb,Ab (nec b _ e),e];simp⟩
 .by_cases ha:a=P
  .subst ha;have e:grown H a c oc (ps++more) a=some o:=e;unfold grown at e;rw[Ar]at e;cases e;exact hPn
  .by_cases ha2:a=c
   .subst ha2;unfold grown at e;rw[Ab ha,Ar]at e;cases e;exact⟨hoc,trivial,⟨_,hoc⟩,λ_ _ _ _=>trivial⟩
   .have e0:H a=some o:=by
     unfold grown at e;rw[Ab ha,Ab ha2]at e;exact e
    refine(I.Ak a o e0).Lj (λb u hb q=>hx b u ?_ q) (λb q=>same b _ q rfl) λb xs q=>same b _ q rfl
    rcases hb with rfl|hb
    .exact ha
    .exact neP b _ hb rfl
variable{α β:Type}
theorem Ia:∀{l:List (α×β)} {p q:α×β},(l.map (·.1)).Nodup->p∈l->q∈l->p.1=q.1->p=q
 |[],_,_,_,h,_,_=>by cases h
 | x ::l,p,q,hn,hp,hq,e=>by
   rw[map_cons,nodup_cons]at hn;rcases mK hp with hp1|hp1
   .rcases mK hq with hq1|hq1
    .rw[hp1,hq1]
    .exact absurd (by rw[<-hp1,e];exact mem_map_of_mem hq1) hn.1
   .rcases mK hq with hq1|hq1
    .exact absurd (by rw[<-hq1,<-e];exact mem_map_of_mem hp1) hn.1
    .exact Ia hn.2 hp1 hq1 e
variable{sc:Scope}
theorem PN{as:Arguments}{lp:Pos}{P:Addr}{clos:List (Str×Addr)}{Q:Value->Shared->Prop}(I:Inv X pins σ H s)(tb:Di W H)(hnd:(W.tabs.map (·.1)).Nodup)(hq:(P,lp,X.env.qual++"<lambda>")∈W.tabs)
 (hdef:defaultsOf as X.env=([],[]))(hcl:closureFor sc X.env=pure clos)(hcode:X.env.code= .ref c)(C:CodeHd X.base c P)(hB:X.base.BuiltinsAt X.mg P)(hgP:mainGlobals≠P)
 (h:∀(c0 cc:Addr) (ctv:Value) (s':Shared) (H':Hp),Inv X pins σ H' s'->AK H H'->(∀os,AR H H' os os)->Di W H'->L7 H' (cc,X.env.qual++"<lambda>")->
   s'.heap.get? c0=some {cls:=.type "function",data:=.func (kla_fn "<lambda>" (X.env.qual++"<lambda>") as b sc clos ((X.mg "__name__").getD .none) (.ref cc) ctv)}->s.heap.objs.size<=c0->H' c0=none->
   (∀a o,s.heap.get? a=some o->H a=none->s'.heap.get? a=some o)->Q (.ref c0) s'):wpAny (model X.prog X.w) X.A (eval (.Lambda as b sc lp) X.env) Q X.xe s:=by
 obtain⟨ps,hP,ht,hcodes⟩:=tb.1 _ hq;have hPs:s.heap.get? P=some (tabObj ps):=I.Ak P _ hP;have hg:s.heap.Ns mainGlobals X.mg:=I.mod.glob.keeps I.bk;have hb:s.heap.BuiltinsAt X.mg P:=let⟨bm,o,q1,q2,q3,q4,q5,q6⟩:=hB;⟨bm,o,q1,q2,q3,q4,I.bk _ _ q5,q6⟩;refine PySem.W.kla_eval hdef ?_;cases hf:codeAmong lp ps.toList with
 |some cv=>
   obtain⟨cc,rfl,hcc⟩:=hcodes cv hf;refine PySem.W.kla_makeFunctionHit hcl I.ok.glob hg hcode (C.keeps I.bk) hPs ht hf hb λctv h' tk hk hsz=>?_
   have hk2:∀a o,s.heap.get? a=some o->(h'.push {cls:=.type "function",data:=.func (kla_fn "<lambda>" (X.env.qual++"<lambda>") as b sc clos ((X.mg "__name__").getD .none) (.ref cc) ctv)}).get? a=some o:=λa o e=>gP (hk a o e)
   exact h _ cc ctv _ H (I.kept hk2) (λa=>⟨λ_ e=>e,λ_ _ e=>e⟩) (λos=>AR.refl H os) tb hcc (Heap.get?_push_size _ rfl) hsz (I.Ak.fresh hsz) λa o e _=>hk2 a o e
 |none=>
   refine PySem.W.kla_makeFunction hcl I.ok.glob hg hcode (C.keeps I.bk) hPs ht hf hgP hb λc' ctv h' tk hx hge hlt hrec htb=>?_
   obtain⟨c2,oc,vs,t,e2,hoc,hd,hv⟩:=hrec;cases e2;have hk2:∀a o,a≠P->s.heap.get? a=some o->(h'.push (PySem.W.kla_obj "<lambda>" (X.env.qual++"<lambda>") as b sc clos ((X.mg "__name__").getD .none) c' ctv)).get? a=some o:=λa o n e=>gP (hx a o n e)
   obtain⟨g1,g2,g3⟩:=Q8 (c:=c') (oc:=oc) (tk:=tk) I hP hge hk2 (gP hoc) (gP htb);have hPc:P≠c':=λz=>by rw[z,I.Ak.fresh hge]at hP;cases hP
   have hszc:s.heap.objs.size<=h'.objs.size:=Nat.le_trans hge (Nat.le_of_lt hlt);have hcdn:L7 (grown H P c' oc (ps++ #[rawInt lp.line,rawInt lp.col,Value.ref c'])) (c',X.env.qual++"<lambda>"):=⟨oc,VI,vs,t,by unfold grown;rw[Ab hPc.symm];exact Ar,hd,hv⟩;refine h _ c' ctv _ _ g1 g2 g3 ⟨λq hq2=>?_,λq hq2=>(tb.2 q hq2).keep g2⟩ hcdn (Heap.get?_push_size _ rfl) hszc ?_ λa o e n=>hk2 a o (λz=>by rw[z,hP]at n;cases n) e
   .by_cases hqP:q.1=P
    .have eq:q=(P,lp,X.env.qual++"<lambda>"):=Ia hnd hq2 hq hqP;subst eq;have el:(ps++ #[rawInt lp.line,rawInt lp.col,Value.ref c']).toList=ps.toList++[rawInt lp.line,rawInt lp.col,Value.ref c']:=by simp
     refine⟨_,Ar,by rw[el];exact TriplesOk_snoc _ _ _ _ ht,λcv e=>?_⟩;rw[el]at e;have e:codeAmong lp (ps.toList++[rawInt lp.line,rawInt lp.col,Value.ref c'])=some cv:=e;rw[codeAmong_snoc _ ht hf]at e;cases e;exact⟨c',rfl,hcdn⟩
    .obtain⟨qs,k1,k2,k3⟩:=tb.1 q hq2;refine⟨qs,?_,k2,λcv e=>?_⟩
     .unfold grown;rw[Ab hqP,Ab λz=>by rw[z,I.Ak.fresh hge]at k1;cases k1];exact k1
     .obtain⟨d,j1,j2⟩:=k3 cv e;exact⟨d,j1,j2.keep g2⟩
   .unfold grown;rw[Ab λz=>?_,Ab (Nat.ne_of_gt hlt)]
    .exact I.Ak.fresh hszc
    .have:=I.Ak.lt hP;rw[<-z]at this;exact absurd (Nat.lt_of_lt_of_le this hszc) (Nat.lt_irrefl _)
noncomputable def baseOf(B h:Heap)(L:List Addr):Heap:=hideAll h ((List.range h.objs.size).filter λb=>(B.get? b).isNone && !L.contains b)
variable{h:Heap}
theorem Hz{B:Heap}(k:∀b o,B.get? b=some o->h.get? b=some o){b:Addr}{o:Obj}(e:B.get? b=some o):(baseOf B h L).get? b=some o:=
 hideAll_get _ (k b o e) λhm=>by
  have:=(mem_filter.mp hm).2;rw[e]at this;simp at this
variable{L:List Addr}
theorem II{B:Heap}{b:Addr}{o:Obj}(hb:b∈L)(e:h.get? b=some o):(baseOf B h L).get? b=some o:=
 hideAll_get _ e λhm=>by
  have:=(mem_filter.mp hm).2;simp[hb]at this
theorem IH{B:Heap}{o:Obj}(e:(baseOf B h L).get? b=some o):h.get? b=some o/\((∃o',B.get? b=some o')\/b∈L):=by
 have e':h.get? b=some o:=of_hideAll _ e;refine⟨e',?_⟩
 by_cases hb:b∈L
 .exact .inr hb
 .cases q:B.get? b with
  |some o'=>exact .inl ⟨o',rfl⟩
  |none=>
    have hm:b∈(List.range h.objs.size).filter λb=>(B.get? b).isNone && !L.contains b:=mem_filter.mpr ⟨mem_range.mpr (Heap.lt_size e'),by simp[q,hb]⟩
    have z:(baseOf B h L).get? b=none:=hideAll_none _ hm;rw[z]at e;cases e
theorem G2{B B':Heap}:∀{l:List PySem.Env},h.FunFrames B l->(∀b∈Lb l,B.get? b=none->B'.get? b=none)->h.FunFrames B' l
 |[],_,_=>trivial
 |env::l,⟨hk,⟨L,o,hf,hn,ho,hd⟩,hr⟩,k=>⟨hk,⟨L,o,hf,k L (by unfold Lb;rw[filterMap_cons,hf];exact mS) hn,ho,hd⟩,G2 hr λb hb=>k b (by
     unfold Lb at hb ⊢;rw[filterMap_cons,hf]
     exact mC hb)⟩
theorem NR(I:Inv X pins σ H s)(hL:∀b∈L,∃o,s.heap.get? b=some o/\H b=none)(hF:∀b∈L,b∉Lb X.stack):FO X.prog X.w X.K X.mg (baseOf X.base s.heap L) X.A X.stack s H:=by
 have k:∀b o,X.base.get? b=some o->(baseOf X.base s.heap L).get? b=some o:=λb o e=>Hz I.bk e
 have m:=I.mod;refine⟨I.ok.frames,⟨m.C6.keeps k,m.glob.keeps k,let⟨mb,h1,h2⟩:=m.blt;⟨mb,h1.keeps k,h2⟩,m.nolimit.keeps k⟩,λb o e=>?_,Nat.le_of_eq (hideAll_size _ _),G2 I.stack λb hb n=>?_,I.IS,I.Ak,I.bare⟩
 .obtain⟨e1,e2⟩:=IH e;rcases e2 with⟨o',e2⟩|e2
  .exact⟨e1,(I.bs b o' e2).2⟩
  .obtain⟨o',q1,q2⟩:=hL b e2;exact⟨e1,q2⟩
 .cases q:(baseOf X.base s.heap L).get? b with
  |none=>rfl
  |some o=>
    rcases(IH q).2 with⟨o',e2⟩|e2
    .rw[n]at e2;cases e2
    .exact absurd hb (hF b e2)
structure QZ(W W':Wd):Prop where
 K:W.K=W'.K
 w:W.w=W'.w
 C3:W.C3=W'.C3
 tabs:W.tabs=W'.tabs
variable{W W':Wd}
theorem QZ.symm(h:QZ W W'):QZ W' W:=⟨h.K.symm,h.w.symm,h.C3.symm,h.tabs.symm⟩
variable{W':Wd}
mutual
theorem DL (q:QZ W W'):∀{p:P} {v:V},noFn p=true->Ay W H p v->Ay W' H p v
 |.Az,_,_,h=>h
 |.bl _,_,_,h=>h
 |.int _,_,_,h=>h
 |.str _,_,_,h=>h
 |.fn _,_,n,_=>by cases (n:false=true)
 | .tup ps,v,n,h=>by
   obtain⟨a,vs,e,h1,h2⟩:=Ah.mp h;exact Ah.mpr ⟨a,vs,e,q.K▸h1,GU q n h2⟩
theorem GU (q:QZ W W'):∀{ps:List P} {vs:List V},Dx ps=true->A2 W H ps vs->A2 W' H ps vs
 |[],_,_,h=>h
 | p::ps,vs,n,h=>by
   have n:(noFn p && Dx ps)=true:=n;rw[bA]at n;unfold A2 at h ⊢;obtain⟨v,r,e,h1,h2⟩:=h;exact⟨v,r,e,DL q n.1 h1,GU q n.2 h2⟩
end
theorem Ej(q:QZ W W'):∀{fs:List (Str×B)} {vs:List (Str×V)} {o:List Addr},BD fs=true->Ba W H fs vs o->Ba W' H fs vs o/\o=[]
 |[],vs,o,_,h=>⟨h,h.2⟩
 | (f,b)::fs,vs,o,n,⟨v,r,o1,o2,e1,h1,h2,e⟩=>by
   cases b with
   |p x=>
     have n:(noFn x && BD fs)=true:=n;rw[bA]at n;obtain⟨g1,g2⟩:=Ej q n.2 h2;have h1:Ay W H x v/\o1=[]:=h1;refine⟨⟨v,r,o1,o2,e1,⟨DL q n.1 h1.1,h1.2⟩,g1,e⟩,?_⟩;rw[e,h1.2,g2];rfl
   |_=>cases (n:false=true)
theorem ON(q:QZ W W')(hc:∀c,W'.C3 (tag c)=W.C3 c){c:Nat}{fs:List (Str×B)}{a:Addr}(n:BD fs=true)(hs:W'.Nd=a)(h:B3 W H (.obj c fs) (.ref a) o):B3 W' H (.obj (tag c) fs) (.ref a) o/\o=[a]:=by
 obtain⟨a',dx,vs,os,e,h1,h2,h3,h4,h5,h6⟩:=h;cases e;obtain⟨g1,g2⟩:=Ej q n h2;refine⟨⟨a,dx,vs,os,rfl,by rw[hc];exact h1,g1,h3,?_,?_,λ_=>hs.symm⟩,by rw[h3,g2]⟩
 .rw[hc,<-q.K];exact h4
 .rw[hc,<-q.K];exact h5
theorem Lp(q:QZ W W')(hc:∀c,W'.C3 (tag c)=W.C3 c){c:Nat}{fs:List (Str×B)}(n:BD fs=true)(hs:1000<=c->W'.Nd=W.Nd)(h:B3 W' H (.obj (tag c) fs) v o):B3 W H (.obj c fs) v o/\v= .ref W'.Nd/\o=[W'.Nd]:=by
 obtain⟨a,dx,vs,os,rfl,h1,h2,h3,h4,h5,h6⟩:=h;obtain⟨g1,g2⟩:=Ej q.symm n h2;have ha:a=W'.Nd:=h6 (by unfold tag;split<;>lia);subst ha;refine⟨⟨W'.Nd,dx,vs,os,rfl,by rw[<-hc];exact h1,g1,h3,?_,?_,λz=>hs z⟩,rfl,by rw[h3,g2]⟩
 .rw[<-hc,q.K];exact h4
 .rw[<-hc,q.K];exact h5
theorem N9(q:QZ W W')(hc:∀r∈W'.Zi,L7 H r)(h:Di W H):Di W' H:=⟨λr hr=>h.1 r (q.tabs▸hr),hc⟩
noncomputable def KN(P:Program)(w:World)(K:PySem.W.Frag)(mg:Str->Option Value)(base:Heap)(N:List Str)(qual:Str)(scope:Scope)(f:Addr)(cd:Value)(cl:List (Str×Addr))(A:Around)(outer:List PySem.Env)(s:Shared)(H:Hp):Cx where
 prog:=P
 w:=w
 K:=K
 mg:=mg
 base:=base
 A:=A.deeper (envX qual scope s.heap.objs.size f cd cl)
 N:=N
 s₀:=s
 H₀:=H
 env:=envX qual scope s.heap.objs.size f cd cl
 outer:=outer
 stack:=envX qual scope s.heap.objs.size f cd cl::outer
 ex:=[]
 calm:=true
 fn:=λ_=>false
 pn:=[]
 xe:=λ_ _=>False
structure R3(N:List Str)(sc:Scope)(cl:List (Str×Addr)):Prop where
 kind:sc.kind= .function
 co:sc.isCoroutine=false
 gen:sc.isGenerator=false
 Dw:∀x∈sc.names,x.2≠.cell
 free:∀x,sc.names.lookup x≠some .local
 inj:∀x y c,cl.lookup x=some c->cl.lookup y=some c->x=y
 has:∀x,sc.names.lookup x=some .free->∃c,cl.lookup x=some c
section
variable{P:Program}{K:PySem.W.Frag}{mg:Str->Option Value}{base:Heap}
theorem Dy{k:NameKind}:∀{l:List (Str×NameKind)},l.lookup x=some k->∃y∈l,y.2=k
 |[],h=>by simp at h
 | (y,j)::l,h=>by
   rw[lookup_cons]at h;cases hb:x == y with
   |true=>rw[hb]at h;cases h;exact⟨_,mS,rfl⟩
   |false=>rw[hb]at h;obtain⟨z,h1,h2⟩:=Dy h;exact⟨z,mC h1,h2⟩
variable{N:List Str}{qual:Str}{sc:Scope}{A:Around}{s:Shared}{H:Hp}{vs:List V}
theorem Tr{cd:Value}{cl:List (Str×Addr)}{outer:List PySem.Env}{h':Heap}{tk:Nat}(S:R3 N sc cl)(hd:A.handled=none)(e0:FO P w K mg base A outer s H)
 (hcell:∀x c,cl.lookup x=some c->∃u,base.IsCell c (some u))(hvs:vs.length=N.length)(hv:∀(i:Nat) (x:Str) (v:V),N[i]? =some x->vs[i]? =some v->∃c u,cl.lookup x=some c/\base.IsCell c (some u)/\RelV v u)
 (hns:h'.Ns s.heap.objs.size λ_=>none)(hsb:∀b o,s.heap.get? b=some o->h'.get? b=some o):
 Inv (KN P w K mg base N qual sc f cd cl A outer s H) [] (vs.map some) H {s with heap:=h',toks:=tk}:=by
 have bk:∀b o,base.get? b=some o->h'.get? b=some o:=λb o e=>hsb b o (e0.bs b o e).1
 have cellk:∀{c:Addr} {u:Value},base.IsCell c (some u)->h'.IsCell c (some u):=λ{c u} ⟨o,ho,hd⟩=>⟨o,bk _ _ ho,hd⟩
 have cellf:∀{c:Addr} {u:Value},base.IsCell c (some u)->H c=none:=λ{c u} ⟨o,ho,_⟩=>(e0.bs _ _ ho).2
 have frsz:∀b∈Lb outer,b≠s.heap.objs.size:=λb hb z=>by
  obtain⟨_,o,ho,_⟩:=e0.Es.mem hb;rw[z]at ho;exact absurd (Heap.lt_size ho) (Nat.lt_irrefl _)
 refine⟨⟨e0.mod,S.kind,rfl,rfl,lR,S.inj,λx hx=>?_,λx c hx=>(by cases hx),λ_=>hd,?_,.inr ⟨rfl,rfl⟩,λb hb=>(by cases hb),e0.bs,e0.RI,λb o e hb=>(by cases hb),λb hb=>(by cases hb),e0.Es,e0.VF⟩,rfl,e0.bare,Un.kept hsb,⟨_,hns,λi x v e1 e2 e3=>?_⟩,λx c e=>?_,e0.Ak.fresh (lR),λx c e=>?_,λp hp=>(by cases hp),e0.Ak.kept hsb,by rw[lM];exact hvs⟩
 .rcases hx with hx|hx
  .obtain⟨y,h1,h2⟩:=Dy (show sc.names.lookup x=some .cell from hx);exact absurd h2 (S.Dw y h1)
  .exact S.has x hx
 .have:=e0.frames
  first|exact congrArg _ (by rfl)|(simp[KN,Around.deeper,this])
 .rw[List.getElem?_map]at e2;obtain⟨v',h1,h2⟩:=oM e2;cases h2;obtain⟨c,u,q1,q2,q3⟩:=hv i x v e1 h1;refine⟨u,q3,.inr ⟨?_,c,q1,cellk q2⟩⟩;rcases e3 with z|z|z
  .exact absurd z (S.free x)
  .obtain⟨y,h1,h2⟩:=Dy z;exact absurd h2 (S.Dw y h1)
  .exact .inr z
 .obtain⟨u,q⟩:=hcell x c e;exact⟨some u,cellk q⟩
 .obtain⟨u,q⟩:=hcell x c e;exact cellf q
theorem Td{k:Nat}{as:Arguments}{clos:List (Str×Addr)}{pm cv ctv:Value}{outer:List PySem.Env}{Q:VK}{t:TE}
 (e0:FO P w K mg base A outer s H)(hr:Bk (k+1) A)(S:R3 N sc clos)(ho:base.get? c0=some {cls:=.type "function",data:=.func (kla_fn "<lambda>" qual as b sc clos pm cv ctv)})(hcd':s.heap.CodeRec cv qual)
 (hbind:bindArgs (kla_fn "<lambda>" qual as b sc clos pm cv ctv) ⟨[],[]⟩=pure [])(hcell:∀x c,clos.lookup x=some c->∃u,base.IsCell c (some u))(hvs:vs.length=N.length)(hv:∀(i:Nat) (x:Str) (v:V),N[i]? =some x->vs[i]? =some v->∃c u,clos.lookup x=some c/\base.IsCell c (some u)/\RelV v u)
 (hpe:PE (KN P w K mg base N qual sc c0 cv clos A outer s H) b t)(hq:t (vs.map some) H Q):codeAny (model P w) A (.call (.ref c0) ⟨[],[]⟩) (L2.CR MY outer P w H s Q E0) s:=by
 have lim:s.heap.NoLimit:=e0.mod.nolimit.keeps λb o e=>(e0.bs b o e).1
 refine PySem.W.kla_callFunE hr.depth (e0.bs _ _ ho).1 rfl S.co S.gen rfl hcd' ?_;rw[hbind];refine wP (wpAny_newFunctionEnv S.Dw (λx hx=>by cases hx) (λh₁ hns hsb=>?_) S.kind);have hk:∀b o,s.heap.get? b=some o->h₁.get? b=some o:=λb o e=>hsb.extBut b o (Nat.ne_of_lt (Heap.lt_size e)) (gP e)
 refine⟨lim.keeps hk,?_⟩;show codeAny _ _ (.expr b (envX qual sc s.heap.objs.size c0 cv clos)) _ _;have I:=Tr (qual:=qual) (f:=c0) (cd:=cv) (tk:=s.toks+0) S hr.hd e0 hcell hvs hv (by simpa using hns) hk;refine PySem.W.kla_codeExpr (wpAny_mono (hpe [] _ _ H Q I hq) (λv s' ⟨y,H',J,r,q⟩=>?_) λe s' z=>False.elim z);exact⟨y,H',J.os,J.bare,J.base,J.Ak,r,q⟩
end
def DE(n:Nat):List V:=match n / 1048576 with
 |0=>[]
 |v+1=>[.int v]
def VT(P:Program)(w:World)(K:PySem.W.Frag)(mg:Str->Option Value)(base:Heap)(W:Wd)(cf:CF)(k n:Nat):Prop:=(∃o fd,base.get? (W.Cb n)=some o/\o.data= .func fd)/\∀(A:Around) (outer:List PySem.Env) (s:Shared) (H:Hp) (Q:VK),Bk k A->FO P w K mg base A outer s H->
 K3 W (cf (Fg n)) (.ref W.Nd::DE n) H Q E0->codeAny (model P w) A (.call (.ref (W.Cb n)) ⟨[],[]⟩) (L2.CR MY outer P w H s Q E0) s
abbrev Z6(X:Cx)(W:Wd)(cf:CF)(k n:Nat):Prop:=VT X.prog X.w X.K X.mg X.base W cf k n
section
variable{cf:CF}{mt:MT}
theorem Pe{i k:Nat}{pos:Pos}(hv:PE X (.Name x p) (Fq i))(hr:Bk k X.A):
 PE X (.Call (.Name x p) [] [] pos) (λσ H Q=>∃n,σ[i]? =some (some (.ref (W.Cb n)))/\Z6 X W cf k n/\K3 W (cf (Fg n)) (.ref W.Nd::DE n) H Q E0):=by
 rintro pins s σ H Q I ⟨n,hs,⟨⟨o,fd,q1,q2⟩,hc⟩,h⟩
 refine wpAny_Call_Name_kw (B4 (hv pins s σ H (λv H1=>v= .ref (W.Cb n)/\H1=H) I ⟨_,hs,rfl,rfl⟩) λv s1 ⟨y,H1,I1,r1,e1,e2⟩=>?_);subst e1;subst e2;cases r1;refine Calls.callWith_function (o:=o) (fd:=fd) (PySem.evalArgs_none ⟨⟨I1.bk _ _ q1,q2⟩,?_⟩);refine wpAny_call (codeAny_mono (hc X.A X.stack s1 H1 Q hr I1.XZ h) λr s' hq=>?_);cases r with
 |error e=>exact False.elim hq
 |ok fl=>
   cases fl with
   |ret u=>exact I1.after hq
   |next=>exact False.elim hq
   |brk=>exact False.elim hq
   |cont=>exact False.elim hq
theorem KI(i:Nat)(ρ:Env):ev cf mt (.Dl i) ρ=match A7 ρ i,A7 ρ 0 with
 |some (.b (.p (.fn n))),some (.obj c _)=>if n < Cg\/c < 1000 then .stuck else AH cf (Fg n) (.slot 0::JD n) ρ
 |_,_=>.stuck:=by
 show(den cf mt (.Dl i)).v ρ=_
 conv=>lhs;unfold den
 all_goals rfl
theorem Tv{σ:L2.St}{H:Hp}{n:Nat}(h0:σ[0]? =some (some v)):Bb W σ H ρ (.slot 0::JD n) (v::DE n) []:=by
 refine⟨v,DE n,[],[],rfl,⟨h0,rfl⟩,?_,rfl⟩;unfold JD DE;generalize n/1048576=m;cases m with
 |zero=>exact⟨rfl,rfl⟩
 |succ m=>exact⟨.int m,[],[],[],rfl,⟨A4.mpr rfl,rfl⟩,⟨rfl,rfl⟩,rfl⟩
theorem Nc(hK:W.K=X.K)(hw:W.w=X.w){i k:Nat}{pos:Pos}(hv:PE X (.Name x p) (Fq i))(hr:Bk k X.A)(hne:∀f cs x p,cf f cs≠.err x p)(hc:∀n,Cg<=n->W.ok n=true->Z6 X W cf k n):
 Aq X W cf mt (.Call (.Name x p) [] [] pos) (.Dl i):=by
 refine Aq.of hK hw (λ_ _=>rfl) (λρ=>by show(den cf mt (.Dl i)).b ρ=(((den cf mt (.Dl i)).v ρ).bind _).bind _;unfold den;rfl) rfl rfl (Aj (Pe (W:=W) (cf:=cf) hv hr) λσ H Q z=>?_) (λ_=>rfl) rfl;obtain⟨ρ,os,hR,hn,hA⟩:=z;rw[KI]at hA;split at hA
 .rename_i n c fs hg h0;split at hA
  .exact hA.elim
  .rename_i hcond;have hb:Cg<=n:=Nat.le_of_not_lt λz=>hcond (.inl z)
   have hc1:1000<=c:=Nat.le_of_not_lt λz=>hcond (.inr z)
   obtain⟨v,o,q1,q2,_⟩:=hR.get hg;obtain⟨e1,e2⟩:=CB.mp q2.1;subst e1;have Ak:W.ok n=true:=e2.resolve_left (Nat.not_lt.mpr hb);obtain⟨v0,o0,r1,r2,_⟩:=hR.get h0;obtain⟨a,dx,vs,os',e3,_,_,_,_,_,e4⟩:=r2;have e5:=e4 hc1;subst e5;subst e3;refine⟨n,q1,hc n hb Ak,?_⟩;have:=Gw (cf:=cf) (f:=Fg n) (F:=λρ=>.ok (.slot 0::JD n) ρ) (E:=E0) (hne (Fg n)) ⟨ρ,os,hR,hn,hA⟩;obtain⟨ρ',os2,hR2,hn2,hA2⟩:=this;exact hA2 _ H [] os2 (Tv r1) hR2 hn2 (AR.refl _ _)
 .exact hA.elim
end
theorem O.EL(h:O.same o p=true):o=p:=by
 unfold O.same at h;split at h
 .rfl
 .cases h
mutual
theorem T.EL:∀{t u:T},T.same t u=true->t=u
 | .cst p,u,h=>by
   cases u with
   |cst q=>exact congrArg T.cst (of_decide_eq_true (show decide (p=q)=true from by simpa[T.same]using h))
   |_=>simp[T.same]at h
 | .var i,u,h=>by
   cases u with
   |var j=>exact congrArg T.var (by simpa[T.same]using h)
   |_=>simp[T.same]at h
 | .prim o ts,u,h=>by
   cases u with
   |prim p us=>
     simp only[T.same,bA]at h;rw[O.EL h.1,T.EK h.2]
   |_=>simp[T.same]at h
 | .call f ts,u,h=>by
   cases u with
   |call g us=>
     simp only[T.same,bA]at h;rw[of_decide_eq_true h.1,T.EK h.2]
   |_=>simp[T.same]at h
 | .Ag m o ts,u,h=>by
   cases u with
   |Ag n p us=>
     simp only[T.same,bA]at h;rw[of_decide_eq_true h.1.1,T.EL h.1.2,T.EK h.2]
   |_=>simp[T.same]at h
 |.bor _,u,h=>by simp[T.same]at h
 |.fld _ _,u,h=>by simp[T.same]at h
 |.tup _,u,h=>by simp[T.same]at h
 |.lst _,u,h=>by simp[T.same]at h
 |.Cv _ _,u,h=>by simp[T.same]at h
 |.ES _ _ _,u,h=>by simp[T.same]at h
 |.Q9 _ _,u,h=>by simp[T.same]at h
 |.and _ _,u,h=>by simp[T.same]at h
 |.or _ _,u,h=>by simp[T.same]at h
 |.not _,u,h=>by simp[T.same]at h
 |.ite _ _ _,u,h=>by simp[T.same]at h
 |.make _ _,u,h=>by simp[T.same]at h
 |.Ew _ _,u,h=>by simp[T.same]at h
 |.Dl _,u,h=>by simp[T.same]at h
 |.CD _ _ _ _,u,h=>by simp[T.same]at h
 |.comp _ _ _ _ _ _,u,h=>by simp[T.same]at h
theorem T.EK:∀{ts us:List T},T.FR ts us=true->ts=us
 | [],us,h=>by
   have h:us.isEmpty=true:=by simpa[T.FR]using h
   exact(List.isEmpty_iff.mp h).symm
 | t ::ts,us,h=>by
   cases us with
   |nil=>simp[T.FR]at h
   |cons u us=>
     simp only[T.FR,bA]at h;rw[T.EL h.1,T.EK h.2]
end
variable{n:Nat}
theorem LG{fi:EB}(h:Gq n t fi=true):fi=⟨n,n,[.ret (some t)]⟩:=by
 obtain⟨np,nl,body⟩:=fi;unfold Gq at h;dsimp only at h;split at h
 .rename_i u;simp only[bA,decide_eq_true_eq]at h;obtain⟨⟨h1,h2⟩,h3⟩:=h;rw[T.EL h1,h2,h3]
 .cases h
structure YK(W W':Wd):Prop where
 K:W.K=W'.K
 w:W.w=W'.w
 C3:W.C3=W'.C3
 tabs:W.tabs=W'.tabs
 Cb:∀n,n < Cg->W'.Cb n=W.Cb n
theorem YK.eq(h:YK W W'):QZ W W':=⟨h.K,h.w,h.C3,h.tabs⟩
def RH(tf tc:List (Str×Nat))(tg:List (Str×P))(LT:Nat->EB->Prop)(W:Wd)(base:Heap)(n:Nat):Prop:=
 ∃ (qual:Str) (as:Arguments) (b:Expr) (sc:Scope) (clos:List (Str×Addr)) (pm ctv:Value) (cc:Addr) (t:T),
   base.get? (W.Cb n)=some {cls:=.type "function",data:=.func (kla_fn "<lambda>" qual as b sc clos pm (.ref cc) ctv)}/\(cc,qual)∈W.Zi/\R3 (B8 sc) sc clos/\noArgs as=true/\
   (∀x c,clos.lookup x=some c->∃u,base.IsCell c (some u))/\(V.ref W.Nd::DE n).length=(B8 sc).length/\
   (∀(i:Nat) (x:Str) (v:V),(B8 sc)[i]? =some x->(V.ref W.Nd::DE n)[i]? =some v->∃c u,clos.lookup x=some c/\base.IsCell c (some u)/\RelV v u)/\
   (B8 sc).Nodup/\(∀x∈B8 sc,sc.names.lookup x=some .free)/\kE (Ir sc tf tc tg) b=some t/\LT (Fg n) ⟨(B8 sc).length,(B8 sc).length,[.ret (some t)]⟩
structure dm(X:Cx)(W:Wd)(cf:CF)(mt:MT)(k:Nat)(tf tc:List (Str×Nat))(tg:List (Str×P))(lp:Pos)(l:Nat)(fi:EB):Prop where
 code:∃c P,X.env.code= .ref c/\codeHdIn X.K c P=true/\X.base.BuiltinsAt X.mg P/\mainGlobals≠P/\(P,lp,X.env.qual++"<lambda>")∈W.tabs
 nd:(W.tabs.map (·.1)).Nodup
 tag:∀c,W.C3 (tag c)=W.C3 c
 lt:∀c m f,mt.m c m=some f->f < Cg
 run:∃LT:Nat->EB->Prop,LT l fi/\∀(W':Wd) (base':Heap),YK W W'->(∀b o,X.base.get? b=some o->base'.get? b=some o)->(∀n,Cg<=n->W'.ok n=true->RH tf tc tg LT W' base' n)->
  ∀c m f,mt.m c m=some f->∃fd ps,D1 X.prog X.w X.K X.mg base' MY k (W'.Cb f) fd ps (K3 W' (cf f))/\Binds X.K fd ps []
theorem JC(l:Nat):Ff l none=1024*(l+1):=rfl
theorem JB(l v:Nat):Ff l (some v)=1024*(l+1)+1048576*(v+1):=rfl
theorem U8(n:Nat):Fg n=n/1024%1024-1:=rfl
theorem Qw{l:Nat}(h:l < 1000)(cv:Option Nat):Fg (Ff l cv)=l:=by
 rw[U8];cases cv with
 |none=>rw[JC];omega
 |some v=>rw[JB];omega
theorem Qx{l:Nat}(cv:Option Nat):Cg<=Ff l cv:=by
 have e:Cg=1024:=rfl;rw[e];cases cv with
 |none=>rw[JC];omega
 |some v=>rw[JB];omega
theorem Y9(h:n/1048576=0):DE n=[]:=by unfold DE;rw[h]
theorem Y8{v:Nat}(h:n/1048576=v+1):DE n=[.int v]:=by unfold DE;rw[h]
theorem Y6{l:Nat}(h:l < 1000):DE (Ff l none)=[]:=Y9 (by rw[JC];omega)
theorem Y5{l v:Nat}(h:l < 1000):DE (Ff l (some v))=[.int v]:=Y8 (by rw[JB];omega)
abbrev EJ:Str:=Str.ofString "self"
theorem FK{cells:List (Str×Addr)}{c:Addr}:∀(l:List (Str×NameKind)) (cs:List (Str×Addr)),(G7 cells l cs).lookup x=some c->(∃y∈l,y.1=x/\y.2= .free)\/cs.lookup x=some c
 |[],cs,e=>.inr e
 | (n, k)::r,cs,e=>by
   unfold G7 at e
   by_cases hk:(k == NameKind.free)=true
   .rw[iP hk]at e;rcases FK r _ e with⟨y,h1,h2⟩|h
    .exact .inl ⟨y,mC h1,h2⟩
    .rw[lookup_cons]at h;cases hx:x == n with
     |true=>exact .inl ⟨(n,k),mS,(eq_of_beq hx).symm,eq_of_beq hk⟩
     |false=>rw[hx]at h;exact .inr h
   .rw[iN hk]at e;rcases FK r _ e with⟨y,h1,h2⟩|h
    .exact .inl ⟨y,mC h1,h2⟩
    .exact .inr h
theorem Py{y:Str×NameKind}(h:y∈sc.names)(hf:y.2= .free):y.1∈B8 sc:=by
 unfold B8
 by_cases hs:y.1=Str.ofString "self"
 .rw[hs];exact mS
 .refine mC (mem_filter.mpr ⟨mem_map.mpr ⟨y,mem_filter.mpr ⟨h,by rw[hf];rfl⟩,rfl⟩,decide_eq_true hs⟩)
variable{cf:CF}
theorem KH{mt:MT}(m:Str)(i l:Nat)(C7:Option Nat)(ρ:Env):ev cf mt (.CD m i l C7) ρ=He cf mt m i l C7 ρ:=by
 show(den cf mt (.CD m i l C7)).v ρ=_
 conv=>lhs;unfold den
 all_goals rfl
theorem Nz{mt:MT}{i l:Nat}{C7:Option Nat}{ρ:Env}{P:Res C->Prop}(h:P (He cf mt m i l C7 ρ))(hP:¬P .stuck):∃c fs cv f x fs' rest,A7 ρ i=some (.obj c fs)/\KR ρ C7=some cv/\fs.lookup m=none/\mt.m c m=some f/\BD fs=true/\
 cf f [.obj (tag c) fs,.p (.fn (Ff l cv))]= .ok (.p x) (some (.obj (tag c) fs')::rest)/\noFn x=true/\BD fs'=true/\P (.ok (.p x) (ρ.set i (some (.obj c fs')))):=by
 unfold He at h;split at h
 .rename_i c fs cv hg hc;split at h
  .rename_i f h1 h2;split at h
   .rename_i hp;split at h
    .rename_i x c' fs' rest hcf;split at h
     .rename_i hh;obtain⟨rfl,h3,h4⟩:=hh;exact⟨c,fs,cv,f,x,fs',rest,hg,hc,h1,h2,hp,hcf,h3,h4,h⟩
     .exact absurd h hP
    .exact absurd h hP
   .exact absurd h hP
  .exact absurd h hP
 .exact absurd h hP
theorem S9{X:Cx}{k:Nat}{fd:FuncData}{ps:List Str}{sp:Sp}{base':Heap}{pins:List (Addr×Obj)}{σ:L2.St}{H:Hp}{s:Shared}{Q:VK}{us:List Value}{vs:List V}(F:D1 X.prog X.w X.K X.mg base' MY k f fd ps sp)(hr:Bk k X.A)(hb:Binds X.K fd ps [])
 (I:Inv X pins σ H s)(e0:FO X.prog X.w X.K X.mg base' X.A X.stack s H)(r:Vals vs us)(h:sp vs H Q E0):wpAny (model X.prog X.w) X.A (call (.ref f) us) (EP X pins σ Q) X.xe s:=by
 have hl:(us++[]).length=ps.length:=by rw[append_nil,<-r.length];exact F.len _ _ _ _ h
 have hb':=hb s us I.Bm hl;rw[append_nil]at hb';refine wpAny_call (codeAny_mono (F.run X.A X.stack s H ⟨us,[]⟩ us vs Q E0 hr e0 hb' r h) λr s' hq=>?_);cases r with
 |error e=>exact False.elim hq
 |ok fl=>
   cases fl with
   |ret u=>exact I.after hq
   |next=>exact False.elim hq
   |brk=>exact False.elim hq
   |cont=>exact False.elim hq
section
variable{cf:CF}{mt:MT}
theorem MQ{pins:List (Addr×Obj)}{σ:L2.St}{H:Hp}{s:Shared}{i:Nat}{x:Str}(I:Inv X pins σ H s)(hN:X.N[i]? =some x)(hs:σ[i]? =some (some v))(hk:X.env.scope.names.lookup x=some .cell\/X.env.scope.names.lookup x=some .free):
 ∃c u,X.env.cells.lookup x=some c/\s.heap.IsCell c (some u)/\RelV v u:=by
 obtain⟨mm,_,hl⟩:=I.loc;obtain⟨u,r,lk⟩:=hl i x v hN hs (hk.elim (λz=>.inr (.inl z)) λz=>.inr (.inr z));rcases lk with⟨z,_⟩|⟨_,c,h1,h2⟩
 .have z:X.env.scope.names.lookup x=some .local:=z;rcases hk with y|y
  .rw[z]at y;cases y
  .rw[z]at y;cases y
 .exact⟨c,u,h1,h2,r⟩
theorem Ic{a:Arguments}(h:noArgs a=true):a={posonlyargs:=[],args:=[],vararg:=none,kwonlyargs:=[],kw_defaults:=[],kwarg:=none,defaults:=[]}:=by
 obtain⟨a1,a2,a3,a4,a5,a6,a7⟩:=a;unfold noArgs at h;simp only[bA,List.isEmpty_iff,Option.isNone_iff_eq_none]at h;obtain⟨⟨⟨⟨⟨⟨h1,h2⟩,h3⟩,h4⟩,h5⟩,h6⟩,h7⟩:=h
 subst_vars
 rfl
structure MW(X:Cx)(sc:Scope)(C7:Option Nat):Prop where
 kind:sc.kind= .function
 co:sc.isCoroutine=false
 gen:sc.isGenerator=false
 own:∀y∈sc.names,y.2≠.cell/\y.2≠.local
 Zg:∀y∈sc.names,y.2= .free->X.env.scope.names.lookup y.1=some .cell\/X.env.scope.names.lookup y.1=some .free
 nd:(B8 sc).Nodup
 all:∀x∈B8 sc,sc.names.lookup x=some .free
 C7:(C7=none/\B8 sc=[EJ])\/∃j y,C7=some j/\B8 sc=[EJ,y]/\X.N[j]? =some y
variable{sc:Scope}
theorem MW.mem{C7:Option Nat}(L:MW X sc C7){x:Str}(h:x∈B8 sc):X.env.scope.names.lookup x=some .cell\/X.env.scope.names.lookup x=some .free:=
 L.Zg (x,.free) (PySem.mem_of_lookup (L.all x h)) rfl
theorem Na(hK:W.K=X.K)(hw:W.w=X.w){k:Nat}(M:eR X W cf mt k)(hr:Bk k X.A){tf tc:List (Str×Nat)}{tg:List (Str×P)}{i l:Nat}{C7:Option Nat}{m:Str}{as:Arguments}{lp apos pos:Pos}{fi:EB}{t:T}
 (hx:PE X (.Name EJ p) (Fq i))(hi:X.N[i]? =some EJ)(hfn:∀x,X.fn x=true)(S:MW X sc C7)(has:noArgs as=true)(ht:kE (Ir sc tf tc tg) b=some t)(hfi:fi=⟨(B8 sc).length,(B8 sc).length,[.ret (some t)]⟩)(hl:l < 1000)
 (F:dm X W cf mt k tf tc tg lp l fi)(hni:m≠Str.ofString "__init__")(hline:(apos.endLine == pos.line)=true):
 Aq X W cf mt (.Call (.Attribute (.Name EJ p) m apos) [.Lambda as b sc lp] [] pos) (.CD m i l C7):=by
 refine Aq.of hK hw (λ_ _=>rfl) (λρ=>by show(den cf mt (.CD m i l C7)).b ρ=(((den cf mt (.CD m i l C7)).v ρ).bind _).bind _;unfold den;rfl) rfl rfl ?_ (λ_=>rfl) rfl;intro pins s σ H Q I z;obtain⟨ρ,os,hR,hn,hA⟩:=z;rw[KH]at hA;obtain⟨c,fs,cv,f,x,fs',rest,hg,hcv,hl1,hl2,hpf,hcf,hnx,hpf',hA⟩:=Nz (P:=λr=>C5 W NX (rV W σ) H os σ r Q) hA λz=>z
 obtain⟨v,o,osr,t1,t2,t3,t4⟩:=hR.take hg;have t2':=t2;obtain⟨a,dx,vs,osf,rfl,q3,q4,q5,q6⟩:=t2';obtain⟨M1,M2,FS⟩:=M.O7 c m f hl2;have hm:=M2 hni;obtain⟨cc0,Pt,hcode,hhd,hblt,hgP,hq⟩:=F.code;obtain⟨LT,hLT,hrun⟩:=F.run;have hnd:=nA (t4.nodup_iff.mpr hn);have hpl:∀e∈[Expr.Lambda as b sc lp],AF e=true:=λe he=>by rw[mE he];rfl
 refine methodCall_KW (pl:=(do return (<-importBound (.Name EJ p) X.env).getD true)) (B4 (hx pins s σ H (λv H1=>v= .ref a/\H1=H) I ⟨_,t1,rfl,rfl⟩) λu s1 ⟨y,H1,I1,rx,ex,eH⟩=>?_) (Ja hpl (by simp) hline);subst ex;subst eH;obtain rfl:u=Value.ref a:=rx;refine De I1 q3 M1 hm (DO q4 hl1) ?_;refine callWith_K (first:=[.ref a]) (h₀:=X.base) I1.ok.mod.C6 hm.kp ?_ (Aa rfl [] _) rfl;rw[Aa rfl [] X.env];show wpAny _ _ (spliced ((false,eval (.Lambda as b sc lp) X.env)::backTo pos (starEach [] X.env))) _ _ s1;have hfree:∀y∈sc.names,y.2= .free->∃c,X.env.cells.lookup y.1=some c:=λy hy e=>I1.ok.has y.1 (S.Zg y hy e)
 have has':=Ic has;refine Calls.spliced_cons (PN (clos:=G7 X.env.cells sc.names []) I1 hR.tb F.nd hq (by rw[has'];rfl) (Cp hfree) hcode (codeHd_of_K I1.ok.mod.C6 hhd) hblt hgP λc0 cc ctv s2 H2 I2 kp fr tb2 cd ho hc0 hc0n hold=>Calls.spliced_nil ⟨I2.Bm,?_⟩);generalize hn0:Ff l cv=n0 at hcf;have hb0:Cg<=n0:=by rw[<-hn0];exact Qx cv
 let W':Wd:={W with Cb:=λn=>if n=n0 then c0 else W.Cb n,ok:=λn=>decide (n=n0),Nd:=a,Zi:=(cc,X.env.qual++"<lambda>")::W.Zi}
 have hst:YK W W':=⟨rfl,rfl,rfl,rfl,λn hn=>iN λz=>absurd (z▸hn) (Nat.not_lt.mpr hb0)⟩;have hwe:QZ W W':=hst.eq
 let L:List Addr:=c0::(B8 sc).filterMap λx=>X.env.cells.lookup x
 have hLm:∀x c,x∈B8 sc->X.env.cells.lookup x=some c->c∈L:=λx c h1 h2=>mC (mem_filterMap.mpr ⟨x,h1,h2⟩)
 have e0 :FO X.prog X.w X.K X.mg (baseOf X.base s2.heap L) X.A X.stack s2 H2:=by
  refine NR I2 (λb hb=>?_) λb hb hbf=>?_
  .rcases mK hb with z|z
   .rw[z];exact⟨_,ho,hc0n⟩
   .obtain⟨x,h1,h2⟩:=mem_filterMap.mp z;obtain⟨v,o,h3,_⟩:=I2.cell x b h2;exact⟨o,h3,I2.DB x b h2⟩
  .rcases mK (I2.GJ b hbf)with y|y
   .rcases mK hb with z|z
    .have:=I1.lt;rw[<-y,z]at this;exact absurd this (Nat.not_lt.mpr hc0)
    .obtain⟨x,h1,h2⟩:=mem_filterMap.mp z;exact I2.VJ x b h2 y
   .rcases mK hb with z|z
    .exact I1.Xg hc0 (z▸y)
    .obtain⟨x,h1,h2⟩:=mem_filterMap.mp z;obtain⟨_,o,ho,_⟩:=I2.ok.Es.mem y;exact absurd (Heap.lt_size ho) (Nat.not_lt.mpr (I2.ok.Zj x b (hfn x) h2))
 have hvals:(V.ref a::DE n0).length=(B8 sc).length/\∀(j:Nat) (y:Str) (w:V),(B8 sc)[j]? =some y->(V.ref a::DE n0)[j]? =some w->∃c u,X.env.cells.lookup y=some c/\s2.heap.IsCell c (some u)/\RelV w u:=by
  have hself:∀y,y=EJ->∃c u,X.env.cells.lookup y=some c/\s2.heap.IsCell c (some u)/\RelV (V.ref a) u:=λy e=>by
   rw[e];exact MQ I2 hi t1 (S.mem (by unfold B8;exact mS))
  rcases S.C7 with⟨e1,e2⟩|⟨j,y,e1,e2,e3⟩
  .subst e1;have hcv:some none=some cv:=hcv;cases hcv;have e4:DE n0=[]:=by rw[<-hn0];exact Y6 hl
   rw[e2,e4];refine⟨rfl,λj y w h1 h2=>?_⟩
   match j,h1,h2 with
   |0,h1,h2=>cases h1;cases h2;exact hself _ rfl
   |j+1,h1,h2=>cases h1
  .subst e1;unfold KR at hcv;dsimp only at hcv;split at hcv
   .rename_i vi hgj;split at hcv
    .rename_i hvi;cases hcv
     have e4:DE n0=[.int vi]:=by
      rw[<-hn0,Y5 hl];simp only[List.cons.injEq,V.int.injEq,and_true]
      lia
     rw[e2,e4];refine⟨rfl,λj' y' w h1 h2=>?_⟩
     match j',h1,h2 with
     |0,h1,h2=>cases h1;cases h2;exact hself _ rfl
     |1,h1,h2=>
       cases h1;cases h2;obtain⟨vv,oo,g1,g2,_⟩:=hR.get hgj;have g3:vv= .int vi:=A4.mp g2.1;subst g3;exact MQ I2 e3 g1 (S.mem (by rw[e2];simp))
     |j'+2,h1,h2=>cases h1
    .cases hcv
   .cases hcv
 have clo_in:∀y c,(G7 X.env.cells sc.names []).lookup y=some c->X.env.cells.lookup y=some c/\y∈B8 sc:=λy c e=>by
  refine⟨Fe sc.names [] hfree (λ_ _ z=>by cases z) e,?_⟩;rcases FK sc.names [] e with⟨z,h1,h2,h3⟩|h
  .rw[<-h2];exact Py h1 h3
  .cases h
 have clo_at:∀y c,y∈B8 sc->X.env.cells.lookup y=some c->(G7 X.env.cells sc.names []).lookup y=some c:=λy c h e=>by
  obtain⟨d,hd⟩:=DU (cells:=X.env.cells) (x:=y) sc.names [] (.inl ⟨(y,.free),PySem.mem_of_lookup (S.all y h),rfl,rfl⟩);rw[(clo_in y d hd).1]at e;cases e;exact hd
 have cellB:∀{y:Str} {c:Addr} {u:Value},y∈B8 sc->X.env.cells.lookup y=some c->s2.heap.IsCell c (some u)->(baseOf X.base s2.heap L).IsCell c (some u):=λ{y c u} h1 h2 ⟨o,h3,h4⟩=>⟨o,II (hLm y c h1 h2) h3,h4⟩
 obtain⟨hv1,hv2⟩:=hvals
 have hclo:RH tf tc tg LT W' (baseOf X.base s2.heap L) n0:=by
  refine⟨X.env.qual++"<lambda>",as,b,sc,G7 X.env.cells sc.names [],(X.mg "__name__").getD .none,ctv,cc,t,?_,mS,⟨S.kind,S.co,S.gen,λy hy=>(S.own y hy).1,λy e=>?_,λy z c h1 h2=>?_,λy e=>?_⟩,has,λy c e=>?_,hv1,λj y w h1 h2=>?_,S.nd,S.all,ht,?_⟩
  .show(baseOf X.base s2.heap L).get? (if n0=n0 then c0 else W.Cb n0)=_;rw[iP rfl];exact II mS ho
  .exact(S.own _ (PySem.mem_of_lookup e)).2 rfl
  .exact I2.ok.inj y z c (clo_in y c h1).1 (clo_in z c h2).1
  .exact DU sc.names [] (.inl ⟨(y,.free),PySem.mem_of_lookup e,rfl,rfl⟩)
  .obtain⟨h1,h2⟩:=clo_in y c e;obtain⟨j,hj⟩:=List.mem_iff_getElem?.mp h2;have hjl:j < (B8 sc).length:=(List.getElem?_eq_some_iff.mp hj).1;obtain⟨c',u,g1,g2,_⟩:=hv2 j y _ hj (List.getElem?_eq_getElem (by rw[hv1];exact hjl));rw[h1]at g1;cases g1;exact⟨u,cellB h2 h1 g2⟩
  .obtain⟨c',u,g1,g2,g3⟩:=hv2 j y w h1 h2;have hy:=List.mem_of_getElem? h1;exact⟨c',u,clo_at y c' hy g1,cellB hy g1 g2,g3⟩
  .rw[<-hn0,Qw hl,<-hfi];exact hLT
 obtain⟨fd,ps,F1,F2⟩:=hrun W' (baseOf X.base s2.heap L) hst (λb o e=>Hz I2.bk e) (λn h1 h2=>by
  have:n=n0:=of_decide_eq_true h2
  rw[this];exact hclo) c m f hl2
 have hfad:W'.Cb f=W.Cb f:=hst.Cb f (F.lt c m f hl2);rw[hfad]at F1;have tag':∀c,W'.C3 (tag c)=W.C3 c:=F.tag;have r2:B3 W H2 (.obj c fs) (.ref a) o:=t2.frame kp ((fr []).but) λ_ _ z=>by cases z
 obtain⟨r3,ro⟩:=ON hwe tag' hpf rfl r2;subst ro
 have tbW:Di W' H2:=N9 hwe (λr hr=>by
  rcases mK hr with z|z
  .rw[z];exact cd
  .exact tb2.2 r z) tb2
 refine S9 (us:=[.ref a,.ref c0]) (vs:=[.ref a,.ref c0]) F1 hr F2 I2 e0 (.cons rfl (.cons rfl .nil)) ⟨[.obj (tag c) fs,.p (.fn n0)],[a],?_,by simp,?_⟩
 .refine⟨.ref a,_,[a],[],rfl,r3,⟨.ref c0,[],[],[],rfl,⟨CB.mpr ⟨?_,.inr (decide_eq_true rfl)⟩,rfl⟩,⟨rfl,rfl,tbW⟩,rfl⟩,rfl⟩;show V.ref c0= .ref (if n0=n0 then c0 else W.Cb n0);rw[iP rfl]
 .rw[hcf];intro u H' o' oos g1 g2 g3 g4;obtain⟨g5,rfl⟩:=(show Ay W' H' x u/\o'=[]from g1);obtain⟨w,r,o1,o2,ew,k1,k2,rfl⟩:=g2;cases ew;obtain⟨k3,_,rfl⟩:=Lp hwe tag' hpf' (λz=>(q6.2.2 z)) k1;have tbB:Di W H':=⟨λq hq=>k2.tb.1 q hq,λq hq=>k2.tb.2 q (mC hq)⟩;have k4:JP [a] H2 H':=g4.but;have kp2:AK H2 H':=k4.keep r2.own;have t5:A5 W H2 (ρ.set i none) σ osr:=t3.frame tb2 kp ((fr []).but) λ_ _ z=>by cases z
  have t6:A5 W H' (ρ.set i none) σ osr:=t5.frame tbB kp2 k4 λd hd z=>hnd.2.2 a mS d hd (mE z).symm
  obtain⟨os2,u1,u2⟩:=A5.fill (c:=.obj c fs') (v:=.ref a) (o:=[a]) k3 t6 (Bi (BW hg)) (by rw[length_set];exact BW hg);rw[set_set,set_same t1]at u1
  have fr2:AR H2 H' ([a]++osr) ([a]++osr):=by
   have:=(g4.sub (os2:=[a]) λd hd=>by rw[mE hd];exact mS).more osr;exact this.perm perm_append_comm perm_append_comm
  refine hA u H' [] os2 ⟨DL hwe.symm hnx g5,rfl⟩ u1 (u2.nodup_iff.mpr (t4.nodup_iff.mpr hn)) ?_;exact(fr os).trans (fr2.perm t4 u2.symm)
end
structure de(a b:Scope):Prop where
 loc:∀x,a.names.lookup x=some .local->b.names.lookup x=some .local
 eK:∀x,a.names.lookup x=some .cell->b.names.lookup x=some .cell
 Zg:∀x,a.names.lookup x=some .free->b.names.lookup x=some .free\/b.names.lookup x=some .cell
 iO:∀x,a.names.lookup x=some .globalImplicit->b.names.lookup x=some .globalImplicit
theorem de.refl(a:Scope):de a a:=⟨λ_ h=>h,λ_ h=>h,λ_ h=>.inl h,λ_ h=>h⟩
theorem Ca{env:PySem.Env}:∀{names:List (Str×NameKind)} {x:Str},names.lookup x=some .globalImplicit->
 (names.map λ(n,k)=>if(k == NameKind.free && env.scope.kind == .function && env.kindOf n == some .cell)then(n,NameKind.cell)else(n,k)).lookup x=some .globalImplicit
 |[],_,h=>by simp at h
 | (n,k)::r,x,h=>by
   have ih:=@Ca env r x;rw[map_cons];cases hx:x == n with
   |true=>
     simp only[lookup_cons,hx]at h;cases h;simp[lookup_cons,hx]
   |false=>
     simp only[lookup_cons,hx]at h;dsimp only;split
     .simp only[lookup_cons,hx];exact ih h
     .simp only[lookup_cons,hx];exact ih h
structure Dm(ct:Ct)(X:Cx)(W:Wd)(cf:CF)(mt:MT)(k:Nat):Prop where
 K:W.K=X.K
 w:W.w=X.w
 N:X.N=ct.N
 nd:X.N.Nodup
 sc:de ct.sc X.env.scope
 fn:ct.df=true->∀x,X.fn x=true
 calm:X.calm=true
 room:Bk (k+1) X.A
 po:PassesOwn (model X.prog X.w) X.A X.env X.xe
 gl:∀x p,ct.gl.lookup x=some p->∃u v,X.mg x=some u/\RelV v u/\∀H,Ay W H p v
 own:∀x∈JI,ct.gl.lookup x=none->ct.fns.lookup x=none->ct.cls.lookup x=none->X.mg x=none
 fns:∀x f,ct.fns.lookup x=some f->X.mg x=some (.ref (W.Cb f))/\keepIn X.K (.ref (W.Cb f))=true/\Z5 X W cf k f
 cls:∀x c,ct.cls.lookup x=some c->X.mg x=some (.ref (W.C3 c))/\∀f,mt.m c (Str.ofString "__init__")=some f->Mk X.K (W.C3 c) (W.Cb f)
 dE:eR X W cf mt k
 fld:∀c f,mt.f c f=true->By X.K (W.C3 c) f
 tf:∀n,mt.tf n=true->∃x,ct.fns.lookup x=some n
 lam:∀lp q,ct.PM.lookup lp=some q->dm X W cf mt k ct.fns ct.cls ct.gl lp q.1 q.2
 cl:ct.cv=true->(∀f cs x p,cf f cs≠.err x p)/\∀n,Cg<=n->W.ok n=true->Z6 X W cf k n
section
variable{ct:Ct}{cf:CF}{mt:MT}{k:Nat}
theorem Hk{l:List Str}{i:Nat}(h:l.idxOf? x=some i):l[i]? =some x:=by
 unfold List.idxOf? at h;obtain⟨h1,h2,_⟩:=List.findIdx?_eq_some_iff_getElem.mp h;rw[List.getElem?_eq_getElem h1];exact congrArg some (beq_iff_eq.mp h2)
theorem EN(h:Ha x=true):(x == ("__debug__":Str))=false/\(x == ("__classdict__":Str))=false/\x≠"__name__":=by
 unfold Ha at h;rw[bA,bA]at h;exact⟨by simpa using h.1.1,by simpa using h.1.2,of_decide_eq_true h.2⟩
theorem Dm.slot(L:Dm ct X W cf mt k){i:Nat}(h:ct.slot x=some i):X.N[i]? =some x/\cZ X.env.scope x/\(x == ("__debug__":Str))=false/\(x == ("__classdict__":Str))=false:=by
 unfold Ct.slot at h;split at h
 .rename_i hc;rw[bA]at hc;obtain⟨n1,n2,_⟩:=EN hc.1;refine⟨by rw[L.N];exact Hk h,?_,n1,n2⟩;have hs:=hc.2;unfold seen at hs;split at hs
  .rename_i e;exact .inl (L.sc.loc x e)
  .rename_i e;exact .inr (.inl (L.sc.eK x e))
  .rename_i e;rcases L.sc.Zg x e with z|z
   .exact .inr (.inr z)
   .exact .inr (.inl z)
  .cases hs
 .cases h
theorem Dm.E3(L:Dm ct X W cf mt k){i:Nat}(h:ct.E3 x=some i):X.N[i]? =some x/\Loc X.env.scope x/\(X.fn x=true\/X.env.scope.names.lookup x=some .local):=by
 unfold Ct.E3 at h;split at h
 .rename_i hc;rw[bA]at hc;refine⟨by rw[L.N];exact Hk h,?_⟩;have hs:=hc.2;unfold bound at hs;split at hs
  .rename_i e;exact⟨.inl (L.sc.loc x e),.inr (L.sc.loc x e)⟩
  .rename_i e;exact⟨.inr (L.sc.eK x e),.inl (L.fn hs x)⟩
  .cases hs
 .cases h
theorem Dm.glob(L:Dm ct X W cf mt k)(h:ct.glob x=true):Gl X x/\(x == ("__debug__":Str))=false/\x≠"__name__":=by
 unfold Ct.glob at h;rw[bA]at h;obtain⟨n1,_,n3⟩:=EN h.1;exact⟨L.sc.iO x (of_decide_eq_true h.2),n1,n3⟩
theorem Dm.Ph(L:Dm ct X W cf mt k)(h:ct.own x=true):Gl X x/\X.mg x=none/\(x == ("__debug__":Str))=false/\x≠"__name__":=by
 unfold Ct.own at h;simp only[bA]at h;obtain⟨⟨⟨⟨h1,h2⟩,h3⟩,h4⟩,h5⟩:=h;obtain⟨g1,g2,g3⟩:=L.glob h1;exact⟨g1,L.own x (by simpa using h2) (by simpa using h3) (by simpa using h4) (by simpa using h5),g2,g3⟩
theorem Dm.un(L:Dm ct X W cf mt k):X.A.units+200 < cLine:=by have:=L.room.un;lia
theorem Dm.pv(L:Dm ct X W cf mt k){i:Nat}(h:ct.slot x=some i):PE X (.Name x p) (Fq i):=by
 obtain⟨h1,h2,h3,h4⟩:=L.slot h;exact Lr h1 h2 h3 h4
variable{sc:Scope}
theorem Dm.iA(L:Dm ct X W cf mt k){N:List Str}{fr:List (Option Nat)}(h:QK ct.N ct.sc N sc fr=true):Dj X.N X.env.scope N sc fr:=by
 have h0:M3 ct.N ct.sc N sc fr=true:=h;have ok:=Dj.of h0;refine⟨ok.kind,ok.Dw,ok.own,λy hy e=>?_,ok.len,by rw[L.N];exact ok.TB⟩;rcases ok.free y hy e with z|z
 .exact .inl (L.sc.eK _ z)
 .rcases L.sc.Zg _ z with q|q
  .exact .inr q
  .exact .inl q
theorem lookup_mem{α:Type}{l:List (Str×α)}{a:α}(h:l.lookup x=some a):(x,a)∈l:=PySem.mem_of_lookup h
theorem Dm.block(L:Dm ct X W cf mt k)(h:QK ct.N ct.sc (ct.block sc).1.N sc (ct.block sc).2=true)(hn:(ct.block sc).1.N.Nodup)(C:Addr)(s:Shared)(H:Hp)(fp:List Addr):Dm (ct.block sc).1 (AU X (ct.block sc).1.N sc C s H fp) W cf mt k:=by
 have ok:=L.iA h;refine⟨L.K,L.w,rfl,hn,⟨λx e=>?_,λx e=>?_,λx e=>?_,λx e=>?_⟩,λz=>(by cases z),L.calm,L.room,PassesOwn.never,L.gl,L.own,λx f e=>?_,L.cls,⟨λc m f e=>?_⟩,L.fld,L.tf,λlp q e=>(by cases e),L.cl⟩
 .exact lookup_relabel_local e
 .exact absurd rfl (ok.Dw _ (lookup_mem e))
 .exact Bw e
 .exact Ca e
 .obtain⟨h1,h2,h3⟩:=L.fns x f e;exact⟨h1,h2,h3.ex,h3.ne⟩
 .obtain⟨h1,h2,h3⟩:=L.dE.O7 c m f e;exact⟨h1,h2,h3.ex,h3.ne⟩
theorem KZ{es:List Expr}{env:PySem.Env}:assignEach (.Name x p::es) env=(false,assign (.Name x p) env)::assignEach es env:=rfl
theorem P2(L:Dm ct X W cf mt k):∀{es:List Expr} {is:List Nat},NG ct es=some is->dh X es (bK is)/\(assignEach es X.env).length=is.length/\(assignEach es X.env).findIdx? (·.1)=none/\∀i∈is,i < X.N.length
 | [],is,h=>by
   unfold NG at h;cases h;exact⟨SA,rfl,rfl,λi hi=>by cases hi⟩
 | e ::es,is,h=>by
   cases e with
   |Name x p=>
     unfold NG at h;obtain⟨i,h1,h2⟩:=oB h;obtain⟨js,h3,rfl⟩:=oM h2;obtain⟨q1,q2,q3,q4⟩:=P2 L h3;obtain⟨t1,t2,t3⟩:=L.E3 h1;refine⟨P4 (Mq L.nd t1 t2 t3) q1 rfl,by rw[KZ,lC,lC,q2],?_,λj hj=>?_⟩
     .rw[KZ,List.findIdx?_cons,q3];rfl
     .rcases mK hj with z|z
      .rw[z];exact(List.getElem?_eq_some_iff.mp t1).1
      .exact q4 j z
   |_=>unfold NG at h;cases h
theorem P5(L:Dm ct X W cf mt k){tg:Expr}{g:Tg}(h:Vt ct tg=some g):PG X tg (gT W g)/\∀i∈g.slots,i < X.N.length:=by
 cases tg with
 |Name x p=>
   unfold Vt at h;obtain⟨i,h1,rfl⟩:=oM h;obtain⟨t1,t2,t3⟩:=L.E3 h1;refine⟨Mq L.nd t1 t2 t3,λj hj=>?_⟩;rw[mE hj];exact(List.getElem?_eq_some_iff.mp t1).1
 |Tuple es n p=>
   unfold Vt at h;obtain⟨is,h1,rfl⟩:=oM h;obtain⟨q1,q2,q3,q4⟩:=P2 L h1;refine⟨?_,q4⟩;show PG X (.Tuple es n p) (XG W.K is.length (bK is));rw[L.K];exact WT L.calm q1 q2 q3
 |_=>unfold Vt at h;cases h
end
section
variable{cf:CF}{mt:MT}
theorem VA(i:Nat)(f:Str)(ρ:Env):(∃x,Br ρ i f=some (.b (.p x))/\ev cf mt (.prim .id [.fld i f]) ρ= .ok (.p x) ρ)\/ev cf mt (.prim .id [.fld i f]) ρ= .stuck:=by
 have e:ev cf mt (.prim .id [.fld i f]) ρ=(A9 cf mt [.fld i f] ρ).bind λhs ρ=>Res.of ((Ai ρ hs).bind (Av .id)) ρ:=by
  show(den cf mt (.prim .id [.fld i f])).v ρ=_
  conv=>lhs;unfold den
  all_goals rfl
 rw[e,KJ];have e2:BA (.fld i f) (ev cf mt (.fld i f)) ρ=if(Br ρ i f).isSome then .ok (.fld i f) ρ else .stuck:=rfl
 rw[e2];cases hg:Br ρ i f with
 |none=>exact .inr rfl
 |some c=>
   have e3:Ai ρ [.fld i f]=some [c]:=by
    show((Br ρ i f).bind λc=>(some []).map (c::·))=_;rw[hg];rfl
   show(∃x,some c=some (.b (.p x))/\Res.of ((Ai ρ [.fld i f]).bind (Av .id)) ρ= .ok (.p x) ρ)\/Res.of ((Ai ρ [.fld i f]).bind (Av .id)) ρ= .stuck;rw[e3];cases c with
   |obj c fs=>exact .inr rfl
   |b b=>
     cases b with
     |p x=>exact .inl ⟨x,rfl,rfl⟩
     |_=>exact .inr rfl
theorem Wa(hK:W.K=X.K)(hw:W.w=X.w){i:Nat}(nc:Be e=false)(h:Aq X W cf mt e (.fld i f)):Aq X W cf mt e (.prim .id [.fld i f]):=by
 refine Aq.Xe hK hw AE rfl rfl (Aj h.v λσ H Q z=>?_) (Ek h.b λσ H Q z=>?_) h.st nc
 .obtain⟨ρ,os,hR,hn,hA⟩:=z;refine⟨ρ,os,hR,hn,?_⟩;rcases VA (cf:=cf) (mt:=mt) i f ρ with⟨x,hg,e⟩|e
  .rw[e]at hA;rw[show ev cf mt (.fld i f) ρ=(match Br ρ i f with|some c=>if c.cp then .ok c ρ else .stuck|none=>.stuck)from by show(den cf mt (.fld i f)).v ρ=_;unfold den;rfl,hg];exact hA
  .rw[e]at hA;exact hA.elim
 .obtain⟨ρ,os,hR,hn,hA⟩:=z;refine⟨ρ,os,hR,hn,?_⟩;rw[AX]at hA;rcases VA (cf:=cf) (mt:=mt) i f ρ with⟨x,hg,e⟩|e
  .rw[e]at hA
   have e3:tv cf mt (.fld i f) ρ=((if(Br ρ i f).isSome then Res.ok (Hd.fld i f) ρ else .stuck)).bind λh ρ=>Res.of ((h.cont ρ).bind CH) ρ:=by
    show(den cf mt (.fld i f)).b ρ=_;unfold den;rfl
   rw[e3,hg];have e4:((Hd.fld i f).cont ρ)=some (.b (.p x)):=hg;show C5 W NX (rB σ) H os σ (Res.of (((Hd.fld i f).cont ρ).bind CH) ρ) Q;rw[e4];exact hA
  .rw[e]at hA;exact hA.elim
theorem K5(hK:W.K=X.K)(hw:W.w=X.w){x:T}(nc:∀i f,x= .fld i f->Be e=false)(h:Aq X W cf mt e x):Aq X W cf mt e (ME x y):=by
 unfold ME;split
 .rename_i i f;split
  .exact h
  .exact Wa hK hw (nc i f rfl) h
 .exact h
end
def Pk(W:Wd)(cf:CF)(mt:MT)(k:Nat)(e:Expr):Prop:=∀{ct:Ct} {X:Cx} {t:T},Dm ct X W cf mt k->kE ct e=some t->Aq X W cf mt e t
section
variable{cf:CF}{mt:MT}{k:Nat}
theorem none_of{α:Type}{a:α}{p:Prop}(h:(none:Option α)=some a):p:=by cases h
variable{n:Nat}
theorem Ug{c:Const}{pos:Pos}:Pk W cf mt k (.Constant c n pos):=by
 intro ct X t L h;cases c with
 |none=>cases h;exact DI L.K L.w WX (λH=>Ae.mpr rfl) (λ_=>rfl) rfl
 |bool b=>cases h;exact DI L.K L.w aK (λH=>Al.mpr rfl) (λ_=>rfl) rfl
 |int i=>cases h;exact DI L.K L.w WZ (λH=>A4.mpr rfl) (λ_=>rfl) rfl
 |str x=>cases h;exact DI L.K L.w P6 (λH=>A6.mpr rfl) (λ_=>rfl) rfl
 |_=>exact none_of h
theorem Yd{pos:Pos}:Pk W cf mt k (.Name x pos):=by
 intro ct X t L h;change ct.name x=_ at h;unfold Ct.name at h;cases hs:ct.slot x with
 |some i=>
   rw[hs]at h;cases h;obtain⟨h1,h2,h3,h4⟩:=L.slot hs;exact RP L.K L.w h1 h2 h3 h4
 |none=>
   rw[hs]at h;dsimp only at h;split at h
   .rename_i hg;cases hl:ct.gl.lookup x with
    |none=>
      rw[hl]at h;obtain⟨n,hf,h⟩:=oB h;split at h
      case isFalse=>cases h
      rename_i hn;cases h;obtain⟨g1,g2,g3⟩:=L.glob hg;obtain⟨q1,q2,_⟩:=L.fns x n hf;exact DI L.K L.w (Mr (v:=.ref (W.Cb n)) g1 q1 rfl g2) (λH=>CB.mpr ⟨rfl,.inl hn⟩) (λ_=>rfl) rfl
    |some p=>
      rw[hl]at h;cases h;obtain⟨g1,g2,g3⟩:=L.glob hg;obtain⟨u,v,q1,q2,q3⟩:=L.gl x p hl;exact DI L.K L.w (Mr g1 q1 q2 g2) q3 (λ_=>rfl) rfl
   .cases h
theorem Ym{pos:Pos}:Pk W cf mt k (.Attribute o f pos):=by
 intro ct X t L h;cases o with
 |Name x p=>
   obtain⟨i,hs,rfl⟩:=oM h;obtain⟨h1,h2,h3,h4⟩:=L.slot hs;exact RW L.K L.w h1 h2 h3 h4
 |_=>exact none_of h
variable{ct:Ct}{X:Cx}
theorem Er{es:List Expr}(ih:∀e∈es,Pk W cf mt k e)(L:Dm ct X W cf mt k):∀{ts:List T},L9 ct es=some ts->BB X W cf mt es ts:=by
 induction es with
 |nil=>intro ts h;unfold L9 at h;cases h;exact .nil
 |cons e es ihl=>
   intro ts h;unfold L9 at h;obtain⟨t,h1,h2⟩:=oB h;obtain⟨us,h3,rfl⟩:=oM h2;exact .cons (ih e mS L h1) (ihl (λe he=>ih e (mC he)) h3)
theorem cB{es:List Expr}{pos:Pos}(ih:∀e∈es,Pk W cf mt k e):Pk W cf mt k (.Tuple es n pos):=by
 intro ct X t L h;obtain⟨ts,h1,rfl⟩:=oM h;exact RQ L.K L.w (Er ih L h1)
theorem cG{es:List Expr}{pos:Pos}(ih:∀e∈es,Pk W cf mt k e):Pk W cf mt k (.List es pos):=by
 intro ct X t L h;obtain⟨ts,h1,rfl⟩:=oM h;exact RT L.K L.w (Er ih L h1)
theorem Vv{i:Nat}(h:kE ct e=some (.fld i f)):Be e=false:=by
 cases e with
 |ListComp elt gs sc pos=>
   rcases gs with _|⟨⟨tg,it,ifs,n⟩,_|⟨g2,gs⟩⟩
   .exact none_of h
   .obtain⟨_,_,h⟩:=oB h;obtain⟨_,_,h⟩:=oB h;obtain⟨_,_,h⟩:=oB h;obtain⟨_,_,h⟩:=oB h;split at h
    .cases h
    .cases h
   .exact none_of h
 |SetComp _ _ _ _=>exact none_of h
 |DictComp _ _ _ _ _=>exact none_of h
 |_=>rfl
theorem cM{op:Operator}{pos:Pos}(ha:Pk W cf mt k a)(hb:Pk W cf mt k b):Pk W cf mt k (.BinOp a op b pos):=by
 intro ct X t L h;obtain⟨o,h1,h2⟩:=oB h;obtain⟨x,h3,h4⟩:=oB h2;obtain⟨y,h5,rfl⟩:=oM h4;have sx:=K5 (y:=y) L.K L.w (λi f e=>Vv (e▸h3)) (ha L h3);have sy:=hb L h5;cases op with
 |Add=>cases h1;exact DJ L.K L.w rfl (aZ L.K) (λ_ _=>rfl) rfl sx sy
 |Sub=>cases h1;exact DJ L.K L.w rfl (aT (W:=W)) (λ_ _=>rfl) rfl sx sy
 |Mult=>cases h1;exact DJ L.K L.w rfl (aW (W:=W)) (λ_ _=>rfl) rfl sx sy
 |Mod=>cases h1;exact DJ L.K L.w rfl (aX (W:=W)) (λ_ _=>rfl) rfl sx sy
 |FloorDiv=>cases h1;exact DJ L.K L.w rfl (Xf (W:=W)) (λ_ _=>rfl) rfl sx sy
 |Pow=>cases h1;exact DJ L.K L.w rfl (aU (W:=W)) (λ_ _=>rfl) rfl sx sy
 |BitAnd=>cases h1;exact DK L.K L.w rfl rfl rfl rfl
 |RShift=>cases h1;exact DK L.K L.w rfl rfl rfl rfl
 |_=>exact none_of h1
theorem gx{op:UnaryOp}{pos:Pos}(ha:Pk W cf mt k a):Pk W cf mt k (.UnaryOp op a pos):=by
 intro ct X t L h;cases op with
 |Not=>
   obtain⟨x,h1,rfl⟩:=oM h;exact RR L.K L.w (ha L h1)
 |USub=>
   obtain⟨x,h1,rfl⟩:=oM h;exact RS L.K L.w (ha L h1)
 |_=>exact none_of h
variable{op:PySem.BoolOp}
theorem Vx(L:Dm ct X W cf mt k):∀{es:List Expr} {t:T},(∀e∈es,Pk W cf mt k e)->kB ct op es=some t->JM X W cf mt op es t/\(2<=es.length->∃x y,t= .and x y\/t= .or x y)
 |[],t,_,h=>by unfold kB at h;cases h
 | [e],t,ih,h=>by
   unfold kB at h;exact⟨.one (ih e mS L h),λz=>by simp at z⟩
 | e::e'::es,t,ih,h=>by
   unfold kB at h;obtain⟨x,h1,h2⟩:=oB h;obtain⟨y,h3,rfl⟩:=oM h2;have sx:=ih e mS L h1;have sy:=(Vx L (λe he=>ih e (mC he)) h3).1;cases op with
   |And=>exact⟨.and sx sy,λ_=>⟨x,y,.inl rfl⟩⟩
   |Or=>exact⟨.or sx sy,λ_=>⟨x,y,.inr rfl⟩⟩
theorem Yl{es:List Expr}{pos:Pos}(ih:∀e∈es,Pk W cf mt k e):Pk W cf mt k (.BoolOp op es pos):=by
 intro ct X t L h;change (if 2<=es.length then kB ct op es else none)=_ at h;split at h
 .rename_i hl;obtain⟨h1,h2⟩:=Vx L ih h;obtain⟨x,y,e⟩:=h2 hl;rcases e with rfl|rfl
  .exact Aq.Xe L.K L.w (λ_ _=>rfl) rfl rfl (h1.v pos) (PW.pt (h1.w pos)) rfl
  .exact Aq.Xe L.K L.w (λ_ _=>rfl) rfl rfl (h1.v pos) (PW.pt (h1.w pos)) rfl
 .cases h
theorem Y4(h1:∀a b,Av o [a,b]=Cw o a b)(h2:Av o []=none)(h3:∀a,Av o [a]=none)(h4:∀a b c r,Av o (a::b::c::r)=none):∀cs c,Av o cs=some c->∃b,c= .p (.bl b):=by
 intro cs c e;rcases cs with _|⟨a,_|⟨b,_|⟨d,r⟩⟩⟩
 .rw[h2]at e;cases e
 .rw[h3]at e;cases e
 .rw[h1]at e;obtain⟨x,_,rfl⟩:=B9 e;exact⟨x,rfl⟩
 .rw[h4]at e;cases e
theorem JA(op:CmpOp)(L:Dm ct X W cf mt k):C4 X (compareOp op) (BX W (Cw (Th op))):=by
 cases op with
 |Eq=>exact(Pj L.K L.w L.un).1
 |NotEq=>exact(Pj L.K L.w L.un).2
 |Lt=>exact fW
 |LtE=>exact fX
 |Gt=>exact g9
 |GtE=>exact gb
 |Is=>exact fY
 |IsNot=>exact aY
 |In=>exact fZ
 |NotIn=>exact aV
theorem Yj{op:CmpOp}{pos:Pos}(ha:Pk W cf mt k a)(hb:Pk W cf mt k b):Pk W cf mt k (.Compare a [op] [b] pos):=by
 intro ct X t L h;obtain⟨x,h3,h4⟩:=oB h;obtain⟨y,h5,rfl⟩:=oM h4;have sx:=K5 (y:=y) L.K L.w (λi f e=>Vv (e▸h3)) (ha L h3);have sy:=hb L h5;have ho:=JA op L;cases op<;>exact RX L.K L.w rfl ho (λ_ _=>rfl) (Y4 (λ_ _=>rfl) rfl (λ_=>rfl) (λ_ _ _ _=>rfl)) rfl sx sy
theorem Yi{o1 o2:CmpOp}{pos:Pos}(ha:Pk W cf mt k a)(hb:Pk W cf mt k b)(hc:Pk W cf mt k c):Pk W cf mt k (.Compare a [o1,o2] [b,c] pos):=by
 intro ct X t L h;obtain⟨x,h3,h4⟩:=oB h;obtain⟨y,h5,h6⟩:=oB h4;obtain⟨z,h7,h8⟩:=oB h6;split at h8
 .rename_i p;split at h8
  .rename_i hp;cases h8;exact Nb L.K L.w rfl (JA o1 L) (JA o2 L) hp (ha L h3) (hb L h5) (hc L h7)
  .cases h8
 .cases h8
theorem cL{ops:List CmpOp}{cs:List Expr}{pos:Pos}(ha:Pk W cf mt k a)(ih:∀e∈cs,Pk W cf mt k e):Pk W cf mt k (.Compare a ops cs pos):=by
 rcases ops with _|⟨o1,_|⟨o2,_|⟨o3,os⟩⟩⟩
 .intro ct X t L h;rcases cs with _|⟨b,_|⟨c,_|⟨d,cs⟩⟩⟩<;>(exact none_of h)
 .rcases cs with _|⟨b,_|⟨c,cs⟩⟩
  .intro ct X t L h;exact none_of h
  .exact Yj ha (ih b mS)
  .intro ct X t L h;exact none_of h
 .rcases cs with _|⟨b,_|⟨c,_|⟨d,cs⟩⟩⟩
  .intro ct X t L h;exact none_of h
  .intro ct X t L h;exact none_of h
  .exact Yi ha (ih b mS) (ih c (mC mS))
  .intro ct X t L h;exact none_of h
 .intro ct X t L h;rcases cs with _|⟨b,_|⟨c,_|⟨d,cs⟩⟩⟩<;>(exact none_of h)
def Ps(W:Wd)(cf:CF)(mt:MT)(k:Nat)(e:Expr):Prop:=∀lo hi st p,e= .Slice lo hi st p->(∀x,lo=some x->Pk W cf mt k x)/\∀x,hi=some x->Pk W cf mt k x
theorem P0(h:AF b=true):JN b:=by
 intro o i;cases b<;>first|rfl|cases h
theorem cC{pos:Pos}(hv:Pk W cf mt k v)(hi:Pk W cf mt k i)(hs:Ps W cf mt k i):Pk W cf mt k (.Subscript v i pos):=by
 intro ct X t L h
 have plain:((kE ct v).bind λx=>(kE ct i).map λy=>T.prim .idx [x,y])=some t->Aq X W cf mt (.Subscript v i pos) t:=λh=>by
  obtain⟨x,h3,h4⟩:=oB h;obtain⟨y,h5,rfl⟩:=oM h4;have sy:=hi L h5;exact RV L.K L.w L.un (P0 sy.st) (hv L h3) sy
 cases i with
 |Slice lo hi' st p=>
   cases st with
   |none=>
     obtain⟨x,h3,h4⟩:=oB h;obtain⟨l,h5,h6⟩:=oB h4;obtain⟨u,h7,rfl⟩:=oM h6;obtain⟨s1,s2⟩:=hs lo hi' none p rfl;have sx:=hv L h3;cases lo with
     |none=>
       unfold kO at h5;cases h5;cases hi' with
       |none=>unfold kO at h7;cases h7;exact OE L.K L.w sx
       |some b=>
         unfold kO at h7;obtain⟨y,h8,rfl⟩:=oM h7;exact OC L.K L.w sx (s2 b rfl L h8)
     |some a=>
       unfold kO at h5;obtain⟨y,h8,rfl⟩:=oM h5;cases hi' with
       |none=>unfold kO at h7;cases h7;exact OD L.K L.w sx (s1 a rfl L h8)
       |some b=>
         unfold kO at h7;obtain⟨z,h9,rfl⟩:=oM h7;exact OB L.K L.w sx (s1 a rfl L h8) (s2 b rfl L h9)
   |some st=>exact plain h
 |_=>exact plain h
end
section
variable{cf:CF}{mt:MT}
theorem cO:B5 X (.builtin "abs") (AL W (Nr (F7 Ut))):=by
 intro pins s σ H xs us Q I r h;obtain⟨x,c,r',rfl,h1,e,q⟩:=Cd h;obtain⟨u,rfl,ru⟩:=vals1 r;unfold F7 at e;split at e
 .rename_i i;cases e;cases Ax h1;obtain⟨t,rfl⟩:=ru;exact call_abs_int λu tk=>⟨.int (if i < 0 then -i else i),H,I.tok tk,⟨_,rfl⟩,q.plain (A4.mpr rfl)⟩
 .cases e
theorem cD:B5 X (.type "str") (AL W (Nr (F7 Ov))):=by
 intro pins s σ H xs us Q I r h;obtain⟨x,c,r',rfl,h1,e,q⟩:=Cd h;obtain⟨u,rfl,ru⟩:=vals1 r;unfold F7 at e;split at e
 .rename_i i;obtain⟨k,ek,rfl⟩:=oM e;unfold Ov at ek;split at ek
  case isFalse=>cases ek
  rename_i hl;cases ek;cases Ax h1;obtain⟨t,rfl⟩:=ru;exact PySem.P.str_of_int hl ⟨.str (toString i),H,I.tok _,⟨_,rfl⟩,q.plain (A6.mpr rfl)⟩
 .cases e
theorem cK:B5 X (.type "int") (AL W (Nr PZ)):=by
 intro pins s σ H xs us Q I r h;obtain⟨x,c,r',rfl,h1,e,q⟩:=Cd h;unfold PZ at e;split at e
 .rename_i i;cases e;cases Ax h1;exact IA pins s σ H _ us Q I r (.inl ⟨i,rfl,q.plain (A4.mpr rfl)⟩)
 .rename_i y;split at e
  case isFalse=>cases e
  rename_i hd;cases e;rw[bA]at hd;have h2:=of_decide_eq_true hd.2;have hall:PySem.NumText.AllDigits y.cps.toList:=λc hc=>of_decide_eq_true (all_eq_true.mp hd.1 c hc)
  cases BO h1;obtain⟨u,rfl,t,rfl⟩:=vals1 r
  have hne:y.cps.toList≠[]:=λz=>by
   have:y.cps.toList.length=y.length:=by show y.cps.toList.length=y.cps.size;simp
   rw[z]at this;have:=h2.1;simp at *
   lia
  exact PySem.W.KIN.call_text (PySem.intText_digits hall hne (by lia)) h2.2 ⟨.int (G3 y.cps.toList:Nat),H,I.tok _,⟨_,rfl⟩,q.plain (A4.mpr rfl)⟩
 .rename_i b;cases e;cases OP h1;exact IA pins s σ H _ us Q I r (.inr ⟨b,rfl,q.plain (A4.mpr rfl)⟩)
 .cases e
end
section
variable{cf:CF}{mt:MT}
theorem GI{H:Hp}:∀{ps:List P} {vs:List V} {ns:List Str},A2 W H ps vs->strsOf ps=some ns->vs=ns.map V.str
 |[],vs,ns,h,e=>by unfold A2 at h;cases e;exact h
 | .str i::ps,vs,ns,h,e=>by
   unfold strsOf at e;obtain⟨ms,em,rfl⟩:=oM e;unfold A2 at h;obtain⟨v,r,rfl,h1,h2⟩:=h;cases A6.mp h1;rw[GI h2 em];rfl
 |.Az::_,_,_,_,e=>by cases e
 |.int _::_,_,_,_,e=>by cases e
 |.bl _::_,_,_,_,e=>by cases e
 |.tup _::_,_,_,_,e=>by cases e
 |.fn _::_,_,_,_,e=>by cases e
theorem Eh:∀{ys:List Str} {us:List Value},Vals (ys.map V.str) us->StrsAre us ys
 |[],us,h=>by cases h;exact .nil
 | y::ys,us,h=>by
   cases h with
   |cons r t=>obtain⟨tk,rfl⟩:=r;exact .cons y tk (Eh t)
theorem SV(hK:W.K=X.K)(hw:W.w=X.w)(z:Str):NY X "str.join" (λx xs H Q=>x= .str z/\AL W (Nr (G1 z)) xs H Q):=by
 intro pins s σ H x xs v us Q I rx r h;obtain⟨rfl,h⟩:=h;obtain⟨tz,rfl⟩:=rx;obtain⟨x,c,r',rfl,h1,e,q⟩:=Cd h;obtain⟨u,rfl,ru⟩:=vals1 r;unfold G1 at e;obtain⟨ys,e1,e2⟩:=oB e;obtain⟨ps,e3,e4⟩:=oB e1;split at e2
 case isFalse=>cases e2
 rename_i hb;cases e2;have hb2:(ys.map (·.length)).sum+ys.length*z.length<=16777216:=Nat.le_trans hb (by decide);unfold Cj at e3;split at e3
 .rename_i qs hn;cases e3;obtain⟨a,vs,rfl,k1,k2⟩:=CC h1 hn;cases ru;obtain⟨its,rv,p,hz⟩:=I.list (hK▸k1);rw[GI k2 e4]at rv;exact join_list p.isList (Eh rv) hb2 λt' k=>⟨.str (Ky z ys),H,I.tok k,⟨t',rfl⟩,q.plain (A6.mpr rfl)⟩
 .rename_i qs hn;cases e3;rw[Fv hn]at h1;obtain⟨a,vs,rfl,k1,k2⟩:=C8 h1;cases ru;obtain⟨its,rv,p⟩:=Ao (hw▸I.Ak) (hK▸I.Bm) k1;rw[GI k2 e4]at rv;exact join_tuple p (Eh rv) hb2 λt' k=>⟨.str (Ky z ys),H,I.tok k,⟨t',rfl⟩,q.plain (A6.mpr rfl)⟩
 .cases e3
theorem OA(hK:W.K=X.K)(hw:W.w=X.w){k:Nat}{apos pos:Pos}(hline:(apos.endLine == pos.line)=true)(h:Aq X W cf mt a t):Aq X W cf mt (.Call (.Attribute (.Constant (.str z) k p) "join" apos) [a] [] pos) (.prim (.join z) [t]):=by
 obtain⟨ta,q1,q3,m1⟩:=H9 h;have hs:starEach [a] X.env=[(false,eval a X.env)]:=Aa h.st [] X.env;refine Aq.of hK hw AE AX rfl rfl (Aj (Pd PySem.F.plainAttrs_str PySem.F.slot_str_join PySem.F.type_str_join (SV hK hw z) P6 (Ce q1 El hs) rfl (by rw[hs];rfl) hline hs rfl) λσ H Q z'=>?_) (λ_=>rfl) rfl;have z':=AY (o:=.join z) rfl z';rw[q3]at z';refine⟨rfl,?_⟩;refine m1 _ _ _ _ z' λv H1 y=>⟨rfl,?_⟩
 obtain⟨c,r,g1,g2,g3⟩:=Cm (g:=Av (.join z)) (g1:=G1 z) (λ_=>rfl) y;exact⟨[c],r,⟨v,[],rfl,g1,rfl⟩,g2,g3⟩
end
section
variable{cf:CF}{mt:MT}
theorem sw_eq{x y:Str}{i:Int}(h0:0<=i)(h1:i<=x.length):(decide (fromIndex x.length i + y.length<=x.length) && Builtin.Str.subAt x y (fromIndex x.length i))=decide ((x.cps.toList.drop i.toNat).take y.length=y.cps.toList):=by
 have e:fromIndex x.length i=i.toNat:=by
  unfold fromIndex;rw[iN (by lia),Int.max_eq_right h0]
 have hx:x.cps.toList.length=x.length:=by show x.cps.toList.length=x.cps.size;simp
 have hy:y.cps.toList.length=y.length:=by show y.cps.toList.length=y.cps.size;simp
 rw[e];unfold Builtin.Str.subAt
 by_cases h:(x.cps.toList.drop i.toNat).take y.length=y.cps.toList
 .rw[decide_eq_true h];have hl:=congrArg List.length h;rw[length_take,length_drop,hx,hy]at hl
  have e2:x.cps.extract i.toNat (i.toNat + y.length)=y.cps:=by
   rw[<-Array.toList_inj,Array.toList_extract,<-h];simp[List.extract]
  rw[e2,decide_eq_true (by lia)];simp
 .rw[dF h]
  have:(x.cps.extract i.toNat (i.toNat + y.length) == y.cps)=false:=by
   rw[beq_eq_false_iff_ne];intro z;refine h ?_;rw[<-z,Array.toList_extract];simp[List.extract]
  rw[this,Bool.and_false]
theorem bc:NY X "str.startswith" (λx xs H Q=>∃(a y:Str) (i:Int),x= .str a/\xs=[.str y,.int i]/\0<=i/\i<=a.length/\Q (.bl (decide ((a.cps.toList.drop i.toNat).take y.length=y.cps.toList))) H):=by
 intro pins s σ H x xs v us Q I rx r h;obtain⟨a,y,i,rfl,rfl,h0,h1,q⟩:=h;obtain⟨t,rfl⟩:=rx;obtain⟨u,w,rfl,⟨t2,rfl⟩,⟨t3,rfl⟩⟩:=vals2 r;refine call_gives PySem.F.slot_str_startswith (typeIs_str _ _ _) PySem.F.entry_str_startswith (PySem.F.args_str_startswith_3 _ _ _) (gives_str_startswith_from a y i t t2 t3) ?_;exact⟨.bl _,H,I,rfl,by rw[<-sw_eq h0 h1]at q;exact q⟩
theorem ao{H:Hp}{cs:List C}{a b c:V}(h:Cy W H cs [a,b,c]):∃x y z,cs=[x,y,z]/\Dq W H x a/\Dq W H y b/\Dq W H z c:=by
 rcases cs with _|⟨x,_|⟨y,_|⟨z,_|⟨w,r⟩⟩⟩⟩
 .unfold Cy at h;cases h
 .obtain⟨_,_,e,_,h⟩:=h;cases e;unfold Cy at h;cases h
 .obtain⟨_,_,e,_,h⟩:=h;cases e;obtain⟨_,_,e,_,h⟩:=h;cases e;unfold Cy at h;cases h
 .obtain⟨_,_,e,h1,h⟩:=h;cases e;obtain⟨_,_,e,h2,h⟩:=h;cases e;obtain⟨_,_,e,h3,h⟩:=h;cases e;exact⟨x,y,z,rfl,h1,h2,h3⟩
 .obtain⟨_,_,e,_,h⟩:=h;cases e;obtain⟨_,_,e,_,h⟩:=h;cases e;obtain⟨_,_,e,_,h⟩:=h;cases e;obtain⟨_,_,e,_,h⟩:=h;cases e
theorem Oa.x(hK:W.K=X.K){to:TE}(h:Oa X W e o to):PE X e (tX W o):=by
 cases h with
 |nm h=>exact Aj h λσ H Q ⟨v,h1,h2⟩=>⟨v,h1,h2⟩
 |fl h=>exact Aj h λσ H Q ⟨v,⟨a,C,dx,fs,q1,q2,q3,q4,q5⟩,q⟩=>⟨.ref a,q1,a,C,dx,fs,v,rfl,q2,hK▸q3,hK▸q4,q5,q⟩
theorem W9(hK:W.K=X.K)(hw:W.w=X.w){x0 x y:T}{apos pos:Pos}(hbase:attributeBase o (Str.ofString "startswith") X.env (eval o X.env)=eval o X.env)(hline:(apos.endLine == pos.line)=true)(h0:PE X o (tX W x0))(h1:Aq X W cf mt a x)(h2:Aq X W cf mt b y)(hc:(x0.calm && x.calm && y.calm)=true):
 Aq X W cf mt (.Call (.Attribute o (Str.ofString "startswith") apos) [a,b] [] pos) (.prim .sw [x0,x,y]):=by
 rw[bA,bA]at hc;obtain⟨⟨c0,c1⟩,c2⟩:=hc;have hs:starEach [a,b] X.env=[(false,eval a X.env),(false,eval b X.env)]:=by rw[Aa h1.st,Aa h2.st];rfl
 refine Aq.of hK hw AE AX rfl rfl (Aj (Pd PySem.F.plainAttrs_str PySem.F.slot_str_startswith PySem.F.type_str_startswith bc h0 (Ce (h1.x c1) (Ce (h2.x c2) El (Aa h2.st [] _)) (Aa h1.st _ _)) hbase (by rw[hs];rfl) hline (Aa h1.st _ _) (Bj (λe he=>by rw[mE he];exact h2.st) pos _)) λσ H Q z=>?_) (λ_=>rfl) rfl;have z:=AY (o:=.sw) rfl z;unfold GF at z;rw[iP (by simp[c0,c1,c2])]at z;obtain⟨v0,r0,v1,r1,v2,r2,cs,c,g1,g2,g3⟩:=z;obtain⟨k0,k1,k2,rfl,d0,d1,d2⟩:=ao g1;change Zb _ _ _=some c at g2;unfold Zb at g2;split at g2
 .rename_i xx yy ii;split at g2
  .rename_i hi;cases g2;cases BO d0;cases BO d1;cases Ax d2;exact⟨_,r0,rfl,_,r1,_,r2,xx,yy,ii,rfl,rfl,hi.1,hi.2,g3.bl⟩
  .cases g2
 .cases g2
end
section
variable{cf:CF}{mt:MT}
theorem SI{i k:Nat}{e:Expr}{es:List Expr}{t:TA}{pos:Pos}(hv:PE X (.Name x p) (Fq i))(hr:Bk k X.A)(ha:PA X (e::es) t)(hpl:∀a∈e::es,AF a=true):
 PE X (.Call (.Name x p) (e::es) [] pos) (λσ H Q=>∃n,σ[i]? =some (some (.ref (W.Cb n)))/\keepIn X.K (.ref (W.Cb n))=true/\Z5 X W cf k n/\t σ H λvs H1=>K3 W (cf n) vs H1 Q E0):=by
 rintro pins s σ H Q I ⟨n,hs,hk,F,h⟩
 obtain⟨fd,ps,F1,F2⟩:=F.ex;refine wpAny_Call_Name_kw (B4 (hv pins s σ H (λv H1=>v= .ref (W.Cb n)/\H1=H) I ⟨_,hs,rfl,rfl⟩) λv s1 ⟨y,H1,I1,r1,e1,e2⟩=>?_);subst e1;subst e2;cases r1;refine callWith_K (h₀:=X.base) I1.ok.mod.C6 hk (B4 (ha pos pins s1 σ H1 _ I1 h) λus s2 ⟨vs,H2,I2,r,q⟩=>⟨I2.Bm,?_⟩) (Aa (hpl e mS) es _) (Bj (λe he=>hpl e (mC he)) pos _);exact GS (dvs:=[]) (ds:=[]) F1 hr F2 .nil GZ I2 r (by rw[append_nil];exact q)
theorem U0(i:Nat)(ts:List T)(ρ:Env):ev cf mt (.Ew i ts) ρ=match A7 ρ i with
 |some (.b (.p (.fn n)))=>if mt.tf n then(A9 cf mt ts ρ).bind λhs ρ=>AH cf n hs ρ else .stuck
 |_=>.stuck:=by
 show(den cf mt (.Ew i ts)).v ρ=_
 conv=>lhs;unfold den
 all_goals rfl
theorem OH(hK:W.K=X.K)(hw:W.w=X.w){i k:Nat}{e:Expr}{es:List Expr}{ts:List T}{pos:Pos}(hv:PE X (.Name x p) (Fq i))(hr:Bk k X.A)(hf:∀n,mt.tf n=true->keepIn X.K (.ref (W.Cb n))=true/\Z5 X W cf k n)(h:BB X W cf mt (e::es) ts):
 Aq X W cf mt (.Call (.Name x p) (e::es) [] pos) (.Ew i ts):=by
 refine Aq.of hK hw (λ_ _=>rfl) (λρ=>by show(den cf mt (.Ew i ts)).b ρ=(((den cf mt (.Ew i ts)).v ρ).bind _).bind _;unfold den;rfl) rfl rfl (Aj (SI (W:=W) (cf:=cf) hv hr (Dv h) h.plain) λσ H Q z=>?_) (λ_=>rfl) rfl;obtain⟨ρ,os,hR,hn,hA⟩:=z;rw[U0]at hA;split at hA
 .rename_i n hg;split at hA
  .rename_i ht;obtain⟨g1,g2⟩:=hf n ht;obtain⟨v,o,q1,q2,_⟩:=hR.get hg;have e1:v= .ref (W.Cb n):=(CB.mp q2.1).1;subst e1;exact⟨n,q1,g1,g2,Gw (E:=E0) g2.ne ⟨ρ,os,hR,hn,hA⟩⟩
  .exact hA.elim
 .exact hA.elim
end
section
variable{cf:CF}{mt:MT}{k:Nat}
theorem A8{α:Type}{c:Prop}[Decidable c]{a b:Option α}{t:α}(h:(if c then a else b)=some t):(c/\a=some t)\/(¬c/\b=some t):=by
 by_cases hc:c
 .rw[iP hc]at h;exact .inl ⟨hc,h⟩
 .rw[iN hc]at h;exact .inr ⟨hc,h⟩
variable{X:Cx}
theorem BB.one{es:List Expr}{t:T}(h:BB X W cf mt es [t]):∃e,es=[e]/\Aq X W cf mt e t:=by
 cases h with
 |cons h r=>cases r;exact⟨_,rfl,h⟩
theorem BB.two{es:List Expr}{t u:T}(h:BB X W cf mt es [t,u]):∃e f,es=[e,f]/\Aq X W cf mt e t/\Aq X W cf mt f u:=by
 cases h with
 |cons h r=>
   obtain⟨f,rfl,h2⟩:=r.one;exact⟨_,f,rfl,h,h2⟩
variable{ct:Ct}
theorem Xr(L:Dm ct X W cf mt k)(hg:Gl X "list")(hm:X.mg "list"=none){u:T}{p pos:Pos}(h:Aq X W cf mt a t)(e:PH t=some u):Aq X W cf mt (.Call (.Name "list" p) [a] [] pos) u:=by
 unfold PH at e;split at e
 .cases e
 .cases e;exact Mi L.K L.w rfl (Ye L.K L.calm) (Em λ_=>rfl) MR hg hm (by decide) (by decide) rfl (.cons h .nil)
theorem W2(L:Dm ct X W cf mt k)(hg:Gl X "tuple")(hm:X.mg "tuple"=none){u:T}{p pos:Pos}(h:Aq X W cf mt a t)(e:Oi t=some u):Aq X W cf mt (.Call (.Name "tuple" p) [a] [] pos) u:=by
 unfold Oi at e;split at e
 .cases e
 .cases e;exact Mi L.K L.w rfl (Ue L.K) (Em λ_=>rfl) KU hg hm (by decide) (by decide) rfl (.cons h .nil)
theorem Yr:bootBuiltins "abs"=some (.builtin "abs"):=rfl
variable{ts:List T}
theorem Yu(L:Dm ct X W cf mt k){es:List Expr}{t:T}{pos:Pos}(ho:ct.own x=true)(h:BB X W cf mt es ts)(e:Zl x ts=some t):Aq X W cf mt (.Call (.Name x p) es [] pos) t:=by
 obtain⟨hg,hm,_,_⟩:=L.Ph ho;have bad:∀{o:O} {us:List T},o.ok=false->AV (.prim o us)=(.op,[.prim o us])->Aq X W cf mt (.Call (.Name x p) es [] pos) (.prim o us):=λh1 h2=>DK L.K L.w h1 h2 rfl rfl
 unfold Zl at e
 match ts,h,e with
 |[u],h,e=>
   obtain⟨a,rfl,sa⟩:=h.one;rcases A8 e with⟨hx,e⟩|⟨_,e⟩
   .subst hx;cases e;exact Mj L.K L.w rfl (cH L.K) (Em λ_=>rfl) QF hg hm (by decide) (by decide) rfl h
   rcases A8 e with⟨hx,e⟩|⟨_,e⟩
   .subst hx;exact Xr L hg hm sa e
   rcases A8 e with⟨hx,e⟩|⟨_,e⟩
   .subst hx;exact W2 L hg hm sa e
   rcases A8 e with⟨hx,e⟩|⟨_,e⟩
   .subst hx;cases e;exact Mj L.K L.w rfl (cN L.K L.calm) (Em λ_=>rfl) Yq hg hm (by decide) (by decide) rfl h
   rcases A8 e with⟨hx,e⟩|⟨_,e⟩
   .subst hx;cases e;exact Mj L.K L.w rfl (cO (W:=W)) (Em λ_=>rfl) Yr hg hm (by decide) (by decide) rfl h
   rcases A8 e with⟨hx,e⟩|⟨_,e⟩
   .subst hx;cases e;exact Mi L.K L.w rfl (cD (W:=W)) (Em λ_=>rfl) QE hg hm (by decide) (by decide) rfl h
   rcases A8 e with⟨hx,e⟩|⟨_,e⟩
   .subst hx;cases e;exact Mi L.K L.w rfl (cK (W:=W)) (Em λ_=>rfl) QG hg hm (by decide) (by decide) rfl h
   rcases A8 e with⟨hx,e⟩|⟨_,e⟩
   .subst hx;cases e;exact HU hg hm h (.inl rfl)
   rcases A8 e with⟨hx,e⟩|⟨_,e⟩
   .cases e;exact bad rfl rfl
   .cases e
 |[u,v],h,e=>
   obtain⟨a,b,rfl,sa,sb⟩:=h.two;rcases A8 e with⟨hx,e⟩|⟨_,e⟩
   .subst hx;cases e;exact Mj L.K L.w rfl (cF (W:=W) L.calm) (Xd λ_ _=>rfl) Yo hg hm (by decide) (by decide) rfl h
   .cases e
 |[u,v,w],h,e=>
   rcases A8 e with⟨hx,e⟩|⟨_,e⟩
   .subst hx;cases e;exact HU hg hm h (.inr (.inr rfl))
   .cases e
 |[],h,e=>cases e
 |_::_::_::_::_,h,e=>cases e
theorem Px(L:Dm ct X W cf mt k){i:Nat}(st:AF e=true)(nc:Be e=false):Aq X W cf mt e (.Ag m (.fld i f) ts):=by
 have hv:∀ρ,ev cf mt (.Ag m (.fld i f) ts) ρ= .stuck:=λρ=>by
  show(den cf mt (.Ag m (.fld i f) ts)).v ρ=_;unfold den;rfl
 exact Aq.not L.K L.w (λ_ _=>rfl) hv (λρ=>by
  show(den cf mt (.Ag m (.fld i f) ts)).b ρ=_;unfold den
  rfl) rfl rfl st nc
variable{apos:Pos}
theorem Vu(L:Dm ct X W cf mt k){to:TE}(hr:Oa X W e o to){es:List Expr}{t:T}{pos:Pos}(Ak:O8 m es.length apos pos=true)(h:BB X W cf mt es ts)(hk:kM m o ts=some t):Aq X W cf mt (.Call (.Attribute e m apos) es [] pos) t:=by
 unfold O8 at Ak;rw[bA,bA]at Ak;obtain⟨⟨hline,hl⟩,hni⟩:=Ak;have hl:=of_decide_eq_true hl;have hni:=of_decide_eq_true hni;have bad:∀{o:O} {us:List T},o.ok=false->AV (.prim o us)=(.op,[.prim o us])->Aq X W cf mt (.Call (.Attribute e m apos) es [] pos) (.prim o us):=λh1 h2=>DK L.K L.w h1 h2 rfl rfl
 have Ag:t= .Ag m o ts->Aq X W cf mt (.Call (.Attribute e m apos) es [] pos) t:=λz=>by
  subst z;cases hr with
  |nm hx=>exact Oy L.K L.w L.dE (L.room.mono (Nat.le_succ _)) hx hni hl hline h
  |fl hx=>exact Px L rfl rfl
 unfold kM at hk;cases hb:gy m o ts with
 |none=>rw[hb]at hk;cases hk;exact Ag rfl
 |some z=>
   rw[hb]at hk;cases hk;unfold gy at hb
   match ts,h,hb with
   |[],h,hb=>
     cases h;rcases A8 hb with⟨hx,hb⟩|⟨_,hb⟩
     .subst hx;cases hb;exact Ox L.K L.w SU PySem.F.slot_list_pop PySem.F.type_list_pop Xl hr hline
     .cases hb
   |[u],h,hb=>
     obtain⟨a,rfl,sa⟩:=h.one;rcases A8 hb with⟨hx,hb⟩|⟨_,hb⟩
     .subst hx;cases hb;exact K4 L.K L.w Lz PySem.F.slot_list_append PySem.F.type_list_append Nx hr hline sa
     rcases A8 hb with⟨hx,hb⟩|⟨_,hb⟩
     .subst hx;cases hb;exact K4 L.K L.w (Ly L.K) PySem.F.slot_list_extend PySem.F.type_list_extend Xm hr hline sa
     .cases hb
   |[u,v],h,hb=>
     obtain⟨a,b,rfl,sa,sb⟩:=h.two;rcases A8 hb with⟨hx,hb1⟩|⟨_,hb⟩
     .rcases A8 hb1 with⟨hc,hb3⟩|⟨_,hb3⟩
      .cases hb3;subst hx;exact W9 L.K L.w (hr.base _ _) hline (hr.x L.K) sa sb hc
      .cases hb3
     .cases hb
   |_::_::_::_,h,hb=>cases hb
theorem Zy{t:Ty}(h:tyName y=some t):bootBuiltins y=some (.type (Ma t))/\∀cs,t≠.cls cs:=by
 unfold tyName at h;rcases A8 h with⟨hy,h⟩|⟨_,h⟩
 .subst hy;cases h;exact⟨QG,λ_ z=>by cases z⟩
 rcases A8 h with⟨hy,h⟩|⟨_,h⟩
 .subst hy;cases h;exact⟨Uj,λ_ z=>by cases z⟩
 rcases A8 h with⟨hy,h⟩|⟨_,h⟩
 .subst hy;cases h;exact⟨QE,λ_ z=>by cases z⟩
 rcases A8 h with⟨hy,h⟩|⟨_,h⟩
 .subst hy;cases h;exact⟨KU,λ_ z=>by cases z⟩
 rcases A8 h with⟨hy,h⟩|⟨_,h⟩
 .subst hy;cases h;exact⟨MR,λ_ z=>by cases z⟩
 rcases A8 h with⟨hy,h⟩|⟨_,h⟩
 .subst hy;cases h;exact⟨Ui,λ_ z=>by cases z⟩
 .cases h
def Pq(W:Wd)(cf:CF)(mt:MT)(k:Nat)(e:Expr):Prop:=∀x p l pos,e= .Call (.Name x p) [l] [] pos->Pk W cf mt k l
variable{args:List Expr}
theorem Ul{t:T}(h:Um ct x args ts=some t):Zl x ts=some t\/∃y q l p2 u,x="len"/\y=Str.ofString "set"/\args=[.Call (.Name y q) [l] [] p2]/\ts=[.prim .Jn [u]]/\ct.own y=true/\t= .prim .Dz [u]:=by
 unfold Um at h;rcases A8 h with⟨hx,h2⟩|⟨_,h2⟩
 .cases hs:setOf ct args ts with
  |none=>rw[hs]at h2;exact .inl h2
  |some u=>
    rw[hs]at h2;cases h2;unfold setOf at hs;split at hs
    .rename_i y q l p2 u';rcases A8 hs with⟨hc,h3⟩|⟨_,h3⟩
     .cases h3;rw[bA]at hc;exact .inr ⟨y,q,l,p2,u,hx,of_decide_eq_true hc.1,rfl,rfl,hc.2,rfl⟩
     .cases h3
    .cases hs
 .exact .inl h2
theorem S3{q:Pos}{l:Expr}{u:T}(ho:ct.own "set"=true)(h:kE ct (.Call (.Name "set" q) [l] [] p2)=some (.prim .Jn [u])):kE ct l=some u:=by
 unfold kE at h;rw[iP ho,iN (by decide)]at h;obtain⟨ts,h1,h2⟩:=oB h;unfold Um at h2;rw[iN (by decide)]at h2;unfold L9 at h1;obtain⟨t',h3,h4⟩:=oB h1;obtain⟨us,h5,h6⟩:=oM h4;unfold L9 at h5;cases h5;cases h6;have h7:Zl "set" [t']=some (.prim .Jn [t']):=rfl;rw[h7]at h2;cases h2;exact h3
theorem Uh{pos:Pos}(ih:∀e∈args,Pk W cf mt k e)(iq:∀e∈args,Pq W cf mt k e):Pk W cf mt k (.Call (.Name x p) args [] pos):=by
 intro ct X t L h;unfold kE at h;rcases A8 h with⟨ho,h⟩|⟨_,h⟩
 .rcases A8 h with⟨hx,h6⟩|⟨_,h⟩
  .clear h;subst hx
   match args,ih,h6 with
   |[],ih,h5=>exact none_of h5
   |[_],ih,h5=>exact none_of h5
   |[a, b],ih,h5=>
     cases b with
     |Name y q=>
       obtain⟨u,h1,h2⟩:=oB h5;obtain⟨ty,h3,rfl⟩:=oM h2;have sa:=ih a mS L h1;obtain⟨g1,g2,_,_⟩:=L.Ph ho;rcases A8 h3 with⟨hoy,h3⟩|⟨_,h3⟩
       .obtain⟨g3,g4,g5,g6⟩:=L.Ph hoy;obtain⟨t1,t2⟩:=Zy h3;exact RU L.K L.w t2 t1 g3 g4 g6 g5 g1 g2 sa
       .obtain⟨cs,_,rfl⟩:=oM h3;exact DK L.K L.w rfl rfl rfl rfl
     |_=>exact none_of h5
   |_::b::_::_,ih,h5=>cases b<;>exact none_of h5
  .obtain⟨ts,h1,h2⟩:=oB h;rcases Ul h2 with h3|⟨y,q,l,p2,u,h3,h4,h5,h6,h7,h8⟩
   .exact Yu L ho (Er ih L h1) h3
   .subst h3 h4 h5 h6 h8;obtain⟨g1,g2,_,_⟩:=L.Ph ho;obtain⟨g3,g4,_,_⟩:=L.Ph h7
    have h9:kE ct (.Call (.Name "set" q) [l] [] p2)=some (.prim .Jn [u]):=by
     unfold L9 at h1;obtain⟨t',h10,h11⟩:=oB h1;obtain⟨us,h12,h13⟩:=oM h11;cases h13;exact h10
    exact Lk L.K L.w L.calm g1 g2 g3 g4 (iq _ mS "set" q l p2 rfl L (S3 h7 h9))
 .obtain ⟨ts,h1,h2⟩:=oB h;have hs:=Er ih L h1;cases hsl:ct.slot x with
  |some i=>
    rw[hsl]at h2;rcases A8 h2 with⟨he,h2⟩|⟨he,h2⟩
    .rcases A8 h2 with⟨hcv,h2⟩|⟨_,h2⟩
     .cases h2;cases hs with
      |nil=>
        obtain⟨c1,c2⟩:=L.cl hcv;exact Nc L.K L.w (L.pv hsl) (L.room.mono (Nat.le_succ _)) c1 c2
      |cons a r=>cases he
     .cases h2
    .cases h2;cases hs with
     |nil=>exact absurd rfl he
     |cons a r=>exact OH L.K L.w (L.pv hsl) (L.room.mono (Nat.le_succ _)) (λn ht=>by
      obtain⟨y,hy⟩:=L.tf n ht
      exact⟨(L.fns y n hy).2.1,(L.fns y n hy).2.2⟩) (.cons a r)
  |none=>
    rw[hsl]at h2;rcases A8 h2 with⟨hgl,h2⟩|⟨_,h2⟩
    .obtain⟨g1,g2,_⟩:=L.glob hgl;unfold Vw at h2;cases hf:ct.fns.lookup x with
     |some f=>
       rw[hf]at h2;cases h2;obtain⟨q1,q2,q3⟩:=L.fns x f hf;exact OG L.K L.w q3 (L.room.mono (Nat.le_succ _)) g1 q1 q2 g2 hs
     |none=>
       rw[hf]at h2;obtain⟨c,hc,rfl⟩:=oM h2;obtain⟨q1,q2⟩:=L.cls x c hc;exact Oz L.K L.w L.dE L.room g1 q1 q2 g2 hs
    .cases h2
theorem JH{pos:Pos}(ih:∀e∈args,Pk W cf mt k e){t:T}(L:Dm ct X W cf mt k)(h:(if O8 m args.length apos pos then(ct.slot x).bind λi=>(L9 ct args).bind (kM m (.var i))else none)=some t):Aq X W cf mt (.Call (.Attribute (.Name x p) m apos) args [] pos) t:=by
 rcases A8 h with⟨Ak,h⟩|⟨_,h⟩
 .obtain⟨i,h1,h2⟩:=oB h;obtain⟨ts,h3,h4⟩:=oB h2;exact Vu L (.nm (L.pv h1)) Ak (Er ih L h3) h4
 .cases h
theorem Yg{z:Str}{n:Nat}{p:Pos}{m:Str}{a:Expr}{pos:Pos}(ha:Pk W cf mt k a){t:T}(L:Dm ct X W cf mt k)(h:(if m="join"/\O8 m 1 apos pos=true then(kE ct a).map λt=>T.prim (.join z) [t]else none)=some t):Aq X W cf mt (.Call (.Attribute (.Constant (.str z) n p) m apos) [a] [] pos) t:=by
 rcases A8 h with⟨⟨hm,Ak⟩,h2⟩|⟨_,h2⟩
 .obtain⟨u,h1,rfl⟩:=oM h2;clear h h2;subst hm;unfold O8 at Ak;rw[bA,bA]at Ak;exact OA L.K L.w Ak.1.1 (ha L h1)
 .cases h2
variable{sc:Scope}
theorem NF(L:Dm ct X W cf mt k){C7:Option Nat}(h:Hg ct sc=some C7):(C7=none/\B8 sc=[EJ])\/∃j y,C7=some j/\B8 sc=[EJ,y]/\X.N[j]? =some y:=by
 unfold Hg at h;unfold B8;split at h
 .rename_i e;cases h;rw[e];exact .inl ⟨rfl,rfl⟩
 .rename_i x e;obtain⟨j,h1,rfl⟩:=oM h;rw[e];exact .inr ⟨j,x,rfl,rfl,(L.slot h1).1⟩
 .cases h
theorem PO(L:Dm ct X W cf mt k){C7:Option Nat}(h:MB ct.sc sc=true)(hc:Hg ct sc=some C7):MW X sc C7:=by
 unfold MB at h;simp only[bA,all_eq_true,decide_eq_true_eq,Bool.not_eq_true']at h;obtain⟨⟨⟨⟨⟨⟨h1,h2⟩,h3⟩,h4⟩,h5⟩,h6⟩,h7⟩:=h;refine⟨by simpa using h1,h2,h3,λy hy=>by simpa using h4 y hy,λy hy e=>?_,h6,λx hx=>by simpa using h7 x hx,NF L hc⟩;have:=h5 y hy;simp[e]at this;rcases this with z|z
 .exact .inl (L.sc.eK _ z)
 .exact(L.sc.Zg _ z).symm
theorem cI{x:Str}{pos lp:Pos}{a:Arguments}(L:Dm ct X W cf mt k)(h:(if O8 m 1 apos pos && noArgs a && MB ct.sc sc && ct.df && decide (x=Str.ofString "self")then(ct.slot x).bind λi=>(ct.PM.lookup lp).bind λq=>(Hg ct sc).bind λc=>
 (kE (Ir sc ct.fns ct.cls ct.gl) b).bind λt=>if Gq (B8 sc).length t q.2 && decide (q.1 < 1000)then some (T.CD m i q.1 c)else none else none)=some t):Aq X W cf mt (.Call (.Attribute (.Name x p) m apos) [.Lambda a b sc lp] [] pos) t:=by
 rcases A8 h with⟨hc,h2⟩|⟨_,h2⟩
 .clear h;simp only[bA,decide_eq_true_eq]at hc;obtain⟨⟨⟨⟨Ak,hna⟩,hlo⟩,hdf⟩,hx⟩:=hc;obtain⟨i,h3,h4⟩:=oB h2;obtain⟨q,h5,h6⟩:=oB h4;obtain⟨C7,h7,h8⟩:=oB h6;obtain⟨u,h9,h10⟩:=oB h8;rcases A8 h10 with⟨hl,h11⟩|⟨_,h11⟩
  .cases h11;simp only[bA,decide_eq_true_eq]at hl;unfold O8 at Ak;rw[bA,bA]at Ak;obtain⟨⟨hline,_⟩,hni⟩:=Ak;subst hx;exact Na L.K L.w L.dE (L.room.mono (Nat.le_succ _)) (L.pv h3) (L.slot h3).1 (L.fn hdf) (PO L hlo h7) hna h9 (LG hl.1) hl.2 (L.lam lp q h5) (of_decide_eq_true hni) hline
  .cases h11
 .cases h2
theorem Yk{kws:List Keyword}{pos:Pos}(ih:∀e∈args,Pk W cf mt k e)(iq:∀e∈args,Pq W cf mt k e):Pk W cf mt k (.Call f args kws pos):=by
 cases kws with
 | cons q r=>intro ct X t L h;cases f with
   | Attribute o m apos=>cases o with
     |Attribute o2 f2 q2=>cases o2<;>(exact none_of h)
     |Constant c n p=>cases c<;>(rcases args with _|⟨a,_|⟨b,r2⟩⟩<;>exact none_of h)
     |Name x p=>
       rcases args with _|⟨a,_|⟨b,r2⟩⟩
       .exact none_of h
       .cases a<;>exact none_of h
       .cases a<;>exact none_of h
     |_=>exact none_of h
   |_=>exact none_of h
 |nil =>
   cases f with
   |Name x p=>exact Uh ih iq
   |Attribute o m apos=>
     intro ct X t L h;cases o with
     |Name x p=>
       rcases args with _|⟨a,_|⟨b,r⟩⟩
       .exact JH ih L h
       .cases a with
        |Lambda as b sc lp=>exact cI L (by unfold kE at h;exact h)
        |_=>exact JH ih L h
       .cases a<;>exact JH ih L h
     |Attribute o2 g q2=>
       cases o2 with
       |Name x p=>
         have h:(if O8 m args.length apos pos then(ct.slot x).bind λi=>(L9 ct args).bind (kM m (.fld i g))else none)=some t:=by unfold kE at h;exact h
         rcases A8 h with⟨Ak,h⟩|⟨_,h⟩
         .obtain⟨i,h1,h2⟩:=oB h;obtain⟨ts,h3,h4⟩:=oB h2;exact Vu L (.fl (P9 (L.pv h1) rfl)) Ak (Er ih L h3) h4
         .cases h
       |_=>exact none_of h
     |Constant c n p=>
       cases c with
       |str z=>
         rcases args with _|⟨a,_|⟨b,r⟩⟩
         .exact none_of h
         .exact Yg (ih a mS) L h
         .exact none_of h
       |_=>exact none_of h
     |Call f2 a2 k2 p2=>
       cases h;exact DK L.K L.w rfl rfl rfl rfl
     |_=>exact none_of h
   |_=>intro ct X t L h;exact none_of h
noncomputable def Pg(W:Wd)(cf:CF)(mt:MT)(k:Nat):Comprehension->Prop
 |⟨_,it,ifs,_⟩=>Pk W cf mt k it/\∀e∈ifs,Pk W cf mt k e
theorem Yh{elt:Expr}{gs:List Comprehension}{pos:Pos}(he:Pk W cf mt k elt)(hg:∀g∈gs,Pg W cf mt k g):Pk W cf mt k (.ListComp elt gs sc pos):=by
 intro ct X t L h;rcases gs with _|⟨⟨tg,it,ifs,n⟩,_|⟨g2,gs⟩⟩
 .exact none_of h
 .obtain⟨p1,p2⟩:=hg _ mS;unfold kE at h;obtain⟨x,h1,h⟩:=oB h;obtain⟨g,h2,h⟩:=oB h;obtain⟨cs,h3,h⟩:=oB h;obtain⟨e,h4,h⟩:=oB h;rcases A8 h with⟨hc,h⟩|⟨_,h⟩
  .cases h;rw[bA,bA,bA]at hc;obtain⟨⟨⟨c0,c1⟩,c2⟩,c3⟩:=hc;have c3:=of_decide_eq_true c3;have c0:=of_decide_eq_true c0;subst c0;refine OF L.K L.w L.calm (L.iA c2) (p1 L h1) (of_decide_eq_true c1) λC s H fp=>?_
   have L2:=L.block c2 c3 C s H fp;exact⟨(P5 L2 h2).1,he L2 h4,Er p2 L2 h3⟩
  .cases h
 .exact none_of h
end
section
variable{cf:CF}{mt:MT}{k:Nat}
theorem Am{e:Expr}(h:∀lo hi st p,e≠.Slice lo hi st p):Ps W cf mt k e:=λlo hi st p z=>absurd z (h lo hi st p)
theorem Au{e:Expr}(h:∀x p l pos,e≠.Call (.Name x p) [l] [] pos):Pq W cf mt k e:=λx p l pos z=>absurd z (h x p l pos)
theorem Bx(h:∀ct,kE ct e=none):Pk W cf mt k e:=by
 intro ct X t L z;rw[h]at z;cases z
mutual
theorem D7:∀e:Expr,Pk W cf mt k e/\Ps W cf mt k e/\Pq W cf mt k e
 |.Constant c n pos=>⟨Ug,Am (λ_ _ _ _ z=>by cases z),Au (λ_ _ _ _ z=>by cases z)⟩
 |.Name x pos=>⟨Yd,Am (λ_ _ _ _ z=>by cases z),Au (λ_ _ _ _ z=>by cases z)⟩
 |.Attribute o f pos=>⟨Ym,Am (λ_ _ _ _ z=>by cases z),Au (λ_ _ _ _ z=>by cases z)⟩
 |.Tuple es n pos=>⟨cB (FT es),Am (λ_ _ _ _ z=>by cases z),Au (λ_ _ _ _ z=>by cases z)⟩
 |.List es pos=>⟨cG (FT es),Am (λ_ _ _ _ z=>by cases z),Au (λ_ _ _ _ z=>by cases z)⟩
 |.Dict ks vs pos=>⟨Bx λ_=>rfl,Am (λ_ _ _ _ z=>by cases z),Au (λ_ _ _ _ z=>by cases z)⟩
 |.BinOp a op b pos=>⟨cM (D7 a).1 (D7 b).1,Am (λ_ _ _ _ z=>by cases z),Au (λ_ _ _ _ z=>by cases z)⟩
 |.UnaryOp op a pos=>⟨gx (D7 a).1,Am (λ_ _ _ _ z=>by cases z),Au (λ_ _ _ _ z=>by cases z)⟩
 |.BoolOp op es pos=>⟨Yl (FT es),Am (λ_ _ _ _ z=>by cases z),Au (λ_ _ _ _ z=>by cases z)⟩
 |.Compare a ops cs pos=>⟨cL (D7 a).1 (FT cs),Am (λ_ _ _ _ z=>by cases z),Au (λ_ _ _ _ z=>by cases z)⟩
 |.IfExp c a b pos=>⟨Bx λ_=>rfl,Am (λ_ _ _ _ z=>by cases z),Au (λ_ _ _ _ z=>by cases z)⟩
 |.Subscript v i pos=>⟨cC (D7 v).1 (D7 i).1 (D7 i).2.1,Am (λ_ _ _ _ z=>by cases z),Au (λ_ _ _ _ z=>by cases z)⟩
 | .Slice lo hi st p=>⟨Bx λ_=>rfl,λlo' hi' st' p' z=>by
  cases z
  exact⟨aL lo,aL hi⟩,Au (λ_ _ _ _ z=>by cases z)⟩
 |.Call f args kws pos=>⟨Yk (FT args) (OS args),Am (λ_ _ _ _ z=>by cases z),λx p l pos z=>by cases z;exact FT [l] l mS⟩
 |.ListComp elt gs sc pos=>⟨Yh (D7 elt).1 (Vm gs),Am (λ_ _ _ _ z=>by cases z),Au (λ_ _ _ _ z=>by cases z)⟩
 |.NamedExpr a b c=>⟨Bx λ_=>rfl,Am (λ_ _ _ _ z=>by cases z),Au (λ_ _ _ _ z=>by cases z)⟩
 |.Lambda a b c d=>⟨Bx λ_=>rfl,Am (λ_ _ _ _ z=>by cases z),Au (λ_ _ _ _ z=>by cases z)⟩
 |.Set a b c=>⟨Bx λ_=>rfl,Am (λ_ _ _ _ z=>by cases z),Au (λ_ _ _ _ z=>by cases z)⟩
 |.SetComp a b c d=>⟨Bx λ_=>rfl,Am (λ_ _ _ _ z=>by cases z),Au (λ_ _ _ _ z=>by cases z)⟩
 |.DictComp a b c d e=>⟨Bx λ_=>rfl,Am (λ_ _ _ _ z=>by cases z),Au (λ_ _ _ _ z=>by cases z)⟩
 |.GeneratorExp a b c d=>⟨Bx λ_=>rfl,Am (λ_ _ _ _ z=>by cases z),Au (λ_ _ _ _ z=>by cases z)⟩
 |.Await a b=>⟨Bx λ_=>rfl,Am (λ_ _ _ _ z=>by cases z),Au (λ_ _ _ _ z=>by cases z)⟩
 |.Yield a b=>⟨Bx λ_=>rfl,Am (λ_ _ _ _ z=>by cases z),Au (λ_ _ _ _ z=>by cases z)⟩
 |.YieldFrom a b=>⟨Bx λ_=>rfl,Am (λ_ _ _ _ z=>by cases z),Au (λ_ _ _ _ z=>by cases z)⟩
 |.FormattedValue a b c d=>⟨Bx λ_=>rfl,Am (λ_ _ _ _ z=>by cases z),Au (λ_ _ _ _ z=>by cases z)⟩
 |.JoinedStr a b=>⟨Bx λ_=>rfl,Am (λ_ _ _ _ z=>by cases z),Au (λ_ _ _ _ z=>by cases z)⟩
 |.Starred a b=>⟨Bx λ_=>rfl,Am (λ_ _ _ _ z=>by cases z),Au (λ_ _ _ _ z=>by cases z)⟩
theorem FT:∀es:List Expr,∀e∈es,Pk W cf mt k e
 |[],e,h=>nomatch h
 | x::xs,e,h=>by
   rcases mK h with z|z
   .rw[z];exact(D7 x).1
   .exact FT xs e z
theorem OS:∀es:List Expr,∀e∈es,Pq W cf mt k e
 |[],e,h=>nomatch h
 | x::xs,e,h=>by
   rcases mK h with z|z
   .rw[z];exact(D7 x).2.2
   .exact OS xs e z
theorem aL:∀o:Option Expr,∀e,o=some e->Pk W cf mt k e
 |none,e,h=>nomatch h
 |some x,e,h=>by cases h;exact(D7 x).1
theorem Vm:∀gs:List Comprehension,∀g∈gs,Pg W cf mt k g
 |[],g,h=>nomatch h
 | x::xs,g,h=>by
   rcases mK h with z|z
   .rw[z];exact fS x
   .exact Vm xs g z
theorem fS:∀g:Comprehension,Pg W cf mt k g
 |⟨tg,it,ifs,a⟩=>⟨(D7 it).1,FT ifs⟩
end
end
def Qk(W:Wd)(cf:CF)(mt:MT)(k:Nat)(st:Stmt):Prop:=∀{ct:Ct} {X:Cx} {s:S},Dm ct X W cf mt k->kS ct st=some s->PS X st (tS W NX (Eu s) (exec cf mt A1 s))
def Qs(W:Wd)(cf:CF)(mt:MT)(k:Nat)(O5:List Stmt):Prop:=∀{ct:Ct} {X:Cx} {ss:List S},Dm ct X W cf mt k->NH ct O5=some ss->Lc X O5 (tS W NX (Bg ss) (execs cf mt A1 ss))
section
variable{cf:CF}{mt:MT}{k:Nat}
theorem Bl{st:Stmt}(h:∀ct,kS ct st=none):Qk W cf mt k st:=by
 intro ct X s L z;rw[h]at z;cases z
theorem cV(i:Nat)(t:T):Eu (.asg (.nm i) t)=[i]:=rfl
theorem YF(is:List Nat)(t:T):Eu (.asg (.tup is) t)=is:=rfl
theorem Up(i:Nat)(f:Str)(v:T):Eu (.GR i f v)=[]:=rfl
theorem Uq(t:T):Eu (.expr t)=[]:=rfl
theorem QR(t:Option T):Eu (.ret t)=[]:=rfl
theorem YG(c:T)(a b:List S):Eu (.ifs c a b)=Bg a++Bg b:=rfl
theorem YE(c:T)(b:List S):Eu (.JU c b)=Bg b:=rfl
theorem YH(g:Tg)(q:IK)(its:List T)(b:List S):Eu (.CV g q its b)=g.slots++Bg b:=rfl
theorem MS:Eu .pass=[]:=rfl
theorem YJ:Eu .brk=[]:=rfl
theorem YI:Eu .cnt=[]:=rfl
theorem TQ(t:T):exec cf mt A1 (.expr t)=λρ=>(ev cf mt t ρ).bind λ_ ρ=>.ok .nx ρ:=rfl
theorem TM:exec cf mt A1 (.ret none)=λρ=>.ok (.ret (.p .Az)) ρ:=rfl
theorem XN(t:T):exec cf mt A1 (.ret (some t))=λρ=>(ev cf mt t ρ).bind λc ρ=>.ok (.ret c) ρ:=rfl
theorem XO(c:T)(a b:List S):exec cf mt A1 (.ifs c a b)=λρ=>(tv cf mt c ρ).bind λx ρ=>if x then execs cf mt A1 a ρ else execs cf mt A1 b ρ:=rfl
theorem XJ(c:T)(b:List S):exec cf mt A1 (.JU c b)=λρ=>A1 (tv cf mt c) (execs cf mt A1 b) ρ:=rfl
theorem Ju(g:Tg)(q:IK)(its:List T)(b:List S):exec cf mt A1 (.CV g q its b)=λρ=>if q.ok then(A9 cf mt its ρ).bind (NN q g (Bg b) (execs cf mt A1 b))else .stuck:=rfl
theorem MH:exec cf mt A1 .pass=λρ=>.ok .nx ρ:=rfl
theorem XS:exec cf mt A1 .brk=λρ=>.ok .brk ρ:=rfl
theorem XQ:exec cf mt A1 .cnt=λρ=>.ok .cnt ρ:=rfl
theorem Ql(hrs:mt.rs=false)(x:Nat)(t:T)(ρ:Env):exec cf mt A1 (.raise x t) ρ= .stuck:=by
 conv=>lhs;unfold exec
 rw[hrs];rfl
theorem XM(hrs:mt.rs=false)(b:List S)(hs:List (List Nat×Option Nat×List S))(ρ:Env):exec cf mt A1 (.dv b hs) ρ= .stuck:=by
 conv=>lhs;unfold exec
 rw[hrs];rfl
theorem TH:execs cf mt A1 []=λρ=>.ok .nx ρ:=rfl
def i9(f:Fl)(r:Env->Res Fl)(ρ:Env):Res Fl:=match f with
    |.nx=>r ρ
    |f=>.ok f ρ
theorem Qi(s:S)(ss:List S):execs cf mt A1 (s::ss)=λρ=>(exec cf mt A1 s ρ).bind λf ρ=>match f with
 |.nx=>execs cf mt A1 ss ρ
 |f=>.ok f ρ:=rfl
theorem aC{tgs:List Expr}{pos:Pos}:Qk W cf mt k (.Assign tgs e pos):=by
 intro ct X s L h;rcases tgs with _|⟨tg,_|⟨t2,ts⟩⟩
 .exact none_of h
 .obtain⟨t,h1,h2⟩:=oB h;have se:=(D7 e).1 L h1;cases tg with
  |Name x p=>
    obtain⟨i,h3,rfl⟩:=oM h2;obtain⟨t1,t2,t3⟩:=L.E3 h3;rw[cV];intro pins s σ H D I z;refine se.a i x p pos L.nd t1 t2 t3 pins s σ H D I (ZS (by rw[I.len];exact(List.getElem?_eq_some_iff.mp t1).1) ?_);obtain⟨ρ,os,hR,hn,hA⟩:=z;rw[TU]at hA;exact⟨ρ,os,hR,hn,hA⟩
  |Tuple es n p=>
    rcases A8 h2 with⟨_,h2⟩|⟨hnt,h2⟩
    .cases h2
    .obtain⟨g,h3,rfl⟩:=oM h2;obtain⟨g1,g2⟩:=P5 L h3
     have h4:∃is,g= .tup is:=by
      unfold Vt at h3;obtain⟨is,_,rfl⟩:=oM h3;exact⟨is,rfl⟩
     obtain⟨is,rfl⟩:=h4;rw[YF];exact Nj g1 g2 se (by simpa using hnt)
  |Attribute o f p=>
    cases o with
    |Name x q=>
      obtain⟨i,h3,rfl⟩:=oM h2;rw[Up];exact So L.K L.fld (L.pv h3) se
    |_=>exact none_of h2
  |_=>exact none_of h2
 .exact none_of h
theorem WI{pos:Pos}:Qk W cf mt k (.Expr e pos):=by
 intro ct X s L h
 have gen:(if Be e then none else(kE ct e).map S.expr)=some s->PS X (.Expr e pos) (tS W NX (Eu s) (exec cf mt A1 s)):=λh=>by
  rcases A8 h with⟨_,h⟩|⟨hc,h⟩
  .cases h
  .obtain⟨t,h1,rfl⟩:=oM h;rw[Uq,TQ];exact CK (Ss ((D7 e).1 L h1).v (Ds (by simpa using hc) _ _ _)) λD σ H z=>Wv z
 cases e with
 |Constant c n p=>
   cases c with
   |str x=>
     cases h;rw[MS,MH];exact CK WQ λD σ H z=>OL z
   |_=>exact gen h
 |_=>exact gen h
theorem ay{o:Option Expr}{pos:Pos}:Qk W cf mt k (.Return o pos):=by
 intro ct X s L h;cases o with
 |none=>
   cases h;rw[QR,TM];exact CK Sq λD σ H z=>Wl z
 |some e=>
   obtain⟨t,h1,rfl⟩:=oM h;rw[QR,XN];exact CK (WM ((D7 e).1 L h1).v) λD σ H z=>ZT z
theorem fP{a b:List Stmt}{pos:Pos}(ha:Qs W cf mt k a)(hb:Qs W cf mt k b):Qk W cf mt k (.If c a b pos):=by
 intro ct X s L h;obtain⟨t,h1,h⟩:=oB h;obtain⟨x,h2,h⟩:=oB h;obtain⟨y,h3,rfl⟩:=oM h;rw[YG,XO];exact CK (aE ((D7 c).1 L h1).b (ha L h2) (hb L h3)) λD σ H z=>fz z
theorem Si{b e:List Stmt}{pos:Pos}(hb:Qs W cf mt k b):Qk W cf mt k (.While c b e pos):=by
 intro ct X s L h;cases e with
 |cons _ _=>exact none_of h
 |nil=>
   obtain⟨t,h1,h⟩:=oB h;obtain⟨x,h2,rfl⟩:=oM h;rw[YE,XJ];exact CK (OW L.po ((D7 c).1 L h1).b (hb L h2)) λD σ H z=>S5 z
theorem az{tg it:Expr}{b e:List Stmt}{pos:Pos}(hb:Qs W cf mt k b):Qk W cf mt k (.For tg it b e pos):=by
 intro ct X s L h;cases e with
 |cons _ _=>exact none_of h
 |nil=>
   obtain⟨g,h1,h⟩:=oB h;obtain⟨t,h2,h⟩:=oB h;obtain⟨x,h3,rfl⟩:=oM h;rw[YH,Ju];have st:=(D7 it).1 L h2;obtain⟨g1,g2⟩:=P5 L h1;cases hk:(AV t).1.ok with
   |false=>exact GV λρ=>rfl
   |true=>
     intro pins s σ H D I z;exact WN L.po L.calm (st.i hk tg) g1 (hb L h3) (FH st.st _) pins s σ H D I (ab (λi hi=>by rw[I.len];exact g2 i hi) z)
theorem WG{pos:Pos}:Qk W cf mt k (.Pass pos):=by
 intro ct X s L h;cases h;rw[MS,MH];exact CK Sr λD σ H z=>OL z
theorem aB{pos:Pos}:Qk W cf mt k (.Break pos):=by
 intro ct X s L h;cases h;rw[YJ,XS];exact CK OY λD σ H z=>ag z
theorem aA{pos:Pos}:Qk W cf mt k (.Continue pos):=by
 intro ct X s L h;cases h;rw[YI,XQ];exact CK Kf λD σ H z=>af z
theorem Sj(hrs:mt.rs=false){e c:Option Expr}{pos:Pos}:Qk W cf mt k (.Raise e c pos):=by
 intro ct X s L h;unfold kS at h
 have:∃x t,s= .raise x t:=by
  split at h<;>first|cases h|skip
  all_goals first|(obtain⟨c,_,h⟩:=oB h;obtain⟨t,_,rfl⟩:=oM h;exact⟨_,_,rfl⟩)|(exfalso;simp_all)
 obtain⟨x,t,rfl⟩:=this;exact GV (Ql hrs x t)
theorem aw(hrs:mt.rs=false){b e f:List Stmt}{hs:List ExceptHandler}{pos:Pos}:Qk W cf mt k (.Try b hs e f pos):=by
 intro ct X s L h;cases e with
 |cons _ _=>cases f<;>(exact none_of h)
 |nil=>
   cases f with
   |cons _ _=>exact none_of h
   |nil=>
     obtain⟨x,_,h⟩:=oB h;obtain⟨y,_,rfl⟩:=oM h;exact GV (XM hrs x y)
theorem WE:Qs W cf mt k []:=by
 intro ct X ss L h;unfold NH at h;cases h;rw[TH,show Bg []=[]from by unfold Bg;rfl];exact Mo Sn λD σ H z=>OL z
theorem Sh{st:Stmt}{O5:List Stmt}(h1:Qk W cf mt k st)(h2:Qs W cf mt k O5):Qs W cf mt k (st::O5):=by
 intro ct X ss L h;unfold NH at h;obtain⟨s,h3,h⟩:=oB h;obtain⟨us,h4,rfl⟩:=oM h;rw[Qi,show Bg (s::us)=Eu s++Bg us from by conv=>lhs;unfold Bg];exact Mo (OV (h1 L h3) (h2 L h4)) λD σ H z=>Ww z
mutual
theorem fQ (hrs:mt.rs=false):∀st:Stmt,Qk W cf mt k st
 |.Assign tgs e pos=>aC
 |.Expr e pos=>WI
 |.Return o pos=>ay
 |.If c a b pos=>fP (HX hrs a) (HX hrs b)
 |.While c b e pos=>Si (HX hrs b)
 |.For tg it b e pos=>az (HX hrs b)
 |.Pass pos=>WG
 |.Break pos=>aB
 |.Continue pos=>aA
 |.Raise e c pos=>Sj hrs
 |.Try b hs e f pos=>aw hrs
 |.FunctionDef ..=>Bl λ_=>rfl
 |.AsyncFunctionDef ..=>Bl λ_=>rfl
 |.ClassDef ..=>Bl λ_=>rfl
 |.Delete ..=>Bl λ_=>rfl
 |.TypeAlias ..=>Bl λ_=>rfl
 |.AugAssign ..=>Bl λ_=>rfl
 |.AnnAssign ..=>Bl λ_=>rfl
 |.AsyncFor ..=>Bl λ_=>rfl
 |.With ..=>Bl λ_=>rfl
 |.AsyncWith ..=>Bl λ_=>rfl
 |.Match ..=>Bl λ_=>rfl
 |.TryStar ..=>Bl λ_=>rfl
 |.Assert ..=>Bl λ_=>rfl
 |.Import ..=>Bl λ_=>rfl
 |.ImportFrom ..=>Bl λ_=>rfl
 |.Global ..=>Bl λ_=>rfl
 |.Nonlocal ..=>Bl λ_=>rfl
theorem HX (hrs:mt.rs=false):∀O5:List Stmt,Qs W cf mt k O5
 |[]=>WE
 |st::O5=>Sh (fQ hrs st) (HX hrs O5)
end
end
theorem Ft:∀{ρ:Env} {σ:L2.St} {os:List Addr},A5 W H ρ σ os->A5 W H (ρ++List.replicate n none) (σ++List.replicate n none) os
 | [],_,_,h=>by
   rw[h.1,h.2.1,nil_append,nil_append]
   induction n with
   |zero=>exact⟨rfl,rfl,h.2.2⟩
   |succ n ih=>exact⟨none,List.replicate n none,rfl,ih⟩
 |none::ρ,_,_,⟨x,r,e,h⟩=>by rw[e];exact⟨x,_,rfl,Ft h⟩
 |some c::ρ,_,_,⟨v,r,o,o2,e1,h1,h2,e2⟩=>by rw[e1];exact⟨v,_,o,o2,rfl,h1,Ft h2,e2⟩
theorem DM:∀(n:Nat) (g:Nat->Bool) {ρ:Env} {σ τ:L2.St} {os:List Addr},A5 W H ρ σ os->n<=ρ.length->τ.length=n->(∀i,i < n->g i=false->σ[i]? =τ[i]?)->
 ∃oos od,A5 W H ((List.range n).map λi=>if g i then none else A7 ρ i) τ oos/\(od++oos).Perm os
 | 0,g,ρ,σ,τ,os,hR,_,hl,_=>by
   have:τ=[]:=length_eq_zero_iff.mp hl;subst this;exact⟨[],os,⟨rfl,rfl,hR.tb⟩,by rw[append_nil]⟩
 | n + 1, g,ρ,σ,τ,os,hR,hle,hl,hc=>by
   rw[List.range_succ_eq_map,map_cons,map_map];cases τ with
   |nil=>cases hl
   |cons t τ=>
     have hl':τ.length=n:=by simpa using hl
     cases ρ with
     |nil=>cases hle
     |cons x ρ=>
       have hle':n<=ρ.length:=by simpa using hle
       have ef:((λi=>if g i then none else A7 (x::ρ) i) ∘ Nat.succ)=λi=>if g (i+1)then none else A7 ρ i:=rfl
       rw[ef];cases x with
       |none=>
         obtain⟨y,r,e,h⟩:=hR;subst e;obtain⟨oos,od,q1,q2⟩:=DM n (λi=>g (i+1)) h hle' hl' λi hi hg=>by simpa using hc (i+1) (by lia) hg
         refine⟨oos,od,?_,q2⟩;have:(if g 0 then(none:Option C)else A7 (none::ρ) 0)=none:=by split<;>rfl
         rw[this];exact⟨t,τ,rfl,q1⟩
       |some c=>
         obtain⟨v,r,o,o2,e1,h1,h2,e2⟩:=hR;subst e1 e2;obtain⟨oos,od,q1,q2⟩:=DM n (λi=>g (i+1)) h2 hle' hl' λi hi hg=>by simpa using hc (i+1) (by lia) hg
         cases hg:g 0 with
         |true=>
           refine⟨oos,o++od,?_,by rw[append_assoc];exact q2.append_left o⟩;exact⟨t,τ,rfl,q1⟩
         |false=>
           have ht:=hc 0 (by lia) hg;simp at ht;subst ht;refine⟨o++oos,od,⟨v,τ,o,oos,rfl,h1,q1,rfl⟩,?_⟩;refine List.Perm.trans ?_ (q2.append_left o);rw[<-append_assoc,<-append_assoc];exact perm_append_comm.append_right oos
section
variable{P:Program}{K:PySem.W.Frag}{mg:Str->Option Value}{base:Heap}{mt:MT}
variable{cf:CF}{fi:EB}{N:List Str}{vs:List V}{H:Hp}
theorem Uk{X:Cx}{ct:Ct}{k:Nat}{body:List Stmt}(L:Dm ct X W cf mt k)(hrs:mt.rs=false)(hk:NH ct body=some fi.body)(hnl:fi.nl=N.length){Q:VK}{E:XK}(hnp:fi.np<=N.length)(hv:vs.length=fi.np)
 (hsp:K3 W (Du cf mt A1 fi) vs H Q E):Lc X body (tS W NX (Bg fi.body) (execs cf mt A1 fi.body))/\tS W NX (Bg fi.body) (execs cf mt A1 fi.body) {nx:=λ_ H'=>Q .Az H',rt:=Q} (L2.start N vs) H:=by
 refine⟨HX hrs body L hk,?_⟩;obtain⟨cs,os,hR,hn,hQ⟩:=hsp;have hlen:vs.length=cs.length:=by have:=hR.length;simpa using this
 have hst:L2.start N vs=vs.map some++List.replicate (fi.nl-fi.np) none:=by unfold L2.start;rw[hnl,hv]
 have hR0:A5 W H (cs.map some++List.replicate (fi.nl-fi.np) none) (L2.start N vs) os:=by rw[hst];exact Ft hR
 refine⟨_,os,hR0,hn,?_⟩;unfold Du at hQ;rw[iP (by lia)]at hQ;have hρl:fi.np<=(cs.map some++List.replicate (fi.nl-fi.np) (none:Option C)).length:=by rw[lA,lM];lia
 have outs:∀{ρ':Env} {σ':L2.St} {H':Hp} {os':List Addr},A5 W H' ρ' σ' os'->AQ (Bg fi.body) (L2.start N vs) σ'->∃oos od,A5 W H' (D8 fi ρ') (vs.map some) oos/\(od++oos).Perm os':=by
  intro ρ' σ' H' os' r u;unfold D8;have hl2:fi.np<=ρ'.length:=by rw[<-r.length,u.1,hR0.length];exact hρl
  refine DM fi.np (λi=>(Bg fi.body).contains i) r hl2 (by rw[lM];exact hv) λi hi hg=>?_
  rw[u.2 i (by simpa using hg),hst,List.getElem?_append_left (by rw[lM];lia)]
 cases eb:execs cf mt A1 fi.body (cs.map some++List.replicate (fi.nl-fi.np) none)with
 |stuck=>rw[eb]at hQ;exact hQ
 |err x p ρ'=>rw[eb]at hQ;dsimp only at hQ;rw[hrs]at hQ;exact False.elim hQ
 |ok f ρ'=>
   rw[eb]at hQ;cases f with
   |brk=>exact False.elim hQ
   |cnt=>exact False.elim hQ
   |nx=>
     intro σ' H' os' r1 r2 r3 r4;obtain⟨oos,od,q1,q2⟩:=outs r1 r4;have nd:=nA (q2.nodup_iff.mpr r2);exact hQ .Az H' [] oos ⟨Ae.mpr rfl,rfl⟩ q1 nd.2.1 (r3.sub λa ha=>q2.subset (mR ha))
   |ret c=>
     intro v σ' H' o os' r0 r1 r2 r3 r4;obtain⟨oos,od,q1,q2⟩:=outs r1 r4;have n2:=nA r2;have nd:=nA (q2.nodup_iff.mpr n2.2.1);refine hQ v H' o oos r0 q1 ?_ (r3.sub λa ha=>?_)
     .rw[nodup_append];exact⟨n2.1,nd.2.1,λa ha b hb z=>n2.2.2 a ha b (q2.subset (mR hb)) z⟩
     .rcases mem_append.mp ha with z|z
      .exact mL z
      .exact mR (q2.subset (mR z))
structure Zq(K:PySem.W.Frag)(mg:Str->Option Value)(W:Wd)(mt:MT)(n:Nat)(tg:List (Str×Iv.P))(tf tc:List (Str×Nat)):Prop where
 kk:W.K=K
 gl:∀x p,tg.lookup x=some p->∃u v,mg x=some u/\RelV v u/\∀H,Ay W H p v
 own:∀x∈JI,tg.lookup x=none->tf.lookup x=none->tc.lookup x=none->mg x=none
 fns:∀x f,tf.lookup x=some f->mg x=some (.ref (W.Cb f))/\keepIn K (.ref (W.Cb f))=true/\f < n
 cls:∀x c,tc.lookup x=some c->mg x=some (.ref (W.C3 c))/\∀f,mt.m c (Str.ofString "__init__")=some f->Mk K (W.C3 c) (W.Cb f)
 O7:∀c m f,mt.m c m=some f->JT K (W.C3 c)/\(m≠Str.ofString "__init__"->Meth K (W.C3 c) m (W.Cb f))/\f < n
 fld:∀c f,mt.f c f=true->By K (W.C3 c) f
 rs:mt.rs=false
 dw:∀n,mt.tf n=true->∃x,tf.lookup x=some n
 gd:∀x p,tg.lookup x=some p->noFn p=true
variable{W W':Wd}{n:Nat}
theorem Zq.to{tg:List (Str×Iv.P)}{tf tc:List (Str×Nat)}(G:Zq K mg W mt n tg tf tc)(h:YK W W')(hn:n<=Cg):Zq K mg W' mt n tg tf tc where
 kk:=h.K▸G.kk
 gl:=λx p e=>let⟨u,v,h1,h2,h3⟩:=G.gl x p e;⟨u,v,h1,h2,λH=>DL h.eq (G.gd x p e) (h3 H)⟩
 own:=G.own
 fns:=λx f e=>by
  obtain⟨h1,h2,h3⟩:=G.fns x f e;rw[h.Cb f (Nat.lt_of_lt_of_le h3 hn)];exact⟨h1,h2,h3⟩
 cls:=λx c e=>by
  obtain⟨h1,h2⟩:=G.cls x c e;rw[<-h.C3];refine⟨h1,λf ef=>?_⟩;rw[h.Cb f (Nat.lt_of_lt_of_le (G.O7 c _ f ef).2.2 hn)];exact h2 f ef
 O7:=λc m f e=>by
  obtain⟨h1,h2,h3⟩:=G.O7 c m f e;rw[<-h.C3,h.Cb f (Nat.lt_of_lt_of_le h3 hn)];exact⟨h1,h2,h3⟩
 fld:=λc f e=>by rw[<-h.C3];exact G.fld c f e
 rs:=G.rs
 dw:=G.dw
 gd:=G.gd
structure HB(K:PySem.W.Frag)(W:Wd)(gl:List (Str×Iv.P))(fns cls:List (Str×Nat))(fl:List EB)(f:Nat)(fi:EB)(fd:FuncData)(ps:List Str):Prop where
 ex:∃(x qual:Str) (st:Stmt) (ct:Ct),BJ K x qual st (W.Cb f) fd/\DW ct.N ps (B2 st)/\NH ct (Df st)=some fi.body/\fi.np=ps.length/\fi.nl=ct.N.length/\ct.sc=B2 st/\ct.df=true/\ct.gl=gl/\ct.fns=fns/\ct.cls=cls/\Binds K fd ps []/\
   ∀lp q,ct.PM.lookup lp=some q->fl[q.1]? =some q.2/\∃c P,fd.code= .ref c/\codeHdIn K c P=true/\(P,lp,(qual++".<locals>.")++"<lambda>")∈W.tabs
variable{gl:List (Str×Iv.P)}{ps:List Str}
theorem HB.to{fns cls:List (Str×Nat)}{fl:List EB}{f:Nat}{fd:FuncData}(D:HB K W gl fns cls fl f fi fd ps)(h:YK W W')(hf:f < Cg):HB K W' gl fns cls fl f fi fd ps:=by
 obtain⟨x,qual,st,ct,F,r⟩:=D.ex;refine⟨x,qual,st,ct,?_,?_⟩
 .rw[h.Cb f hf];exact F
 .rw[<-h.tabs];exact r
theorem QC(fns:List EB)(hrs:mt.rs=false)(k f:Nat)(cs:List C)(x:Nat)(p:Iv.P):A0 fns mt A1 k f cs≠.err x p:=by
 intro h;cases k with
 |zero=>cases h
 |succ k=>
   unfold A0 at h;split at h
   .unfold Du at h;split at h
    .split at h
     .cases h
     .cases h
     .rw[hrs]at h;cases h
     .cases h
    .cases h
   .cases h
theorem BJ.iJ{qual:Str}{st:Stmt}{fd:FuncData}{k:Nat}{sp:Sp}(F:BJ K x qual st f fd)(S:DW N ps (B2 st))(len:∀vs H Q E,sp vs H Q E->vs.length=ps.length)
 (hbody:∀(A:Around) (outer:List PySem.Env) (s:Shared) (H:Hp) (vs:List V) (Q:VK) (E:XK),Bk k (A.deeper (envOfC qual (B2 st) s.heap.objs.size f fd.code))->sp vs H Q E->
  ∃t,Lc (KL MY P w K mg base N qual (B2 st) f fd.code A outer s H E).Zc (Df st) t/\t {nx:=λ_ H'=>Q .Az H',rt:=Q} (start N vs) H):D1 P w K mg base MY (k+1) f fd ps sp:=by
 obtain⟨oc,od,kV,doc,pm,an,cdv,ct,osl,rfl,lk,hcd⟩:=F.ex;refine bO lk hcd S len λA outer s H vs Q E hr hsp=>?_
 obtain⟨t,h,q⟩:=hbody A outer s H vs Q E hr hsp;exact⟨t,h.Zc,q⟩
structure Good(mg:Str->Option Value)(fns:List EB)(gl:List (Str×Iv.P))(fnt clt:List (Str×Nat))(W0 W:Wd)(base:Heap):Prop where
 st:YK W0 W
 G7:∀n,Cg<=n->W.ok n=true->RH fnt clt gl (λl fi=>fns[l]? =some fi) W base n
 blt:∀q∈W0.tabs,base.BuiltinsAt mg q.1/\mainGlobals≠q.1
theorem QH{h h':Heap}{P:Addr}(k:∀b o,h.get? b=some o->h'.get? b=some o)(x:h.BuiltinsAt mg P):h'.BuiltinsAt mg P:=
 let⟨bm,o,q1,q2,q3,q4,q5,q6⟩:=x;⟨bm,o,q1,q2,q3,q4,k _ _ q5,q6⟩
theorem WA{Q:VK}{E:XK}(hrs:mt.rs=false)(hv:vs.length=n)(h:K3 W (Du cf mt A1 ⟨n,n,[.ret (some t)]⟩) vs H Q E):tG W NX (rV W) (ev cf mt t) (vs.map some) H Q:=by
 obtain⟨cs,os,hR,hn,hQ⟩:=h;refine⟨_,os,hR,hn,?_⟩;have hlen:vs.length=cs.length:=by have:=hR.length;simpa using this
 unfold Du at hQ;rw[iP (show cs.length=n by lia)]at hQ
 have e1:execs cf mt A1 [.ret (some t)] (cs.map some++List.replicate (n - n) none)=(ev cf mt t (cs.map some)).bind λc ρ=>.ok (.ret c) ρ:=by
  rw[Nat.sub_self,List.replicate_zero,append_nil];show(exec cf mt A1 (.ret (some t)) (cs.map some)).bind _=_;have:exec cf mt A1 (.ret (some t)) (cs.map some)=(ev cf mt t (cs.map some)).bind λc ρ=>.ok (.ret c) ρ:=by conv=>lhs;unfold exec
  rw[this];cases ev cf mt t (cs.map some)<;>rfl
 dsimp only at hQ;rw[e1]at hQ;unfold C5;cases ee:ev cf mt t (cs.map some)with
 |stuck=>rw[ee]at hQ;exact hQ
 |err x p ρ'=>rw[ee]at hQ;dsimp only[Res.bind]at hQ;rw[hrs]at hQ;exact False.elim hQ
 |ok c ρ'=>
   rw[ee]at hQ;have hQ:∀v H' o oos,B3 W H' c v o->A5 W H' (D8 ⟨n,n,[.ret (some t)]⟩ ρ') (vs.map some) oos->(o++oos).Nodup->AR H H' os (o++oos)->Q v H':=hQ;intro v H' o os' r1 r2 r3 r4;have hl2:n<=ρ'.length:=by rw[<-r2.length,lM];lia
   obtain⟨oos,od,q1,q2⟩:=DM n (λi=>(Bg [.ret (some t)]).contains i) r2 hl2 (by rw[lM];exact hv) (λi _ _=>rfl);have n2:=nA r3;have nd:=nA (q2.nodup_iff.mpr n2.2.1);refine hQ v H' o oos r1 q1 ?_ (r4.sub λa ha=>?_)
   .rw[nodup_append];exact⟨n2.1,nd.2.1,λa ha b hb z=>n2.2.2 a ha b (q2.subset (mR hb)) z⟩
   .rcases mem_append.mp ha with z|z
    .exact mL z
    .exact mR (q2.subset (mR z))
theorem Qf{W0:Wd}{fns:List EB}{fnt clt:List (Str×Nat)}{nd:Nat}(hw0:W0.w=w)(G0:Zq K mg W0 mt nd gl fnt clt)(hnd:nd<=Cg)(hnl:nd<=fns.length)(htn:(W0.tabs.map (·.1)).Nodup)(htag:∀c,W0.C3 (tag c)=W0.C3 c){FD:Nat->FuncData}{PS':Nat->List Str}
 (D0:∀f fi,f < nd->fns[f]? =some fi->HB K W0 gl fnt clt fns f fi (FD f) (PS' f)):
 ∀(k:Nat) (W:Wd) (base:Heap),Good mg fns gl fnt clt W0 W base->(∀f,f < nd->D1 P w K mg base MY (2*k) (W.Cb f) (FD f) (PS' f) (K3 W (A0 fns mt A1 k f))/\Binds K (FD f) (PS' f) [])/\∀n,Cg<=n->W.ok n=true->VT P w K mg base W (A0 fns mt A1 k) (2*k) n
 | 0, W,base,g=>by
   refine⟨λf hf=>?_,λn h1 h2=>?_⟩
   .have hfl:=Nat.lt_of_lt_of_le hf hnl;obtain⟨x,qual,st,ct,F,S,hk,h1,h2,h3,h4,h5,h6,h7,hb,_⟩:=(D0 f fns[f] hf (List.getElem?_eq_getElem hfl)).ex
    have no:∀vs H Q E,¬K3 W (A0 fns mt A1 0 f) vs H Q E:=λvs H Q E z=>by
     obtain⟨cs,os,_,_,q⟩:=z;exact q
    exact⟨⟨λvs H Q E z=>(no _ _ _ _ z).elim,λA outer s H args us vs Q E _ _ _ _ z=>(no _ _ _ _ z).elim⟩,hb⟩
   .obtain⟨_,_,_,_,_,_,_,_,_,hb,_⟩:=g.G7 n h1 h2;refine⟨⟨_,_,hb,rfl⟩,λA outer s H Q _ _ z=>?_⟩;obtain⟨cs,os,_,_,q⟩:=z;exact q.elim
 | k + 1,W,base,g=>by
   have ihg:=Qf hw0 G0 hnd hnl htn htag D0 k;have ih:=ihg W base g;have hw:W.w=w:=g.st.w▸hw0;have G:Zq K mg W mt nd gl fnt clt:=G0.to g.st hnd;have ne:∀f cs x p,A0 fns mt A1 k f cs≠.err x p:=λf cs x p=>QC fns G.rs k f cs x p
   refine⟨λf hf=>?_,λn hn1 hn2=>?_⟩
   .have hfl:=Nat.lt_of_lt_of_le hf hnl;obtain⟨x,qual,st,ct,F,S,hk,h1,h2,h3,h4,h5,h6,h7,hb,hlam⟩:=((D0 f fns[f] hf (List.getElem?_eq_getElem hfl)).to g.st (Nat.lt_of_lt_of_le hf hnd)).ex
    have ecf:A0 fns mt A1 (k + 1) f=Du (A0 fns mt A1 k) mt A1 fns[f]:=by
     funext cs
     show(match fns[f]? with|some fi=>Du (A0 fns mt A1 k) mt A1 fi cs|none=>.stuck)=_;rw[List.getElem?_eq_getElem hfl]
    have len:∀vs H Q E,K3 W (A0 fns mt A1 (k + 1) f) vs H Q E->vs.length=(PS' f).length:=λvs H Q E z=>by
     obtain⟨cs,os,hR,_,q⟩:=z;have hl:vs.length=cs.length:=by have:=hR.length;simpa using this
     by_cases hl2:cs.length=fns[f].np
     .lia
     .rw[ecf]at q;unfold Du at q;rw[iN hl2]at q;exact q.elim
    refine⟨?_,hb⟩;have hj:2*(k+1)=(2*k+1)+1:=by lia
    rw[hj];refine BJ.iJ F S len λA outer s H vs Q E hr hsp=>?_
    have hvl:=len vs H Q E hsp;rw[ecf]at hsp
    have hnp:fns[f].np<=ct.N.length:=by
     have:=congrArg List.length S.pre;rw[length_take]at this
     lia
    have fs:∀i,i < nd->Z5 (KL MY P w K mg base ct.N qual (B2 st) (W.Cb f) (FD f).code A outer s H E).Zc W (A0 fns mt A1 k) (2*k) i:=λi hi=>⟨⟨_,_,ih.1 i hi⟩,ne i⟩
    have L:Dm ct (KL MY P w K mg base ct.N qual (B2 st) (W.Cb f) (FD f).code A outer s H E).Zc W (A0 fns mt A1 k) mt (2 * k):=by
     refine⟨G.kk,hw,rfl,S.nd,by rw[h3];exact de.refl _,λ_ _=>rfl,rfl,hr,PassesOwn.never,?_,?_,?_,?_,⟨?_⟩,G.fld,by rw[h6];exact G.dw,?_,λ_=>⟨ne,ih.2⟩⟩
     .rw[h5];exact G.gl
     .rw[h5,h6,h7];exact G.own
     .rw[h6];intro x f' e;obtain⟨g1,g2,g3⟩:=G.fns x f' e;exact⟨g1,g2,fs f' g3⟩
     .rw[h7];exact G.cls
     .intro c m f' e;obtain⟨g1,g2,g3⟩:=G.O7 c m f' e;exact⟨g1,g2,fs f' g3⟩
     .intro lp q e;obtain⟨e1,c,Pt,e2,e3,e4⟩:=hlam lp q e;have e5:(Pt,lp,(qual++".<locals>.")++"<lambda>")∈W0.tabs:=g.st.tabs▸e4;refine⟨⟨c,Pt,e2,e3,(g.blt _ e5).1,(g.blt _ e5).2,e4⟩,g.st.tabs▸htn,g.st.C3▸htag,λc m f' ef=>Nat.lt_of_lt_of_le (G.O7 c m f' ef).2.2 hnd,λl fi=>fns[l]? =some fi,e1,λW' base' w1 w2 w3 c m f' ef=>?_⟩;rw[h5,h6,h7]at w3;exact⟨_,_,(ihg W' base' ⟨⟨g.st.K.trans w1.K,g.st.w.trans w1.w,g.st.C3.trans w1.C3,g.st.tabs.trans w1.tabs,λn hn=>(w1.Cb n hn).trans (g.st.Cb n hn)⟩,w3,λq hq=>⟨QH w2 (g.blt q hq).1,(g.blt q hq).2⟩⟩).1 f' (G.O7 c m f' ef).2.2⟩
    exact⟨_,Uk L G.rs hk h2 hnp (by lia) hsp⟩
   .obtain⟨qual,as,b,sc,clos,pm,ctv,cc,t,hb,hcd,hS,has,hcell,hlen,hv,hnd2,hall,ht,hLT⟩:=g.G7 n hn1 hn2;refine⟨⟨_,_,hb,rfl⟩,λA outer s H Q hr e0 hsp=>?_⟩;have hLT:fns[Fg n]? =some ⟨(B8 sc).length,(B8 sc).length,[.ret (some t)]⟩:=hLT
    have ecf:A0 fns mt A1 (k + 1) (Fg n)=Du (A0 fns mt A1 k) mt A1 ⟨(B8 sc).length,(B8 sc).length,[.ret (some t)]⟩:=by
     funext cs
     show(match fns[Fg n]? with|some fi=>Du (A0 fns mt A1 k) mt A1 fi cs|none=>.stuck)=_;rw[hLT]
    have htb:Di W H:=by obtain⟨cs,os,hR,_⟩:=hsp;exact hR.tb
    rw[ecf]at hsp;have hq:=WA G.rs hlen hsp
    have hrec:s.heap.CodeRec (.ref cc) qual:=by
     obtain⟨oc,u,us,tk,d1,d2,d3⟩:=htb.2 _ hcd;exact⟨cc,oc,us,tk,rfl,(e0.Ak _ _ d1).1,d2,d3⟩
    have fs:∀i,i < nd->Z5 (KN P w K mg base (B8 sc) qual sc (W.Cb n) (.ref cc) clos A outer s H) W (A0 fns mt A1 k) (2*k) i:=λi hi=>⟨⟨_,_,ih.1 i hi⟩,ne i⟩
    have hj:2*(k+1)=(2*k+1)+1:=by lia
    rw[hj]at hr
    have L:Dm (Ir sc fnt clt gl) (KN P w K mg base (B8 sc) qual sc (W.Cb n) (.ref cc) clos A outer s H) W (A0 fns mt A1 k) mt (2 * k):=by
     refine⟨G.kk,hw,rfl,hnd2,de.refl _,λz=>(by cases z),rfl,hr.deeper _,PassesOwn.never,G.gl,G.own,?_,G.cls,⟨?_⟩,G.fld,G.dw,λlp q e=>(by cases e),λz=>(by cases z)⟩
     .intro x f' e;obtain⟨g1,g2,g3⟩:=G.fns x f' e;exact⟨g1,g2,fs f' g3⟩
     .intro c m f' e;obtain⟨g1,g2,g3⟩:=G.O7 c m f' e;exact⟨g1,g2,fs f' g3⟩
    have has':=Ic has;exact Td e0 hr hS hb hrec (by rw[has'];rfl) hcell hlen hv ((D7 b).1 L ht).v hq
end
inductive Each{α:Type}(R:α->Prop):List α->Prop where
 |nil:Each R []
 |cons {a:α} {l:List α} (h:R a) (t:Each R l):Each R (a::l)
theorem Each.mem{R:α->Prop}{l:List α}(h:Each R l):∀a∈l,R a:=by
 induction h with
 |nil=>intro a ha;cases ha
 |cons h t ih=>
   intro a ha;rcases mK ha with z|z
   .rw[z];exact h
   .exact ih a z
theorem Each.look[BEq α][LawfulBEq α]{R:α×β->Prop}{l:List (α×β)}(h:Each R l){a:α}{b:β}(e:l.lookup a=some b):R (a,b):=by
 induction h with
 |nil=>simp at e
 |@cons q l h t ih=>
   rw[show q=(q.1,q.2)from rfl,lookup_cons]at e;cases hq:a == q.1 with
   |true=>
     rw[hq]at e;cases e;rw[eq_of_beq hq];exact h
   |false=>rw[hq]at e;exact ih e
noncomputable def fnOf(tf tc:List (Str×Nat))(tg:List (Str×P))(lm:List (Pos×Nat×EB))(st:Stmt):EB:=(dO st (U5 st tf tc tg [] lm)).getD default
variable{lm:List (Pos×Nat×EB)}{fl:List EB}{qual:Str}
theorem Y1{K:PySem.W.Frag}{tf tc:List (Str×Nat)}{tg:List (Str×P)}{f:Nat}{st:Stmt}{fd:FuncData}(F:BJ K x qual st (W.Cb f) fd)(S:DW (namesOf st) (Ea st) (B2 st))(hs:(dO st (U5 st tf tc tg [] lm)).isSome=true)(hb:Binds K fd (Ea st) [])
 (e1:MJ st=Df st)(e2:Jz st=B2 st)(hl:∀lp q,lm.lookup lp=some q->fl[q.1]? =some q.2/\∃c P,fd.code= .ref c/\codeHdIn K c P=true/\(P,lp,(qual++".<locals>.")++"<lambda>")∈W.tabs):HB K W tg tf tc fl f (Iv.fnOf tf tc tg lm st) fd (Ea st):=by
 obtain⟨fi,hfi⟩:=Option.isSome_iff_exists.mp hs;have e:Iv.fnOf tf tc tg lm st=fi:=by unfold Iv.fnOf;rw[hfi];rfl
 rw[e];unfold dO at hfi;obtain⟨b,hb',rfl⟩:=oM hfi;exact⟨x,qual,st,U5 st tf tc tg [] lm,F,S,by rw[<-e1];exact hb',rfl,rfl,e2,rfl,rfl,rfl,rfl,hb,hl⟩
theorem U1{K:PySem.W.Frag}{tf tc:List (Str×Nat)}{tg:List (Str×P)}{f:Nat}{st:Stmt}{fd:FuncData}(F:BJ K x qual st (W.Cb f) fd)(S:DW (namesOf st) (Ea st) (B2 st))(hs:(dO st (U5 st tf tc tg [] lm)).isSome=true)
 (h:∀(kV doc pm:Value) (an:Option Addr) (cdv ct:Value) (us:List Value),us.length=(Ea st).length->bindArgs (PySem.W.fnOf x qual (Jy st) (Df st) (B2 st) .none kV doc pm an cdv ct) ⟨us,[]⟩=pure ((Ea st).zip us))(e1:MJ st=Df st)(e2:Jz st=B2 st)
 (hl:∀lp q,lm.lookup lp=some q->fl[q.1]? =some q.2/\∃c P,fd.code= .ref c/\codeHdIn K c P=true/\(P,lp,(qual++".<locals>.")++"<lambda>")∈W.tabs):HB K W tg tf tc fl f (Iv.fnOf tf tc tg lm st) fd (Ea st):=Y1 F S hs (F.binds h) e1 e2 hl
noncomputable def Mh(n:Nat)(ts:List (Addr×Addr))(K:PySem.W.Frag):Sp:=λvs H Q _=>∃(a:Addr) (ns:List Int),vs=[.ref a]/\Uu K H a (ns.map V.int)/\ns.length<=n/\(∀p∈ts,H p.2=some (.JQ #[]))/\∀H',Q (.bl true) H'
variable{ts:List (Addr×Addr)}
theorem Tc{K:PySem.W.Frag}(hK:W.K=K)(ht:∀q∈W.tabs,∃p∈ts,p.2=q.1)(hc:W.Zi=[]){r:List C->CR}(hr:∀ns:List Int,ns.length<=n->∃outs,r [.b (.ro (ns.map .int))]= .ok (.p (.bl true)) outs)(vs:List V)(H:Hp)(Q:VK)(E:XK)(h:Mh n ts K vs H Q E):K3 W r vs H Q E:=by
 obtain⟨a,ns,rfl,h1,h2,h3,q⟩:=h;obtain⟨outs,e⟩:=hr ns h2;refine⟨[.b (.ro (ns.map .int))],[],⟨.ref a,[],[],[],rfl,⟨⟨a,_,rfl,hK▸h1,Ij ns⟩,rfl⟩,⟨rfl,rfl,λq hq=>?_,λq hq=>by rw[hc]at hq;cases hq⟩,rfl⟩,.nil,?_⟩
 .obtain⟨p,hp,e⟩:=ht q hq;exact⟨#[],by rw[<-e];exact h3 p hp,trivial,λcv z=>by cases z⟩
 .rw[e];intro v H' o oos r1 _ _ _;rw[(Zk (c:=.p (.bl true)) r1).1];exact q H'
theorem ND{P:Program}{w:World}{K:PySem.W.Frag}{mg mb:Str->Option Value}{k:Nat}{fa:Addr}{fd:FuncData}{x:Str}{s₁:Shared}{vs:List Value}{ns:List Int}
 (KX:K.In s₁.heap)(hns:s₁.heap.Ns mainGlobals mg)(hb:s₁.heap.Ns builtinsNs mb)(hbb:∀x:Str,x≠"__name__"->mb x=bootBuiltins x)(hlim:s₁.heap.NoLimit)(hg:s₁.gens= #[])
 (hbm:∃bm ob,mg "__builtins__"=some (.ref bm)/\bm≠builtinsNs/\s₁.heap.get? bm=some ob/\ob.cls= .type "module"/\ob.dict=some builtinsNs/\ob.data= .plain)
 (hT:∀p∈ts,s₁.heap.get? p.2=some (tabObj #[])/\codeHdIn K p.1 p.2=true/\K.lookup p.2=none)
 (ha:s₁.heap.get? a=some {cls:=.type "list",data:=.seq vs.toArray})(hi:IntsAre vs ns)(hl:ns.length<=sizeLine)(hln:ns.length<=n)(hr:Bk k callerA)
 (F:∀base:Heap,K.In base->base.Ns mainGlobals mg->(∀p∈ts,base.BuiltinsAt mg p.2/\mainGlobals≠p.2)->D1 P w K mg base MY k fa fd [x] (Mh n ts K))(hbind:∀(s:Shared) (u:Value),BindsTo s fd ⟨[u],[]⟩ [(x,u)]):
 codeAny (model P w) callerA (.call (.ref fa) ⟨[.ref a],[]⟩) (λr s'=>r= .ok (.ret (.bool true))/\OldK s₁.heap s'.heap/\s'.os=s₁.os/\AllBare s'.gens) s₁:=by
 have rv:=HQ hi;have lenV:=hi.length
 have haT:∀p∈ts,p.2≠a:=λp hp z=>by
  have:=(hT p hp).1;rw[z,ha]at this;cases this
 have core : ∀H:Hp,Uu K H a (ns.map V.int)->Ee P w H s₁.heap->(∀p∈ts,H p.2=some (.JQ #[]))->(∀b,H b≠none->(b=a/\∃o xs,H b=some (.La o (.lst xs)))\/∃p∈ts,p.2=b)->(H a≠none->K.lookup a=none)->
  codeAny (model P w) callerA (.call (.ref fa) ⟨[.ref a],[]⟩) (λr s'=>r= .ok (.ret (.bool true))/\OldK s₁.heap s'.heap/\s'.os=s₁.os/\AllBare s'.gens) s₁:=by
  intro H hS Ak hTb hA hK;have base_of:∀{b:Addr} {o:Obj},s₁.heap.get? b=some o->H b=none->(HL s₁.heap H).get? b=some o:=λe n=>Q1 e n
  have noT:∀{b:Addr} {o:Obj},s₁.heap.get? b=some o->(∀vs,o.data≠.seq vs)->(∀vs,o.data≠.fields vs)->H b=none:=λ{b o} e d1 d2=>by
   cases q:H b with
   |none=>rfl
   |some u=>
     rcases hA b (by rw[q];simp)with⟨z,_⟩|⟨p,hp,z⟩
     .subst z;rw[ha]at e;cases e;exact absurd rfl (d1 _)
     .subst z;rw[(hT p hp).1]at e;cases e;exact absurd rfl (d2 _)
  have nsK:∀{b:Addr} {m:Str->Option Value},s₁.heap.Ns b m->(HL s₁.heap H).Ns b m:=λ{b m} ⟨o,es,ep,e,d,r⟩=>⟨o,es,ep,base_of e (noT e (λ_ z=>by rw[d]at z;cases z) λ_ z=>by rw[d]at z;cases z),d,r⟩
  have hKb:K.In (HL s₁.heap H):=λb o e=>base_of (KX b o e) (by
   cases q:H b with
   |none=>rfl
   |some u=>
     rcases hA b (by rw[q];simp)with⟨z,_⟩|⟨p,hp,z⟩
     .subst z;rw[hK (by rw[q];simp)]at e;cases e
     .subst z
      rw[(hT p hp).2.2]at e;cases e)
  have hM:Mod K mg (HL s₁.heap H):=⟨hKb,nsK hns,⟨mb,nsK hb,hbb⟩,let⟨mc,h1,h2⟩:=hlim;⟨mc,nsK h1,h2⟩⟩;have e0:FO P w K mg (HL s₁.heap H) callerA [] s₁ H:=⟨rfl,hM,λb o e=>SN e,Nat.le_of_eq (NK _ _),trivial,λb hb=>absurd (show b∈([]:List Addr)from hb) (by simp),Ak,.of_eq hg⟩
  have hBl:∀p∈ts,(HL s₁.heap H).BuiltinsAt mg p.2/\mainGlobals≠p.2:=λp hp=>by
   obtain⟨bm,ob,b1,b2,b3,b4,b5,b6⟩:=hbm;obtain⟨og,es,ep,g1,g2,_⟩:=hns;refine⟨⟨bm,ob,b1,b2,λz=>?_,λz=>?_,base_of b3 (noT b3 (λ_ z=>by rw[b6]at z;cases z) λ_ z=>by rw[b6]at z;cases z),b4,b5,b6⟩,λz=>?_⟩
   .rw[z,g1]at b3;cases b3;rw[b6]at g2;cases g2
   .rw[z,(hT p hp).1]at b3;cases b3;cases b6
   .rw[z,(hT p hp).1]at g1;cases g1;cases g2
  refine codeAny_mono ((F _ hKb (nsK hns) hBl).run callerA [] s₁ H ⟨[.ref a],[]⟩ [.ref a] [.ref a] (λv _=>v= .bl true) E0 hr e0 (hbind s₁ (.ref a)) (.cons rfl .nil) ⟨a,ns,rfl,hS,hln,hTb,λ_=>rfl⟩) λr s' h=>?_
  cases r with
  |error e=>exact False.elim h
  |ok fl =>
    cases fl with
    |next=>exact False.elim h
    |brk=>exact False.elim h
    |cont=>exact False.elim h
    |ret u =>
      obtain⟨v,H',os,bare,un,hok',r',q⟩:=h;have q':v= .bl true:=q;subst q';obtain rfl:u=Value.bool true:=r'
      have old:∀b o,s₁.heap.get? b=some o->asItWas s₁.heap s'.heap b o:=λb o e=>by
       cases q:H b with
       |none=>exact .inl (un.keep b o e q (by intro z;exact absurd (show b∈([]:List Addr)from z) (by simp)) (by simp))
       |some u=>
         rcases hA b (by rw[q];simp)with⟨_,ob,xs,z⟩|⟨p,hp,z⟩
         .have z2:=un.Js b ob _ z;obtain⟨e1,_⟩:=Ak b _ z;obtain⟨e2,_⟩:=hok' b _ z2;rw[e]at e1;cases e1;exact .inl e2
         .subst z;obtain⟨h1,h2,h3⟩:=hT p hp;rw[h1]at e;cases e;obtain⟨more,e2⟩:=un.IM p.2 #[] (hTb p hp);have e3:s'.heap.get? p.2=some {cls:=.none,data:=.fields (#[]++more)}:=hok' p.2 _ e2;obtain⟨oc,vs',_,_,_,_,_,_,_,c1,c2,c3,c4,_⟩:=codeHd_of_K KX h2;exact .inr (.inl ⟨⟨p.1,oc,vs',c1,c2,c3,c4⟩,rfl,#[],more,rfl,e3⟩)
      refine⟨rfl,⟨old,λb o e=>?_⟩,os,bare⟩;rcases old b o e with z|⟨_,_,vs,more,_,z⟩|⟨_,_,⟨o',_,_,z,_⟩,_⟩
      .exact⟨_,z⟩
      .exact⟨_,z⟩
      .exact⟨_,z⟩
 have tabOk:∀(H:Hp) p,p∈ts->BM P w H s₁.heap p.2 (.JQ #[]):=λH p hp=>(hT p hp).1
 by_cases hk:K.lookup a=none
 .refine core (λb=>if b∈ts.map (·.2)then some (.JQ #[])else if b=a then some (.La {cls:=.type "list",data:=.seq vs.toArray} (.lst (ns.map V.int)))else none) ?_ (λb u z=>?_) (λp hp=>iP (mem_map_of_mem hp)) (λb hb=>?_) λ_=>hk
  .refine .inl ⟨{cls:=.type "list",data:=.seq vs.toArray},?_⟩;refine(iN λz=>?_).trans (iP rfl);obtain⟨p,hp,e⟩:=mem_map.mp z;exact haT p hp e
  .by_cases hb:b∈ts.map (·.2)
   .have z':=(iP hb).symm.trans z;cases z';obtain⟨p,hp,e⟩:=mem_map.mp hb;rw[<-e];exact tabOk _ p hp
   .by_cases hba:b=a
    .have z':=((iN hb).trans (iP hba)).symm.trans z;cases z';subst hba;exact⟨ha,by rw[lM];exact hl,vs,_,rv,ha⟩
    .have z':=((iN hb).trans (iN hba)).symm.trans z;cases z'
  .by_cases hbt:b∈ts.map (·.2)
   .obtain⟨p,hp,e⟩:=mem_map.mp hbt;exact .inr ⟨p,hp,e⟩
   .by_cases hba:b=a
    .refine .inl ⟨hba,_,_,(iN hbt).trans (iP hba)⟩
    .exact absurd ((iN hbt).trans (iN hba)) hb
 .obtain⟨o,hko⟩:∃o,K.lookup a=some o:=by
   cases q:K.lookup a with
   |none=>exact absurd q hk
   |some o=>exact⟨o,rfl⟩
  have e:=KX a o hko;rw[ha]at e;cases e;refine core (λb=>if b∈ts.map (·.2)then some (.JQ #[])else none) (.inr ⟨_,vs.toArray,_,hko,rfl,rfl,rfl,by rw[size_toArray,lenV];exact hl,by simpa using rv⟩) (λb u z=>?_) (λp hp=>iP (mem_map_of_mem hp)) (λb hb=>?_) λz=>?_
  .by_cases hb:b∈ts.map (·.2)
   .have z':=(iP hb).symm.trans z;cases z';obtain⟨p,hp,e⟩:=mem_map.mp hb;rw[<-e];exact tabOk _ p hp
   .have z':=(iN hb).symm.trans z;cases z'
  .by_cases hbt:b∈ts.map (·.2)
   .obtain⟨p,hp,e⟩:=mem_map.mp hbt;exact .inr ⟨p,hp,e⟩
   .exact absurd (iN hbt) hb
  .refine absurd (iN λy=>?_) z;obtain⟨p,hp,e⟩:=mem_map.mp y;exact haT p hp e
theorem walk{l:PySem.W.OpenLaw}{q:Program}{loose:List Str}{XP:(Str->Option Value)->Heap->Prop}{YP:World->Heap->Prop}{d:DefRec}{K:Params->PySem.W.Frag}(n:Nat)(k:Nat)(ts:List (Addr×Addr))(hn:l.most=some n)(hz:n<=sizeLine)(hdf:d.params.defaults=[])(hr:Bk k callerA)
 (hY:∀(w:World) (h:Heap),YP w h->(K w.params).In h)(hT:∀(w:World) (h:Heap),YP w h->∀p∈ts.map (·.2),h.get? p=some (tabObj #[]))
 (F:∀(w:World) (mg:Str->Option Value) (fa:Addr) (h:Heap),(K w.params).In h->h.Ns mainGlobals mg->mg d.name=some (.ref fa)->
   (∀p∈ts,codeHdIn (K w.params) p.1 p.2=true/\(K w.params).lookup p.2=none)/\
   ∃fd:FuncData,(∀(s:Shared) (u:Value),BindsTo s fd ⟨[u],[]⟩ [("_law_script",u)])/\∀base:Heap,(K w.params).In base->base.Ns mainGlobals mg->(∀p∈ts,base.BuiltinsAt mg p.2/\mainGlobals≠p.2)->D1 l.prog w (K w.params) mg base MY k fa fd ["_law_script"] (Mh n ts (K w.params))):
 PySem.W.WalkO q loose XP YP l.row.toRowW d [] (λf vs=>PySem.call f vs):=by
 refine Att.KY hn hdf λw s₀ s₁ mg mb fa o pm cd doc a vs ns G Y ho hd hcd hmg hobj hints hlen hg=>?_
 have KX:=hY w _ Y;obtain⟨hC,fd,hb,hF⟩:=F w mg fa _ KX G.T.g hmg;exact ND KX G.T.g G.T.b G.T.builtins G.T.nolimit hg G.T.bmain (λp hp=>⟨hT w _ Y p.2 (mem_map_of_mem hp),hC p hp⟩) hobj hints (Nat.le_trans hlen hz) hlen hr hF hb
end Iv
abbrev _root_.sP(x:Iv.P):Option Iv.C:=some (.p x)
abbrev _root_.sL(x:List Iv.P):Option Iv.C:=some (.lst x)
abbrev _root_.sD(x:List (Iv.P×Iv.P)):Option Iv.C:=some (.Cv x)
namespace Lk51
open PySem L2 Iv PyProof.Rows
noncomputable def bd(i:Nat):Stmt:=PySem.Challenge.pw_kinddeeds_k51_expressions_written.main.body.getD i (.Pass ⟨0,0,0,0⟩)
noncomputable def O5:List Stmt:=[bd 0,bd 7,bd 8,bd 13,bd 14,bd 15,bd 16,bd 17,bd 18,bd 19,bd 20,bd 21,bd 22,bd 23,bd 26,bd 27,bd 29,bd 30,bd 32,bd 33,bd 34,bd 35,bd 37,bd 38,bd 39,bd 40,bd 41,bd 42,bd 43,bd 44,bd 45,bd 46,L2.inClass (bd 28) 0,L2.inClass (bd 28) 1,L2.inClass (bd 28) 2,L2.inClass (bd 28) 3,L2.inClass (bd 28) 4,L2.inClass (bd 28) 5,L2.inClass (bd 28) 6,L2.inClass (bd 28) 7,L2.inClass (bd 28) 8,L2.inClass (bd 28) 9,L2.inClass (bd 28) 10,L2.inClass (bd 28) 11,L2.inClass (bd 28) 12,L2.inClass (bd 28) 13,L2.inClass (bd 28) 14,L2.inClass (bd 28) 15,L2.inClass (bd 28) 16]
def st(i:Nat):Stmt:=O5.getD i (.Pass ⟨0,0,0,0⟩)
noncomputable def tf:List (Str×Nat):=[("_wall",0),("is_name",1),("is_whole",2),("is_form_name",3),("is_number",4),("is_few",5),("is_few_of",6),("is_unlike_names",7),("is_one_to_four",8),("has_sort",9),("has_arm_form",10),("has_node_form",11),("node_parts",12),("is_expression",13),("is_letter",14),("is_figure",15),("reader_of",16),("read_expression",17),("show_number",18),("in_brackets",19),("show_arm",20),("show_expression",21),("_law_cell_at",22),("_law_names",23),("_law_forms",24),("_law_next",25),("_law_number",26),("_law_any",27),("_law_same",28),("_law_text",29),("_law_right",30),("law",31)]
def tc:List (Str×Nat):=[("DeedsError",0),("NoWords",1),("Reader",2)]
noncomputable def tg:List (Str×Iv.P):=[("MOST_LETTERS",.int 8),("MOST_PARTS",.int 3),("MOST_NODES",.int 40),("MOST_ABOVE",.int 11),("MOST_FORMS",.int 4),("MOST_FIGURES",.int 60)]
noncomputable def tm:List ((Nat×Str)×Nat):=[((2,"__init__"),32),((2,"is_before"),33),((2,"takes"),34),((2,"must_take"),35),((2,"must_end"),36),((2,"take_all"),37),((2,"name"),38),((2,"form_name"),39),((2,"number"),40),((2,"few"),41),((2,"kind"),42),((2,"kinds"),43),((2,"expression"),44),((2,"number_below"),45),((2,"args_here"),46),((2,"case"),47),((2,"arm"),48)]
def tl:List (Nat×Str):=[(2,"text"),(2,"at")]
noncomputable def mt:MT:=⟨λc m=>tm.lookup (c%1000,m),λc f=>tl.contains (c%1000,f),false,λn=>decide (n < 32)⟩
def bu:List (Nat×Nat):=[(46,49),(48,50)]
noncomputable def Xs(i:Nat):List (Pos×Nat×EB):=((MJ (st i)).flatMap gh).map λq=>(q.1,(bu.lookup i).getD 0,(gi q.2.1 q.2.2 tf tc tg).getD default)
def Ig(i:Nat):EB:=((Xs i).map λq=>q.2.2).headD default
def Fy(i:Nat):Pos:=((Xs i).map λq=>q.1).headD ⟨0,0,0,0⟩
def fns:List EB:=(List.range 49).map (λi=>Iv.fnOf tf tc tg (Xs i) (st i))++[Ig 46,Ig 48]
theorem Af(i:Nat)(h:i < 49):i < 49:=h
theorem bq:Xs 46=[(Fy 46,49,Ig 46)]:=by kernel_rfl
theorem bQ:fns[49]? =some (Ig 46):=by kernel_rfl
theorem bp:Xs 48=[(Fy 48,50,Ig 48)]:=by kernel_rfl
theorem bP:fns[50]? =some (Ig 48):=by kernel_rfl
theorem all_mk{l:PySem.W.OpenLaw}{w:World}{K:PySem.W.Frag}{h:Heap}{mg:Str->Option Value}{fa c_0 c_1 c_2:Addr}{d0 d1 d2 d3 d4 d5 d6 d7 d8 d9 d10 d11 d12 d13 d14 d15 d16 d17 d18 d19 d20 d21 d22 d23 d24 d25 d26 d27 d28 d29 d30 d31 d32 d33 d34 d35 d36 d37 d38 d39 d40 d41 d42 d43 d44 d45 d46 d47 d48:FuncData}{cc46 cp46 cc48 cp48:Addr}{t0 t1 t2 t3 t4 t5:Tok}(hne0:cp46≠cp48)(hlaw:∀ns:List Int,ns.length<=63->∃outs,A0 fns mt A1 100 31 [.b (.ro (ns.map .int))]= .ok (.p (.bl true)) outs)(X:K.In h)(G:h.Ns mainGlobals mg)(hfa:mg "law"=some (.ref fa))
 (ac0:nsIn K mainGlobals "DeedsError"=some (some (.ref c_0)))
 (ac1:nsIn K mainGlobals "NoWords"=some (some (.ref c_1)))
 (ac2:nsIn K mainGlobals "Reader"=some (some (.ref c_2)))
 (a0:nsIn K mainGlobals "_wall"=some (some (.ref f0)))(l0:BJ K "_wall" "_wall" (st 0) f0 d0)
 (a1:nsIn K mainGlobals "is_name"=some (some (.ref f1)))(l1:BJ K "is_name" "is_name" (st 1) f1 d1)
 (a2:nsIn K mainGlobals "is_whole"=some (some (.ref f2)))(l2:BJ K "is_whole" "is_whole" (st 2) f2 d2)
 (a3:nsIn K mainGlobals "is_form_name"=some (some (.ref f3)))(l3:BJ K "is_form_name" "is_form_name" (st 3) f3 d3)
 (a4:nsIn K mainGlobals "is_number"=some (some (.ref f4)))(l4:BJ K "is_number" "is_number" (st 4) f4 d4)
 (a5:nsIn K mainGlobals "is_few"=some (some (.ref f5)))(l5:BJ K "is_few" "is_few" (st 5) f5 d5)
 (a6:nsIn K mainGlobals "is_few_of"=some (some (.ref f6)))(l6:BJ K "is_few_of" "is_few_of" (st 6) f6 d6)
 (a7:nsIn K mainGlobals "is_unlike_names"=some (some (.ref f7)))(l7:BJ K "is_unlike_names" "is_unlike_names" (st 7) f7 d7)
 (a8:nsIn K mainGlobals "is_one_to_four"=some (some (.ref f8)))(l8:BJ K "is_one_to_four" "is_one_to_four" (st 8) f8 d8)
 (a9:nsIn K mainGlobals "has_sort"=some (some (.ref f9)))(l9:BJ K "has_sort" "has_sort" (st 9) f9 d9)
 (a10:nsIn K mainGlobals "has_arm_form"=some (some (.ref eI)))(l10:BJ K "has_arm_form" "has_arm_form" (st 10) eI d10)
 (a11:nsIn K mainGlobals "has_node_form"=some (some (.ref eD)))(l11:BJ K "has_node_form" "has_node_form" (st 11) eD d11)
 (a12:nsIn K mainGlobals "node_parts"=some (some (.ref eC)))(l12:BJ K "node_parts" "node_parts" (st 12) eC d12)
 (a13:nsIn K mainGlobals "is_expression"=some (some (.ref eA)))(l13:BJ K "is_expression" "is_expression" (st 13) eA d13)
 (a14:nsIn K mainGlobals "is_letter"=some (some (.ref eu)))(l14:BJ K "is_letter" "is_letter" (st 14) eu d14)
 (a15:nsIn K mainGlobals "is_figure"=some (some (.ref eo)))(l15:BJ K "is_figure" "is_figure" (st 15) eo d15)
 (a16:nsIn K mainGlobals "reader_of"=some (some (.ref ei)))(l16:BJ K "reader_of" "reader_of" (st 16) ei d16)
 (a17:nsIn K mainGlobals "read_expression"=some (some (.ref eh)))(l17:BJ K "read_expression" "read_expression" (st 17) eh d17)
 (a18:nsIn K mainGlobals "show_number"=some (some (.ref cq)))(l18:BJ K "show_number" "show_number" (st 18) cq d18)
 (a19:nsIn K mainGlobals "in_brackets"=some (some (.ref e8)))(l19:BJ K "in_brackets" "in_brackets" (st 19) e8 d19)
 (a20:nsIn K mainGlobals "show_arm"=some (some (.ref e7)))(l20:BJ K "show_arm" "show_arm" (st 20) e7 d20)
 (a21:nsIn K mainGlobals "show_expression"=some (some (.ref e6)))(l21:BJ K "show_expression" "show_expression" (st 21) e6 d21)
 (a22:nsIn K mainGlobals "_law_cell_at"=some (some (.ref dZ)))(l22:BJ K "_law_cell_at" "_law_cell_at" (st 22) dZ d22)
 (a23:nsIn K mainGlobals "_law_names"=some (some (.ref dY)))(l23:BJ K "_law_names" "_law_names" (st 23) dY d23)
 (a24:nsIn K mainGlobals "_law_forms"=some (some (.ref cn)))(l24:BJ K "_law_forms" "_law_forms" (st 24) cn d24)
 (a25:nsIn K mainGlobals "_law_next"=some (some (.ref cm)))(l25:BJ K "_law_next" "_law_next" (st 25) cm d25)
 (a26:nsIn K mainGlobals "_law_number"=some (some (.ref dX)))(l26:BJ K "_law_number" "_law_number" (st 26) dX d26)
 (a27:nsIn K mainGlobals "_law_any"=some (some (.ref XI)))(l27:BJ K "_law_any" "_law_any" (st 27) XI d27)
 (a28:nsIn K mainGlobals "_law_same"=some (some (.ref dW)))(l28:BJ K "_law_same" "_law_same" (st 28) dW d28)
 (a29:nsIn K mainGlobals "_law_text"=some (some (.ref dU)))(l29:BJ K "_law_text" "_law_text" (st 29) dU d29)
 (a30:nsIn K mainGlobals "_law_right"=some (some (.ref dS)))(l30:BJ K "_law_right" "_law_right" (st 30) dS d30)
 (a31:nsIn K mainGlobals "law"=some (some (.ref ck)))(l31:BJ K "law" "law" (st 31) ck d31)
 (a32:findIn K (.ref c_2) "__init__"=some (some (.ref cj)))(l32:BJ K "__init__" "Reader.__init__" (st 32) cj d32)(n32:isFn K (.ref cj)=true)
 (a33:findIn K (.ref c_2) "is_before"=some (some (.ref cg)))(l33:BJ K "is_before" "Reader.is_before" (st 33) cg d33)(n33:isFn K (.ref cg)=true)
 (a34:findIn K (.ref c_2) "takes"=some (some (.ref Zh)))(l34:BJ K "takes" "Reader.takes" (st 34) Zh d34)(n34:isFn K (.ref Zh)=true)
 (a35:findIn K (.ref c_2) "must_take"=some (some (.ref cb)))(l35:BJ K "must_take" "Reader.must_take" (st 35) cb d35)(n35:isFn K (.ref cb)=true)
 (a36:findIn K (.ref c_2) "must_end"=some (some (.ref c9)))(l36:BJ K "must_end" "Reader.must_end" (st 36) c9 d36)(n36:isFn K (.ref c9)=true)
 (a37:findIn K (.ref c_2) "take_all"=some (some (.ref c8)))(l37:BJ K "take_all" "Reader.take_all" (st 37) c8 d37)(n37:isFn K (.ref c8)=true)
 (a38:findIn K (.ref c_2) "name"=some (some (.ref c7)))(l38:BJ K "name" "Reader.name" (st 38) c7 d38)(n38:isFn K (.ref c7)=true)
 (a39:findIn K (.ref c_2) "form_name"=some (some (.ref bZ)))(l39:BJ K "form_name" "Reader.form_name" (st 39) bZ d39)(n39:isFn K (.ref bZ)=true)
 (a40:findIn K (.ref c_2) "number"=some (some (.ref bY)))(l40:BJ K "number" "Reader.number" (st 40) bY d40)(n40:isFn K (.ref bY)=true)
 (a41:findIn K (.ref c_2) "few"=some (some (.ref bX)))(l41:BJ K "few" "Reader.few" (st 41) bX d41)(n41:isFn K (.ref bX)=true)
 (a42:findIn K (.ref c_2) "kind"=some (some (.ref dR)))(l42:BJ K "kind" "Reader.kind" (st 42) dR d42)(n42:isFn K (.ref dR)=true)
 (a43:findIn K (.ref c_2) "kinds"=some (some (.ref dQ)))(l43:BJ K "kinds" "Reader.kinds" (st 43) dQ d43)(n43:isFn K (.ref dQ)=true)
 (a44:findIn K (.ref c_2) "expression"=some (some (.ref bW)))(l44:BJ K "expression" "Reader.expression" (st 44) bW d44)(n44:isFn K (.ref bW)=true)
 (a45:findIn K (.ref c_2) "number_below"=some (some (.ref bV)))(l45:BJ K "number_below" "Reader.number_below" (st 45) bV d45)(n45:isFn K (.ref bV)=true)
 (a46:findIn K (.ref c_2) "args_here"=some (some (.ref bU)))(l46:BJ K "args_here" "Reader.args_here" (st 46) bU d46)(n46:isFn K (.ref bU)=true)
 (k46:d46.code= .ref cc46)(h46:codeHdIn K cc46 cp46=true)(u46:K.lookup cp46=none)
 (a47:findIn K (.ref c_2) "case"=some (some (.ref bT)))(l47:BJ K "case" "Reader.case" (st 47) bT d47)(n47:isFn K (.ref bT)=true)
 (a48:findIn K (.ref c_2) "arm"=some (some (.ref bS)))(l48:BJ K "arm" "Reader.arm" (st 48) bS d48)(n48:isFn K (.ref bS)=true)
 (k48:d48.code= .ref cc48)(h48:codeHdIn K cc48 cp48=true)(u48:K.lookup cp48=none)
 (cl2:JT K c_2)(cm2:makesIn K c_2=true)(cp2:keepIn K (.ref c_2)=true)
 (e0:findIn K (.ref c_2) "text"=some none)
 (e1:findIn K (.ref c_2) "at"=some none)
 (z:Each (λx=>nsIn K mainGlobals x=some none) JI)
 (y0:nsIn K mainGlobals "MOST_LETTERS"=some (some (.int 8 t0)))
 (y1:nsIn K mainGlobals "MOST_PARTS"=some (some (.int 3 t1)))
 (y2:nsIn K mainGlobals "MOST_NODES"=some (some (.int 40 t2)))
 (y3:nsIn K mainGlobals "MOST_ABOVE"=some (some (.int 11 t3)))
 (y4:nsIn K mainGlobals "MOST_FORMS"=some (some (.int 4 t4)))
 (y5:nsIn K mainGlobals "MOST_FIGURES"=some (some (.int 60 t5)))
 :(∀p∈([(cc46,cp46),(cc48,cp48)]:List (Addr×Addr)),codeHdIn K p.1 p.2=true/\K.lookup p.2=none)/\∃fd:FuncData,(∀(s:Shared) (v:Value),BindsTo s fd ⟨[v],[]⟩ [("_law_script",v)])/\∀base:Heap,K.In base->base.Ns mainGlobals mg->(∀p∈([(cc46,cp46),(cc48,cp48)]:List (Addr×Addr)),base.BuiltinsAt mg p.2/\mainGlobals≠p.2)->D1 l.prog w K mg base MY 200 fa fd ["_law_script"] (Mh 63 [(cc46,cp46),(cc48,cp48)] K):=by
 refine⟨λp hp=>by simp only[mem_cons,not_mem_nil,or_false]at hp;rcases hp with rfl|rfl<;>exact⟨by assumption,by assumption⟩,?_⟩
 have e:ck=fa:=by
  have e:=(mg_of X G a31).symm.trans hfa;injection e with e
  injection e
 subst e
 let fl:List Addr:=[f0,f1,f2,f3,f4,f5,f6,f7,f8,f9,eI,eD,eC,eA,eu,eo,ei,eh,cq,e8,e7,e6,dZ,dY,cn,cm,dX,XI,dW,dU,dS,ck,cj,cg,Zh,cb,c9,c8,c7,bZ,bY,bX,dR,dQ,bW,bV,bU,bT,bS]
 let cl:List Addr:=[c_0,c_1,c_2]
 let W₀:Wd:=⟨K,w,λc=>cl.getD (c%1000) 0,λf=>fl.getD f 0,λ_=>false,0,[(cp46,Fy 46,(Str.ofString "Reader.args_here"++(".<locals>.":Str))++("<lambda>":Str)),(cp48,Fy 48,(Str.ofString "Reader.arm"++(".<locals>.":Str))++("<lambda>":Str))],[]⟩
 have hl46:∀lp q,(Xs 46).lookup lp=some q->fns[q.1]? =some q.2/\∃c P,d46.code= .ref c/\codeHdIn K c P=true/\(P,lp,(Str.ofString "Reader.args_here"++(".<locals>.":Str))++("<lambda>":Str))∈W₀.tabs:=by
  intro lp q hq;rw[bq,lookup_cons]at hq;cases hb:lp == Fy 46 with
  |true=>
    rw[hb]at hq;cases hq;rw[eq_of_beq hb];exact⟨bQ,cc46,cp46,k46,h46,by simp[W₀]⟩
  |false=>rw[hb]at hq;cases hq
 have hl48:∀lp q,(Xs 48).lookup lp=some q->fns[q.1]? =some q.2/\∃c P,d48.code= .ref c/\codeHdIn K c P=true/\(P,lp,(Str.ofString "Reader.arm"++(".<locals>.":Str))++("<lambda>":Str))∈W₀.tabs:=by
  intro lp q hq;rw[bp,lookup_cons]at hq;cases hb:lp == Fy 48 with
  |true=>
    rw[hb]at hq;cases hq;rw[eq_of_beq hb];exact⟨bP,cc48,cp48,k48,h48,by simp[W₀]⟩
  |false=>rw[hb]at hq;cases hq
 have D0:∀f,∃fd:FuncData,∀fi,f < 49->fns[f]? =some fi->HB K W₀ tg tf tc fns f fi fd ((O5.map Ea).getD f []):=by
  intro f;rcases f with _|_|_|_|_|_|_|_|_|_|_|_|_|_|_|_|_|_|_|_|_|_|_|_|_|_|_|_|_|_|_|_|_|_|_|_|_|_|_|_|_|_|_|_|_|_|_|_|_|f
  all_goals first
   |(exact⟨d0,λfi h=>absurd h (by omega)⟩)
   | (apply Exists.intro
      intro fi hlt h;cases h;refine U1 (W:=W₀) (by assumption) ⟨by kernel_rfl,by kernel_rfl,by kernel_rfl,by decide +kernel,by kernel_rfl,by decide +kernel,by decide +kernel⟩ (by kernel_rfl) ?_ rfl rfl ?_
      .intro _ _ _ _ _ _ us hl;rcases us with _|⟨_,_|⟨_,_|⟨_,_|⟨_,_|_⟩⟩⟩⟩<;>first|rfl|cases hl
      .first
       |exact hl46|exact hl48
       |(intro lp q hq;exact absurd (show(none:Option (Nat×EB))=some q from hq) nofun))
 obtain⟨FD,D⟩:=Classical.skolem.mp D0
 have eL:FD 31=d31:=by
  obtain⟨x,qual,st,ct,F,_⟩:=(D 31 _ (by omega) rfl).ex;obtain⟨_,_,_,_,_,_,_,_,_,_,lk,_⟩:=F.ex;obtain⟨_,_,_,_,_,_,_,_,_,_,lk2,_⟩:=l31.ex;have lk:=lk.symm.trans lk2;injection lk with lk
  injection lk with _ _ lk _
  injection lk with lk
 have Gb:Zq K mg W₀ mt 49 tg tf tc:=by
  refine⟨rfl,λx p h=>?g1,λx hx _ _ _=>PySem.W.mg_none_of X G (z.mem x hx),λx f h=>?g3,λx c h=>?g4,λc m f h=>?g5,λc f h=>?g6,rfl,λi h=>?g7,λx p h=>?g8⟩
  case g7=>
   have h:i < 32:=of_decide_eq_true h;have ha:(List.range 32).all (λi=>tf.lookup (tf.getD i ("",0)).1 == some i)=true:=by kernel_rfl
   exact⟨_,eq_of_beq (all_eq_true.mp ha i (mem_range.mpr h))⟩
  case g8=>refine Each.look (l:=tg) (R:=λq:Str×Iv.P=>noFn q.2=true) ?_ h;unfold tg;exact(.cons rfl (.cons rfl (.cons rfl (.cons rfl (.cons rfl (.cons rfl .nil))))))
  case g1=>refine Each.look (l:=tg) (R:=λq:Str×Iv.P=>∃u v,mg q.1=some u/\RelV v u/\∀H,Ay _ H q.2 v) ?_ h;unfold tg;exact(.cons ⟨_,.int 8,mg_of X G y0,⟨_,rfl⟩,λH=>A4.mpr rfl⟩ (.cons ⟨_,.int 3,mg_of X G y1,⟨_,rfl⟩,λH=>A4.mpr rfl⟩ (.cons ⟨_,.int 40,mg_of X G y2,⟨_,rfl⟩,λH=>A4.mpr rfl⟩ (.cons ⟨_,.int 11,mg_of X G y3,⟨_,rfl⟩,λH=>A4.mpr rfl⟩ (.cons ⟨_,.int 4,mg_of X G y4,⟨_,rfl⟩,λH=>A4.mpr rfl⟩ (.cons ⟨_,.int 60,mg_of X G y5,⟨_,rfl⟩,λH=>A4.mpr rfl⟩ .nil))))))
  case g3=>refine Each.look (l:=tf) (R:=λq:Str×Nat=>mg q.1=some (.ref (fl.getD q.2 0))/\keepIn K (.ref (fl.getD q.2 0))=true/\q.2 < 49) ?_ h;unfold tf;exact(.cons ⟨mg_of X G a0,l0.kp,Af 0 (by decide)⟩ (.cons ⟨mg_of X G a1,l1.kp,Af 1 (by decide)⟩ (.cons ⟨mg_of X G a2,l2.kp,Af 2 (by decide)⟩ (.cons ⟨mg_of X G a3,l3.kp,Af 3 (by decide)⟩ (.cons ⟨mg_of X G a4,l4.kp,Af 4 (by decide)⟩ (.cons ⟨mg_of X G a5,l5.kp,Af 5 (by decide)⟩ (.cons ⟨mg_of X G a6,l6.kp,Af 6 (by decide)⟩ (.cons ⟨mg_of X G a7,l7.kp,Af 7 (by decide)⟩ (.cons ⟨mg_of X G a8,l8.kp,Af 8 (by decide)⟩ (.cons ⟨mg_of X G a9,l9.kp,Af 9 (by decide)⟩ (.cons ⟨mg_of X G a10,l10.kp,Af 10 (by decide)⟩ (.cons ⟨mg_of X G a11,l11.kp,Af 11 (by decide)⟩ (.cons ⟨mg_of X G a12,l12.kp,Af 12 (by decide)⟩ (.cons ⟨mg_of X G a13,l13.kp,Af 13 (by decide)⟩ (.cons ⟨mg_of X G a14,l14.kp,Af 14 (by decide)⟩ (.cons ⟨mg_of X G a15,l15.kp,Af 15 (by decide)⟩ (.cons ⟨mg_of X G a16,l16.kp,Af 16 (by decide)⟩ (.cons ⟨mg_of X G a17,l17.kp,Af 17 (by decide)⟩ (.cons ⟨mg_of X G a18,l18.kp,Af 18 (by decide)⟩ (.cons ⟨mg_of X G a19,l19.kp,Af 19 (by decide)⟩ (.cons ⟨mg_of X G a20,l20.kp,Af 20 (by decide)⟩ (.cons ⟨mg_of X G a21,l21.kp,Af 21 (by decide)⟩ (.cons ⟨mg_of X G a22,l22.kp,Af 22 (by decide)⟩ (.cons ⟨mg_of X G a23,l23.kp,Af 23 (by decide)⟩ (.cons ⟨mg_of X G a24,l24.kp,Af 24 (by decide)⟩ (.cons ⟨mg_of X G a25,l25.kp,Af 25 (by decide)⟩ (.cons ⟨mg_of X G a26,l26.kp,Af 26 (by decide)⟩ (.cons ⟨mg_of X G a27,l27.kp,Af 27 (by decide)⟩ (.cons ⟨mg_of X G a28,l28.kp,Af 28 (by decide)⟩ (.cons ⟨mg_of X G a29,l29.kp,Af 29 (by decide)⟩ (.cons ⟨mg_of X G a30,l30.kp,Af 30 (by decide)⟩ (.cons ⟨mg_of X G a31,l31.kp,Af 31 (by decide)⟩ .nil))))))))))))))))))))))))))))))))
  case g4=>refine Each.look (l:=tc) (R:=λq:Str×Nat=>mg q.1=some (.ref (cl.getD (q.2%1000) 0))/\∀f,mt.m q.2 (Str.ofString "__init__")=some f->Mk K (cl.getD (q.2%1000) 0) (fl.getD f 0)) ?_ h;unfold tc;exact(.cons ⟨mg_of X G ac0,λf h=>absurd (show(none:Option Nat)=some f from h) nofun⟩ (.cons ⟨mg_of X G ac1,λf h=>absurd (show(none:Option Nat)=some f from h) nofun⟩ (.cons ⟨mg_of X G ac2,λf h=>by cases (show some 32=some f from h);exact⟨cm2,a32,n32,cp2⟩⟩ .nil)))
  case g5=>refine Each.look (l:=tm) (R:=λq:(Nat×Str)×Nat=>JT K (cl.getD q.1.1 0)/\(q.1.2≠Str.ofString "__init__"->Meth K (cl.getD q.1.1 0) q.1.2 (fl.getD q.2 0))/\q.2 < 49) ?_ (show tm.lookup (c%1000,m)=some f from h);unfold tm;exact(.cons ⟨cl2,λ_=>⟨a32,n32,l32.kp⟩,Af 32 (by decide)⟩ (.cons ⟨cl2,λ_=>⟨a33,n33,l33.kp⟩,Af 33 (by decide)⟩ (.cons ⟨cl2,λ_=>⟨a34,n34,l34.kp⟩,Af 34 (by decide)⟩ (.cons ⟨cl2,λ_=>⟨a35,n35,l35.kp⟩,Af 35 (by decide)⟩ (.cons ⟨cl2,λ_=>⟨a36,n36,l36.kp⟩,Af 36 (by decide)⟩ (.cons ⟨cl2,λ_=>⟨a37,n37,l37.kp⟩,Af 37 (by decide)⟩ (.cons ⟨cl2,λ_=>⟨a38,n38,l38.kp⟩,Af 38 (by decide)⟩ (.cons ⟨cl2,λ_=>⟨a39,n39,l39.kp⟩,Af 39 (by decide)⟩ (.cons ⟨cl2,λ_=>⟨a40,n40,l40.kp⟩,Af 40 (by decide)⟩ (.cons ⟨cl2,λ_=>⟨a41,n41,l41.kp⟩,Af 41 (by decide)⟩ (.cons ⟨cl2,λ_=>⟨a42,n42,l42.kp⟩,Af 42 (by decide)⟩ (.cons ⟨cl2,λ_=>⟨a43,n43,l43.kp⟩,Af 43 (by decide)⟩ (.cons ⟨cl2,λ_=>⟨a44,n44,l44.kp⟩,Af 44 (by decide)⟩ (.cons ⟨cl2,λ_=>⟨a45,n45,l45.kp⟩,Af 45 (by decide)⟩ (.cons ⟨cl2,λ_=>⟨a46,n46,l46.kp⟩,Af 46 (by decide)⟩ (.cons ⟨cl2,λ_=>⟨a47,n47,l47.kp⟩,Af 47 (by decide)⟩ (.cons ⟨cl2,λ_=>⟨a48,n48,l48.kp⟩,Af 48 (by decide)⟩ .nil)))))))))))))))))
  case g6=>refine Each.mem (l:=tl) (R:=λq:Nat×Str=>By K (cl.getD q.1 0) q.2) ?_ (c%1000,f) (by simpa using(show tl.contains (c%1000,f)=true from h));unfold tl;exact(.cons e0 (.cons e1 .nil))
 refine⟨FD 31,λs v=>?b,λbase _ _ hB=>((Qf (P:=l.prog) (w:=w) (mg:=mg) (W0:=W₀) rfl Gb (by decide) (by decide) ?ndt (λc=>?tagc) D 100 W₀ base ⟨⟨rfl,rfl,rfl,rfl,λ_ _=>rfl⟩,λn h1 h2=>(by cases h2),λq hq=>?blt⟩).1 31 (by decide)).1.imp λvs H Q E z=>Tc rfl ?tabs rfl hlaw vs H Q E z⟩
 case ndt=>
  show([cp46,cp48]:List Addr).Nodup;simpa using hne0
 case tagc=>show cl.getD (tag c%1000) 0=cl.getD (c%1000) 0;unfold tag;split<;>simp[Nat.add_mod]
 case blt=>
  simp only[W₀,mem_cons,not_mem_nil,or_false]at hq;rcases hq with rfl|rfl
  all_goals first
   |exact hB (cc46,cp46) (by simp)
   |exact hB (cc48,cp48) (by simp)
 case tabs=>
  intro q hq;simp only[W₀,mem_cons,not_mem_nil,or_false]at hq;rcases hq with rfl|rfl
  all_goals first
   |exact⟨(cc46,cp46),by simp,rfl⟩
   |exact⟨(cc48,cp48),by simp,rfl⟩
 case b=>
  obtain⟨_,_,_,_,_,_,_,_,_,ed,_⟩:=l31.ex;rw[eL,ed];exact .of_eq rfl
end Lk51
namespace Iv
theorem Bs(c:Env->Res Bool)(b:Env->Res Fl)(ρ:Env):A1 c b ρ=(c ρ).bind λx ρ=>if x then(b ρ).bind λf ρ=>match f with
 |.nx=>A1 c b ρ
 |.cnt=>A1 c b ρ
 |.brk=>.ok .nx ρ
 |.ret r=>.ok (.ret r) ρ
 else .ok .nx ρ:=by
 have up:∀n,Ap c b (n+1) ρ≠.stuck->A1 c b ρ=Ap c b (n+1) ρ:=λn h=>Ob h
 have dn:∀{n ρ'},Ap c b n ρ'≠.stuck->A1 c b ρ'=Ap c b n ρ':=λh=>Ob h
 have st:∀ρ',A1 c b ρ'= .stuck->∀n,Ap c b n ρ'= .stuck:=λρ' h n=>by
  by_cases hn:Ap c b n ρ'= .stuck
  .exact hn
  .rw[dn hn]at h;exact absurd h hn
 by_cases hex:∃n,Ap c b n ρ≠.stuck
 .obtain⟨n,hn⟩:=hex;have hn1:Ap c b (n+1) ρ≠.stuck:=by rw[Cz n ρ hn];exact hn
  rw[up n hn1,AO];rw[AO]at hn1;cases ec:c ρ with
  |stuck=>rfl
  |err x p ρ'=>rfl
  |ok x ρ1=>
    rw[ec,Res.A3]at hn1;rw[Res.A3,Res.A3];cases x with
    |false=>rfl
    |true=>
      rw[iP rfl]at hn1;rw[iP rfl,iP rfl];cases eb:b ρ1 with
      |stuck=>rfl
      |err x p ρ'=>rfl
      |ok f ρ2=>
        rw[eb,Res.A3]at hn1;rw[Res.A3,Res.A3];cases f with
        |nx=>exact(dn hn1).symm
        |cnt=>exact(dn hn1).symm
        |brk=>rfl
        |ret r=>rfl
 .have hs : ∀n,Ap c b n ρ= .stuck:=λn=>by
   by_cases hn:Ap c b n ρ= .stuck
   .exact hn
   .exact absurd ⟨n,hn⟩ hex
  have hw:A1 c b ρ= .stuck:=by
   by_cases hw:A1 c b ρ= .stuck
   .exact hw
   .obtain⟨n,hn⟩:=IJ hw;rw[<-hn];exact hs n
  rw[hw];cases ec:c ρ with
  |stuck=>rfl
  |err x p ρ'=>
    have:=hs 1;rw[AO,ec]at this;cases this
  |ok x ρ1 =>
    rw[Res.A3];cases x with
    |false=>
      have:=hs 1;rw[AO,ec]at this;cases this
    |true=>
      rw[iP rfl];cases eb:b ρ1 with
      |stuck=>rfl
      |err x p ρ'=>
        have:=hs 1;rw[AO,ec,Res.A3,iP rfl,eb]at this;cases this
      |ok f ρ2=>
        rw[Res.A3];have hf:=λn=>hs (n+1)
        simp only[AO,ec,Res.A3,iP rfl,eb]at hf
        have again:(∀n,Ap c b n ρ2= .stuck)->A1 c b ρ2= .stuck:=λh=>by
         by_cases hw:A1 c b ρ2= .stuck
         .exact hw
         .obtain⟨n,hn⟩:=IJ hw;rw[<-hn];exact h n
        cases f with
        |nx=>exact(again hf).symm
        |cnt=>exact(again hf).symm
        |brk=>exact absurd (hf 0) nofun
        |ret r=>exact absurd (hf 0) nofun
variable{wh:WH}{fi:EB}{args:List C}
theorem QB{fns:List EB}{mt:MT}{k f:Nat}(hf:fns[f]? =some fi)(hl:args.length=fi.np)(e:execs (A0 fns mt wh k) mt wh fi.body (args.map some++List.replicate (fi.nl - fi.np) none)= .ok (.ret c) ρ):
 A0 fns mt wh (k+1) f args= .ok c (D8 fi ρ):=by
 show(match fns[f]? with|some fi=>Du (A0 fns mt wh k) mt wh fi args|none=>.stuck)=_;rw[hf];show Du (A0 fns mt wh k) mt wh fi args=_;unfold Du;rw[iP hl,e]
theorem Ud{fns:List EB}{mt:MT}{k f:Nat}(hf:fns[f]? =some fi)(hl:args.length=fi.np)(e:execs (A0 fns mt wh k) mt wh fi.body (args.map some++List.replicate (fi.nl - fi.np) none)= .ok .nx ρ):
 A0 fns mt wh (k+1) f args= .ok (.p .Az) (D8 fi ρ):=by
 show(match fns[f]? with|some fi=>Du (A0 fns mt wh k) mt wh fi args|none=>.stuck)=_;rw[hf];show Du (A0 fns mt wh k) mt wh fi args=_;unfold Du;rw[iP hl,e]
end Iv
namespace Iv
open PySem
variable{cf:CF}{mt:MT}
theorem Q4(i:Nat)(f:Str)(v:Env->Res C)(ρ:Env):BA (.fld i f) v ρ=if(Br ρ i f).isSome then .ok (.fld i f) ρ else .stuck:=rfl
theorem Zf{a:Option C}{r:Env}:A7 (a::r) 0=a:=rfl
theorem Ze{a b:Option C}{r:Env}:A7 (a::b::r) 1=b:=rfl
theorem iy{a b c:Option C}{r:Env}:A7 (a::b::c::r) 2=c:=rfl
theorem iW{a b c d:Option C}{r:Env}:A7 (a::b::c::d::r) 3=d:=rfl
theorem iV{a b c d e:Option C}{r:Env}:A7 (a::b::c::d::e::r) 4=e:=rfl
theorem iU{a b c d e f:Option C}{r:Env}:A7 (a::b::c::d::e::f::r) 5=f:=rfl
theorem iT{a b c d e f g:Option C}{r:Env}:A7 (a::b::c::d::e::f::g::r) 6=g:=rfl
theorem iS{a b c d e f g h:Option C}{r:Env}:A7 (a::b::c::d::e::f::g::h::r) 7=h:=rfl
theorem iR{a b c d e f g h i:Option C}{r:Env}:A7 (a::b::c::d::e::f::g::h::i::r) 8=i:=rfl
theorem iQ{a b c d e f g h i j:Option C}{r:Env}:A7 (a::b::c::d::e::f::g::h::i::j::r) 9=j:=rfl
noncomputable def jS(cf:CF)(mt:MT)(ss:List S)(r:Res Fl):Res Fl:=r.bind λf ρ=>match f with
    |.nx=>execs cf mt A1 ss ρ
    |f=>.ok f ρ
def ix(i:Nat)(r:Res C):Res Fl:=r.bind λc ρ=>.ok .nx (ρ.set i (some c))
def iv(r:Res C):Res Fl:=r.bind λ_ ρ=>.ok .nx ρ
def ip(r:Res C):Res Fl:=r.bind λc ρ=>.ok (.ret c) ρ
noncomputable def gm(cf:CF)(mt:MT)(a b:List S)(r:Res Bool):Res Fl:=r.bind λx ρ=>if x then execs cf mt A1 a ρ else execs cf mt A1 b ρ
noncomputable def ir(o:O)(b:Bool)(r:Res (List Hd)):Res C:=if b then r.bind λhs ρ=>Res.of ((Ai ρ hs).bind (Av o)) ρ else .stuck
def jH(r:Res C):Res Hd:=r.bind λc ρ=>.ok (.AI c) ρ
def Zd(r:Res C):Res Bool:=(jH r).bind λh ρ=>Res.of ((h.cont ρ).bind CH) ρ
def gn(i:Nat)(ρ:Env)(o:Option C):Res Hd:=if o.isSome then .ok (.slot i) ρ else .stuck
noncomputable def jV(i:Nat)(ρ:Env)(o:Option C):Res C:=match o with
    |some c=>if c.cp then .ok c ρ else .ok c (ρ.set i none)
    |none=>.stuck
def il(i:Nat)(ρ:Env)(o:Option C):Res Bool:=(gn i ρ o).bind λh ρ=>Res.of ((h.cont ρ).bind CH) ρ
noncomputable def jA(cf:CF)(mt:MT)(ts:List T)(r:Res Hd):Res (List Hd):=r.bind λh ρ=>match h with
    |.fld i f=>if ts.all T.calm then(A9 cf mt ts ρ).bind λhs ρ=>.ok (.fld i f::hs) ρ else .stuck
    |h=>(A9 cf mt ts ρ).bind λhs ρ=>.ok (h::hs) ρ
def dJ(h:Hd)(r:Res (List Hd)):Res (List Hd):=r.bind λhs ρ=>.ok (h::hs) ρ
def jD(cf:CF)(mt:MT)(ts:List T)(r:Res C):Res (List P):=r.bind λc ρ=>MM c (Cu cf mt ts) ρ
def iw(x:P)(r:Res (List P)):Res (List P):=r.bind λxs ρ=>.ok (x::xs) ρ
def dH(r:Res (List P)):Res C:=r.bind λps ρ=>.ok (.p (.tup ps)) ρ
def dI(r:Res (List P)):Res C:=r.bind λps ρ=>.ok (.lst ps) ρ
noncomputable def Xz(cf:CF)(mt:MT)(b:T)(r:Res Bool):Res Bool:=r.bind λc ρ=>if c then tv cf mt b ρ else .ok false ρ
noncomputable def gk(cf:CF)(mt:MT)(b:T)(r:Res Bool):Res Bool:=r.bind λc ρ=>if c then .ok true ρ else tv cf mt b ρ
def Ti(r:Res Bool):Res Bool:=r.bind λb ρ=>.ok (!b) ρ
def PU(cf:CF)(mt:MT)(b:T)(r:Res C):Res C:=r.bind λc ρ=>Cr c (ev cf mt b) ρ
def Xy(cf:CF)(mt:MT)(b:T)(r:Res C):Res C:=r.bind λc ρ=>aN c (ev cf mt b) ρ
def Vy(r:Res C):Res C:=r.bind λc ρ=>Pm c ρ
noncomputable def iu(m:MO)(h:Hd)(a b c:Bool)(r:Res (List Hd)):Res C:=if a && b && c then r.bind λhs ρ=>J6 m h hs ρ else .stuck
noncomputable def bx(i:Nat)(ρ:Env)(o:Option (C×B)):Res C:=match o with
    |some (c,b')=>(Res.of (setB ρ (.slot i) b') ρ).bind λρ' _=>.ok c ρ'
    |none=>.stuck
noncomputable def jM(m:MO)(h:Hd)(hs:List Hd)(ρ:Env)(x:Option C)(y:Option (List C)):Res C:=match x,y with
 | some (.b b),some cs=>if(BH (h::hs) (.b b::cs)).Nodup then match Ei m b cs with
   |some (c,b')=>(Res.of (setB ρ h b') ρ).bind λρ' _=>.ok c ρ'
   |none=>.stuck
   else .stuck
 |_,_=>.stuck
def jC(r:Option (List C))(o:Option C):Option (List C):=o.bind λc=>r.map (c::·)
theorem BG(s:S)(ss:List S)(ρ:Env):execs cf mt A1 (s::ss) ρ=jS cf mt ss (exec cf mt A1 s ρ):=rfl
theorem UA(ρ:Env):execs cf mt A1 [] ρ= .ok .nx ρ:=rfl
theorem Fo(ss:List S)(ρ:Env):jS cf mt ss (.ok .nx ρ)=execs cf mt A1 ss ρ:=rfl
theorem Ra(ss:List S)(c:C)(ρ:Env):jS cf mt ss (.ok (.ret c) ρ)= .ok (.ret c) ρ:=rfl
theorem Rc(ss:List S)(ρ:Env):jS cf mt ss (.ok .brk ρ)= .ok .brk ρ:=rfl
theorem Rb(ss:List S)(ρ:Env):jS cf mt ss (.ok .cnt ρ)= .ok .cnt ρ:=rfl
theorem UE(i:Nat)(t:T)(ρ:Env):exec cf mt A1 (.asg (.nm i) t) ρ=ix i (ev cf mt t ρ):=rfl
theorem Ro(i:Nat)(c:C)(ρ:Env):ix i (.ok c ρ)= .ok .nx (ρ.set i (some c)):=rfl
theorem R7(t:T)(ρ:Env):exec cf mt A1 (.expr t) ρ=iv (ev cf mt t ρ):=rfl
theorem Rm(c:C)(ρ:Env):iv (.ok c ρ)= .ok .nx ρ:=rfl
theorem R5(ρ:Env):exec cf mt A1 (.ret none) ρ= .ok (.ret (.p .Az)) ρ:=rfl
theorem Gy(t:T)(ρ:Env):exec cf mt A1 (.ret (some t)) ρ=ip (ev cf mt t ρ):=rfl
theorem Rf(c:C)(ρ:Env):ip (.ok c ρ)= .ok (.ret c) ρ:=rfl
theorem UB(c:T)(a b:List S)(ρ:Env):exec cf mt A1 (.ifs c a b) ρ=gm cf mt a b (tv cf mt c ρ):=rfl
theorem UJ(a b:List S)(ρ:Env):gm cf mt a b (.ok true ρ)=execs cf mt A1 a ρ:=rfl
theorem UK(a b:List S)(ρ:Env):gm cf mt a b (.ok false ρ)=execs cf mt A1 b ρ:=rfl
theorem R6(ρ:Env):exec cf mt A1 .pass ρ= .ok .nx ρ:=rfl
theorem UD(ρ:Env):exec cf mt A1 .brk ρ= .ok .brk ρ:=rfl
theorem UC(ρ:Env):exec cf mt A1 .cnt ρ= .ok .cnt ρ:=rfl
theorem UT(i:Nat)(ρ:Env):ev cf mt (.var i) ρ=jV i ρ (A7 ρ i):=rfl
theorem YO(i:Nat)(ρ:Env)(x:P):jV i ρ (some (.b (.p x)))= .ok (.p x) ρ:=rfl
theorem YQ(i:Nat)(ρ:Env)(x:List P):jV i ρ (some (.b (.lst x)))= .ok (.lst x) (ρ.set i none):=rfl
theorem YR(i:Nat)(ρ:Env)(x:List (P×P)):jV i ρ (some (.b (.Cv x)))= .ok (.Cv x) (ρ.set i none):=rfl
theorem YN(i:Nat)(ρ:Env)(x:List P):jV i ρ (some (.b (.ro x)))= .ok (.b (.ro x)) ρ:=rfl
theorem YS(i:Nat)(ρ:Env)(c:C):jV i ρ (some c)=if c.cp then .ok c ρ else .ok c (ρ.set i none):=rfl
theorem UY(p:P)(ρ:Env):ev cf mt (.cst p) ρ= .ok (.p p) ρ:=rfl
theorem DH(o:O)(ts:List T)(ρ:Env):ev cf mt (.prim o ts) ρ=ir o o.ok (A9 cf mt ts ρ):=rfl
theorem Rg(o:O)(hs:List Hd)(ρ:Env):ir o true (.ok hs ρ)=Res.of ((Ai ρ hs).bind (Av o)) ρ:=rfl
theorem Z3(o:O)(ts:List T)(ρ:Env):tv cf mt (.prim o ts) ρ=Zd (ev cf mt (.prim o ts) ρ):=rfl
theorem R8(c:C)(ρ:Env):Zd (.ok c ρ)=Res.of (CH c) ρ:=rfl
theorem Rx(i:Nat)(ρ:Env):tv cf mt (.var i) ρ=il i ρ (A7 ρ i):=rfl
theorem UG(i:Nat)(ρ:Env)(c:C):il i ρ (some c)=Res.of ((A7 ρ i).bind CH) ρ:=rfl
theorem Gz(i:Nat)(ρ:Env)(c:C):gn i ρ (some c)= .ok (.slot i) ρ:=rfl
theorem GA(i:Nat)(v:Env->Res C)(ρ:Env):BA (.var i) v ρ=gn i ρ (A7 ρ i):=rfl
theorem US(p:P)(v:Env->Res C)(ρ:Env):BA (.cst p) v ρ=jH (v ρ):=rfl
theorem Rt(o:O)(ts:List T)(v:Env->Res C)(ρ:Env):BA (.prim o ts) v ρ=jH (v ρ):=rfl
theorem UN(ts:List T)(v:Env->Res C)(ρ:Env):BA (.tup ts) v ρ=jH (v ρ):=rfl
theorem UP(ts:List T)(v:Env->Res C)(ρ:Env):BA (.lst ts) v ρ=jH (v ρ):=rfl
theorem HA(f:Nat)(ts:List T)(v:Env->Res C)(ρ:Env):BA (.call f ts) v ρ=jH (v ρ):=rfl
theorem Ru(f:Str)(o:T)(ts:List T)(v:Env->Res C)(ρ:Env):BA (.Ag f o ts) v ρ=jH (v ρ):=rfl
theorem UO(m:MO)(o:T)(ts:List T)(v:Env->Res C)(ρ:Env):BA (.ES m o ts) v ρ=jH (v ρ):=rfl
theorem CZ(g:Tg)(k:IK)(its cond:List T)(elt:T)(fr:List (Option Nat))(v:Env->Res C)(ρ:Env):BA (.comp g k its cond elt fr) v ρ=jH (v ρ):=rfl
theorem Rv(o:T)(ts:List T)(v:Env->Res C)(ρ:Env):BA (.Q9 o ts) v ρ=jH (v ρ):=rfl
theorem UR(a b:List T)(v:Env->Res C)(ρ:Env):BA (.Cv a b) v ρ=jH (v ρ):=rfl
theorem UL(c:C)(ρ:Env):jH (.ok c ρ)= .ok (.AI c) ρ:=rfl
theorem V1(ρ:Env):A9 cf mt [] ρ= .ok [] ρ:=rfl
theorem Bh(t:T)(ts:List T)(ρ:Env):A9 cf mt (t::ts) ρ=jA cf mt ts (BA t (ev cf mt t) ρ):=rfl
theorem JO(i:Nat)(ts:List T)(ρ:Env):jA cf mt ts (.ok (.slot i) ρ)=dJ (.slot i) (A9 cf mt ts ρ):=rfl
theorem YY(c:C)(ts:List T)(ρ:Env):jA cf mt ts (.ok (.AI c) ρ)=dJ (.AI c) (A9 cf mt ts ρ):=rfl
theorem YZ(i:Nat)(f:Str)(ts:List T)(ρ:Env):jA cf mt ts (.ok (.fld i f) ρ)=if ts.all T.calm then dJ (.fld i f) (A9 cf mt ts ρ)else .stuck:=rfl
theorem Rr(h:Hd)(hs:List Hd)(ρ:Env):dJ h (.ok hs ρ)= .ok (h::hs) ρ:=rfl
theorem RF(t:T)(ts:List T)(ρ:Env):Cu cf mt (t::ts) ρ=jD cf mt ts (ev cf mt t ρ):=rfl
theorem UM(x:P)(ts:List T)(ρ:Env):jD cf mt ts (.ok (.b (.p x)) ρ)=iw x (Cu cf mt ts ρ):=rfl
theorem Rn(x:P)(xs:List P)(ρ:Env):iw x (.ok xs ρ)= .ok (x::xs) ρ:=rfl
theorem RA(a:T)(ρ:Env):ev cf mt (.tup [a]) ρ=dH (Cu cf mt [a] ρ):=rfl
theorem Rz(a b:T)(ρ:Env):ev cf mt (.tup [a,b]) ρ=dH (Cu cf mt [a,b] ρ):=rfl
theorem RE(ρ:Env):ev cf mt (.lst []) ρ= .ok (.lst []) ρ:=rfl
theorem RD(a:T)(ρ:Env):ev cf mt (.lst [a]) ρ=dI (Cu cf mt [a] ρ):=rfl
theorem RC(a b:T)(ρ:Env):ev cf mt (.lst [a,b]) ρ=dI (Cu cf mt [a,b] ρ):=rfl
theorem R9(xs:List P)(ρ:Env):dH (.ok xs ρ)= .ok (.p (.tup xs)) ρ:=rfl
theorem Rl(xs:List P)(ρ:Env):dI (.ok xs ρ)= .ok (.lst xs) ρ:=rfl
theorem Uz(a b:T)(ρ:Env):tv cf mt (.and a b) ρ=Xz cf mt b (tv cf mt a ρ):=rfl
theorem YM(a b:T)(ρ:Env):tv cf mt (.or a b) ρ=gk cf mt b (tv cf mt a ρ):=rfl
theorem Fn(a:T)(ρ:Env):tv cf mt (.not a) ρ=Ti (tv cf mt a ρ):=rfl
theorem UZ(a b:T)(ρ:Env):ev cf mt (.and a b) ρ=PU cf mt b (ev cf mt a ρ):=rfl
theorem Z4(a b:T)(ρ:Env):ev cf mt (.or a b) ρ=Xy cf mt b (ev cf mt a ρ):=rfl
theorem UU(a:T)(ρ:Env):ev cf mt (.not a) ρ=Vy (ev cf mt a ρ):=rfl
theorem Rp(b:T)(ρ:Env):Xz cf mt b (.ok true ρ)=tv cf mt b ρ:=rfl
theorem Rq(b:T)(ρ:Env):Xz cf mt b (.ok false ρ)= .ok false ρ:=rfl
theorem UH(b:T)(ρ:Env):gk cf mt b (.ok true ρ)= .ok true ρ:=rfl
theorem UI(b:T)(ρ:Env):gk cf mt b (.ok false ρ)=tv cf mt b ρ:=rfl
theorem NZ(b:Bool)(ρ:Env):Ti (.ok b ρ)= .ok (!b) ρ:=rfl
theorem O0(b:T)(ρ:Env):PU cf mt b (.ok (.b (.p (.bl true))) ρ)=ev cf mt b ρ:=rfl
theorem O1(b:T)(ρ:Env):PU cf mt b (.ok (.b (.p (.bl false))) ρ)= .ok (.p (.bl false)) ρ:=rfl
theorem Rh(b:T)(ρ:Env):Xy cf mt b (.ok (.b (.p (.bl true))) ρ)= .ok (.p (.bl true)) ρ:=rfl
theorem Ri(b:T)(ρ:Env):Xy cf mt b (.ok (.b (.p (.bl false))) ρ)=ev cf mt b ρ:=rfl
theorem M9(b:Bool)(ρ:Env):Vy (.ok (.b (.p (.bl b))) ρ)= .ok (.p (.bl (!b))) ρ:=rfl
theorem UW(m:MO)(i:Nat)(ts:List T)(ρ:Env):ev cf mt (.ES m (.var i) ts) ρ=iu m (.slot i) m.ok (Vz (A7 ρ i)) true (A9 cf mt ts ρ):=rfl
theorem Rj(m:MO)(h:Hd)(hs:List Hd)(ρ:Env):iu m h true true true (.ok hs ρ)=jM m h hs ρ (h.cont ρ) (Ai ρ hs):=rfl
theorem YW(m:MO)(i:Nat)(ρ:Env)(l:List P):jM m (.slot i) [] ρ (some (.b (.lst l))) (some [])=bx i ρ (Ei m (.lst l) []):=rfl
theorem YT(m:MO)(i:Nat)(ρ:Env)(l:List P)(d:C)(x:P):jM m (.slot i) [.AI d] ρ (some (.b (.lst l))) (some [.b (.p x)])=bx i ρ (Ei m (.lst l) [.p x]):=rfl
theorem YV(m:MO)(i:Nat)(ρ:Env)(l:List P)(d:C)(x:List P):jM m (.slot i) [.AI d] ρ (some (.b (.lst l))) (some [.b (.lst x)])=bx i ρ (Ei m (.lst l) [.lst x]):=rfl
theorem YU(m:MO)(i j:Nat)(ρ:Env)(l:List P)(x:P):jM m (.slot i) [.slot j] ρ (some (.b (.lst l))) (some [.b (.p x)])=bx i ρ (Ei m (.lst l) [.p x]):=rfl
theorem Rk(i:Nat)(ρ:Env)(c:C)(b:B):bx i ρ (some (c,b))= .ok c (ρ.set i (some (.b b))):=rfl
theorem RG(ρ:Env)(h:Hd)(hs:List Hd):Ai ρ (h::hs)=jC (Ai ρ hs) (h.cont ρ):=rfl
theorem V0(ρ:Env):Ai ρ []=some []:=rfl
theorem YX(c:C)(cs:List C):jC (some cs) (some c)=some (c::cs):=rfl
theorem Z1(ρ:Env)(i:Nat):(Hd.slot i).cont ρ=A7 ρ i:=rfl
theorem Z0(ρ:Env)(c:C):(Hd.AI c).cont ρ=some c:=rfl
theorem Z2(ρ:Env)(i:Nat)(f:Str):(Hd.fld i f).cont ρ=Br ρ i f:=rfl
theorem Uy(b:Bool):CH (.b (.p (.bl b)))=some b:=rfl
theorem Ux(l:List P):CH (.b (.lst l))=some (!l.isEmpty):=rfl
theorem M8(m:Str)(o:T)(ts:List T)(ρ:Env):tv cf mt (.Ag m o ts) ρ=Zd (ev cf mt (.Ag m o ts) ρ):=rfl
theorem i5(f:Nat)(ts:List T)(ρ:Env):tv cf mt (.call f ts) ρ=Zd (ev cf mt (.call f ts) ρ):=rfl
theorem UQ(i:Nat)(f:Str)(v:Env->Res C)(ρ:Env):BA (.fld i f) v ρ=if(Br ρ i f).isSome then .ok (.fld i f) ρ else .stuck:=rfl
theorem UX(i:Nat)(f:Str)(ρ:Env):ev cf mt (.fld i f) ρ=match Br ρ i f with|some c=>if c.cp then .ok c ρ else .stuck|none=>.stuck:=rfl
theorem R4(i:Nat)(f:Str)(v:T)(ρ:Env):exec cf mt A1 (.GR i f v) ρ=(ev cf mt v ρ).bind λv ρ=>HW mt i f v ρ:=rfl
theorem Gx(c:T)(b:List S)(ρ:Env):exec cf mt A1 (.JU c b) ρ=A1 (tv cf mt c) (execs cf mt A1 b) ρ:=rfl
theorem Ry(a b c:T)(ρ:Env):ev cf mt (.tup [a,b,c]) ρ=dH (Cu cf mt [a,b,c] ρ):=rfl
theorem RB(a b c d:T)(ρ:Env):ev cf mt (.lst [a,b,c,d]) ρ=dI (Cu cf mt [a,b,c,d] ρ):=rfl
theorem L6(i:Nat)(ts:List T)(ρ:Env):ev cf mt (.Ew i ts) ρ=match A7 ρ i with
 |some (.b (.p (.fn n)))=>if mt.tf n then(A9 cf mt ts ρ).bind λhs ρ=>AH cf n hs ρ else .stuck
 |_=>.stuck:=rfl
theorem Rw(i:Nat)(ts:List T)(v:Env->Res C)(ρ:Env):BA (.Ew i ts) v ρ=jH (v ρ):=rfl
theorem O2(i:Nat)(v:Env->Res C)(ρ:Env):BA (.Dl i) v ρ=jH (v ρ):=rfl
theorem Bp(f:Nat)(ts:List T)(ρ:Env):ev cf mt (.call f ts) ρ=(A9 cf mt ts ρ).bind λhs ρ=>AH cf f hs ρ:=rfl
theorem ai(a b:C):Av .add [a,b]=M6 a b:=rfl
theorem Wx(i j:Int):M6 (.b (.p (.int i))) (.b (.p (.int j)))=some (.p (.int (i+j))):=rfl
theorem Wh(i j:Int):Av .sub [.b (.p (.int i)),.b (.p (.int j))]=some (.p (.int (i-j))):=rfl
theorem ZV(a b:C):Av .mul [a,b]=mulC a b:=rfl
theorem Wn(i j:Int):Av .mod [.b (.p (.int i)),.b (.p (.int j))]=(Ny i j).map λk=>.p (.int k):=rfl
theorem S7(i j:Int):Av .fdiv [.b (.p (.int i)),.b (.p (.int j))]=(Io i j).map λk=>.p (.int k):=rfl
theorem ZU(a b:C):Av .pow [a,b]=Dp Nk a b:=rfl
theorem Wm(i:Int):Av .neg [.b (.p (.int i))]=some (.p (.int (-i))):=rfl
theorem S8(o1 o2:O)(a b c:C):Av (.chain o1 o2) [a,b,c]=Cq o1 o2 a b c:=rfl
theorem aa(a b:C):Av .idx [a,b]=CL a b:=rfl
theorem Wj(a:C)(j:Int):Av (.D4 false true) [a,.b (.p (.int j))]=D3 a none (some j):=rfl
theorem Wi(a:C)(j:Int):Av (.D4 true false) [a,.b (.p (.int j))]=D3 a (some j) none:=rfl
theorem Wk(a:C)(i j:Int):Av (.D4 true true) [a,.b (.p (.int i)),.b (.p (.int j))]=D3 a (some i) (some j):=rfl
theorem ZX(a:C):Av .len [a]=Jc a:=rfl
theorem Wr(l:List P):Jc (.b (.p (.tup l)))=some (.p (.int l.length)):=rfl
theorem Ws(l:List P):Jc (.b (.lst l))=some (.p (.int l.length)):=rfl
theorem ZY(t:Ty)(c:C):Av (.Gr t) [c]=(FG t c).map λb=>.p (.bl b):=rfl
theorem ZW(c:C):Av (.list .op) [c]=(Nf c).map .lst:=rfl
theorem Wg(l:List P):Av (.tuple .op) [.b (.lst l)]=some (.p (.tup l)):=rfl
theorem ah(c:C):Av .all [c]=HN c:=rfl
theorem ZR(a:C):Av .str [a]=F7 Ov a:=rfl
theorem ZZ(a:C):Av .int [a]=PZ a:=rfl
theorem aj(a:C):Av .abs [a]=F7 Ut a:=rfl
theorem Wo(i j:Int):Av .min [.b (.p (.int i)),.b (.p (.int j))]=some (.p (.int (if j < i then j else i))):=rfl
theorem Wq(a:C):Av .Dz [a]=EV a:=rfl
theorem Wu(x:Str)(a:C):Av (.join x) [a]=G1 x a:=rfl
theorem fA(x:P):Av .id [.b (.p x)]=some (.p x):=rfl
theorem fu(a b c:C):Av .sw [a,b,c]=Zb a b c:=rfl
theorem s_eq(a b:C):Av .eq [a,b]=(O9 a b).map λx=>.p (.bl x):=rfl
theorem fv(a b:C):Av .ne [a,b]=(O9 a b).map λx=>.p (.bl (!x)):=by
 show((O9 a b).map _).map _=_;rw[Option.map_map];rfl
theorem ae(a b:P):O9 (.b (.p a)) (.b (.p b))=Fp a b:=rfl
theorem fw(i j:Int):Av .lt [.b (.p (.int i)),.b (.p (.int j))]=some (.p (.bl (decide (i < j)))):=rfl
theorem fB(i j:Int):Av .gt [.b (.p (.int i)),.b (.p (.int j))]=some (.p (.bl (decide (j < i)))):=rfl
theorem fy(i j:Int):Av .le [.b (.p (.int i)),.b (.p (.int j))]=some (.p (.bl (decide (i<=j)))):=rfl
theorem fE(i j:Int):Av .ge [.b (.p (.int i)),.b (.p (.int j))]=some (.p (.bl (decide (j<=i)))):=rfl
theorem eX(x:Str):FG .str (.b (.p (.str x)))=some true:=rfl
theorem eY(x:Int):FG .str (.b (.p (.int x)))=some false:=rfl
theorem eW(x:List P):FG .str (.b (.p (.tup x)))=some false:=rfl
theorem eS(x:List P):FG .tuple (.b (.p (.tup x)))=some true:=rfl
theorem eU(x:Str):FG .tuple (.b (.p (.str x)))=some false:=rfl
theorem eV(x:Int):FG .tuple (.b (.p (.int x)))=some false:=rfl
theorem eZ(x:Int):FG .int (.b (.p (.int x)))=some true:=rfl
theorem fc(x:Int):FG .bool (.b (.p (.int x)))=some false:=rfl
theorem dk(l:List P)(cs:List C):Ei .append (.lst l) cs=Cf l cs:=rfl
theorem dj(l:List P)(cs:List C):Ei .extend (.lst l) cs=EU l cs:=rfl
theorem di(l:List P)(cs:List C):Ei .pop (.lst l) cs=NA l cs:=rfl
theorem LL{n k:Nat}(h:k < n):JR n (k:Int)=some k:=by
 unfold JR;rw[iP (Int.natCast_nonneg k),iP (by omega)];rfl
theorem MD{l:List P}{k:Nat}{p:P}(h:l[k]? =some p):CL (.b (.p (.tup l))) (.b (.p (.int (k:Int))))=some (.p p):=by
 show((JR l.length (k:Int)).bind λk=>(l[k]?).map λx=>C.p x)=_;rw[LL (List.getElem?_eq_some_iff.mp h).1];show(l[k]?).map _=_;rw[h];rfl
theorem Dk{l:List P}{k:Nat}{p:P}(h:l[k]? =some p):CL (.b (.lst l)) (.b (.p (.int (k:Int))))=some (.p p):=by
 show((JR l.length (k:Int)).bind λk=>(l[k]?).map λx=>C.p x)=_;rw[LL (List.getElem?_eq_some_iff.mp h).1];show(l[k]?).map _=_;rw[h];rfl
theorem gu(a:P)(l:List P):CL (.b (.p (.tup (a::l)))) (.b (.p (.int 0)))=some (.p a):=MD (k:=0) rfl
theorem gr(a b:P)(l:List P):CL (.b (.p (.tup (a::b::l)))) (.b (.p (.int 1)))=some (.p b):=MD (k:=1) rfl
theorem gq(a b c:P)(l:List P):CL (.b (.p (.tup (a::b::c::l)))) (.b (.p (.int 2)))=some (.p c):=MD (k:=2) rfl
end Iv
local macro_rules
|`(tactic|simp! [$xs,*])=>`(tactic|simp [↓Iv.BG,Iv.UA,Iv.Fo,Iv.Ra,Iv.Rc,Iv.Rb,Iv.UE,Iv.Ro,Iv.R7,Iv.Rm,Iv.R5,Iv.Gy,Iv.Rf,Iv.UB,Iv.UJ,Iv.UK,Iv.R6,Iv.UD,Iv.UC,Iv.UT,Iv.YO,Iv.YQ,Iv.YR,Iv.YN,Iv.YS,Iv.UY,Iv.DH,Iv.Rg,↓Iv.Z3,Iv.R8,↓Iv.Rx,Iv.UG,Iv.Gz,↓Iv.GA,↓Iv.US,↓Iv.Rt,↓Iv.UN,↓Iv.UP,↓Iv.HA,↓Iv.Ru,↓Iv.UO,↓Iv.CZ,↓Iv.Rv,↓Iv.UR,Iv.UL,Iv.V1,↓Iv.Bh,Iv.JO,Iv.YY,Iv.YZ,Iv.Rr,Iv.RF,Iv.UM,Iv.Rn,Iv.RA,Iv.Rz,Iv.RE,Iv.RD,Iv.RC,Iv.R9,Iv.Rl,Iv.Uz,Iv.YM,Iv.Fn,Iv.UZ,Iv.Z4,Iv.UU,Iv.Rp,Iv.Rq,Iv.UH,Iv.UI,Iv.NZ,Iv.O0,Iv.O1,Iv.Rh,Iv.Ri,Iv.M9,Iv.UW,Iv.Rj,Iv.YW,Iv.YT,Iv.YV,Iv.YU,Iv.Rk,Iv.RG,Iv.V0,Iv.YX,Iv.Z1,Iv.Z0,Iv.Z2,Iv.Uy,Iv.Ux,Iv.Hq,Iv.TY,Iv.Q4,Iv.Qm,Iv.Qn,Iv.Zf,Iv.Ze,Iv.iy,Iv.iW,Iv.iV,Iv.iU,Iv.iT,Iv.iS,Iv.iR,Iv.iQ,Iv.M8,Iv.i5,↓Iv.UQ,Iv.UX,Iv.R4,Iv.Ry,Iv.RB,Iv.Rw,Iv.O2,Iv.ai,Iv.Wx,Iv.Wh,Iv.ZV,Iv.Wn,Iv.S7,Iv.ZU,Iv.Wm,Iv.S8,Iv.aa,Iv.Wj,Iv.Wi,Iv.Wk,Iv.ZX,Iv.Wr,Iv.Ws,Iv.ZY,Iv.ZW,Iv.Wg,Iv.ah,Iv.ZR,Iv.ZZ,Iv.aj,Iv.Wo,Iv.Wq,Iv.Wu,Iv.fA,Iv.fu,Iv.s_eq,Iv.fv,Iv.ae,Iv.fw,Iv.fB,Iv.fy,Iv.fE,Iv.eX,Iv.eY,Iv.eW,Iv.eS,Iv.eU,Iv.eV,Iv.eZ,Iv.fc,Iv.dk,Iv.dj,Iv.di,Iv.gu,Iv.gr,Iv.gq,Iv.O.ok,Iv.MO.ok,Iv.Vz,Iv.XD,Iv.Hd.E9,Iv.T.calm,Iv.placeOf,Iv.BH,Iv.setB,Iv.C.cp,Iv.C.nf,Iv.Cw,$xs,*])
namespace Lk51
open Iv PySem
def b0:List S:=[.JU (.cst (.bl true)) [.pass]]
theorem f0:fns[0]? =some ⟨1,1,b0⟩:=by kernel_rfl
noncomputable def b1:List S:=[.ifs (.not (.prim (.Gr .str) [.var 0])) [.ret (some (.cst (.bl false)))] [],.ifs (.or (.prim .lt [.prim .len [.var 0],.cst (.int 1)]) (.prim .gt [.prim .len [.var 0],.cst (.int 8)])) [.ret (some (.cst (.bl false)))] [],.ret (some (.prim .all [.comp (.nm 1) .op [.var 0] [] (.prim (.chain .le .le) [.cst (.str ⟨#[97]⟩),.var 1,.cst (.str ⟨#[122]⟩)]) [none,none]]))]
theorem f1:fns[1]? =some ⟨1,1,b1⟩:=by kernel_rfl
def b2:List S:=[.ret (some (.and (.prim (.Gr .int) [.var 0]) (.not (.prim (.Gr .bool) [.var 0]))))]
theorem f2:fns[2]? =some ⟨1,1,b2⟩:=by kernel_rfl
noncomputable def b3:List S:=[.ifs (.not (.prim (.Gr .str) [.var 0])) [.ret (some (.cst (.bl false)))] [],.ifs (.or (.prim .lt [.prim .len [.var 0],.cst (.int 1)]) (.prim .gt [.prim .len [.var 0],.cst (.int 8)])) [.ret (some (.cst (.bl false)))] [],.ret (some (.and (.prim (.chain .le .le) [.cst (.str ⟨#[65]⟩),.prim .idx [.var 0,.cst (.int 0)],.cst (.str ⟨#[90]⟩)]) (.prim .all [.comp (.nm 1) .op [.prim (.D4 true false) [.var 0,.cst (.int 1)]] [] (.prim (.chain .le .le) [.cst (.str ⟨#[97]⟩),.var 1,.cst (.str ⟨#[122]⟩)]) [none,none]])))]
theorem f3:fns[3]? =some ⟨1,1,b3⟩:=by kernel_rfl
noncomputable def b4:List S:=[.ret (some (.and (.call 2 [.var 0]) (.prim .lt [.prim .abs [.var 0],.prim .pow [.cst (.int 10),.cst (.int 60)]])))]
theorem f4:fns[4]? =some ⟨1,1,b4⟩:=by kernel_rfl
noncomputable def b5:List S:=[.ret (some (.and (.prim (.Gr .tuple) [.var 0]) (.prim .le [.prim .len [.var 0],.cst (.int 3)])))]
theorem f5:fns[5]? =some ⟨1,1,b5⟩:=by kernel_rfl
noncomputable def b6:List S:=[.ret (some (.and (.call 5 [.var 0]) (.prim .all [.comp (.nm 1) .op [.var 0] [] (.Ew 2 [.var 1]) [none,none,some 1]])))]
theorem f6:fns[6]? =some ⟨2,2,b6⟩:=by kernel_rfl
noncomputable def b7:List S:=[.ret (some (.and (.call 6 [.var 0,.cst (.fn 1)]) (.prim .eq [.prim .Dz [.var 0],.prim .len [.var 0]])))]
theorem f7:fns[7]? =some ⟨1,1,b7⟩:=by kernel_rfl
noncomputable def b8:List S:=[.ret (some (.and (.prim (.Gr .tuple) [.var 0]) (.prim (.chain .le .le) [.cst (.int 1),.prim .len [.var 0],.cst (.int 4)])))]
theorem f8:fns[8]? =some ⟨1,1,b8⟩:=by kernel_rfl
noncomputable def b9:List S:=[.ret (some (.and (.prim (.Gr .tuple) [.var 0]) (.and (.prim .gt [.prim .len [.var 0],.cst (.int 0)]) (.prim (.Gr .str) [.prim .idx [.var 0,.cst (.int 0)]]))))]
theorem f9:fns[9]? =some ⟨1,1,b9⟩:=by kernel_rfl
noncomputable def hO:List S:=[.ifs (.or (.not (.prim (.Gr .tuple) [.var 0])) (.prim .ne [.prim .len [.var 0],.cst (.int 3)])) [.ret (some (.cst (.bl false)))] [],.ret (some (.and (.call 3 [.prim .idx [.var 0,.cst (.int 0)]]) (.call 7 [.prim .idx [.var 0,.cst (.int 1)]])))]
theorem eI:fns[10]? =some ⟨1,1,hO⟩:=by kernel_rfl
noncomputable def YD:List S:=[.ifs (.not (.call 9 [.var 0])) [.ret (some (.cst (.bl false)))] [],.asg (.nm 1) (.prim .idx [.var 0,.cst (.int 0)]),.ifs (.prim .eq [.var 1,.cst (.str ⟨#[110,117,109,98,101,114]⟩)]) [.ret (some (.and (.prim .eq [.prim .len [.var 0],.cst (.int 2)]) (.call 4 [.prim .idx [.var 0,.cst (.int 1)]])))] [],.ifs (.prim .eq [.var 1,.cst (.str ⟨#[110,97,109,101]⟩)]) [.ret (some (.and (.prim .eq [.prim .len [.var 0],.cst (.int 2)]) (.call 1 [.prim .idx [.var 0,.cst (.int 1)]])))] [],.ifs (.prim .ne [.prim .len [.var 0],.cst (.int 3)]) [.ret (some (.cst (.bl false)))] [],.ifs (.prim .eq [.var 1,.cst (.str ⟨#[102,111,114,109]⟩)]) [.ret (some (.and (.call 3 [.prim .idx [.var 0,.cst (.int 1)]]) (.call 5 [.prim .idx [.var 0,.cst (.int 2)]])))] [],.ifs (.prim .eq [.var 1,.cst (.str ⟨#[99,97,108,108]⟩)]) [.ret (some (.and (.call 1 [.prim .idx [.var 0,.cst (.int 1)]]) (.call 5 [.prim .idx [.var 0,.cst (.int 2)]])))] [],.ret (some (.and (.prim .eq [.var 1,.cst (.str ⟨#[99,97,115,101]⟩)]) (.and (.call 8 [.prim .idx [.var 0,.cst (.int 2)]]) (.prim .all [.comp (.nm 1) .op [.prim .idx [.var 0,.cst (.int 2)]] [] (.call 10 [.var 1]) [none,none]]))))]
theorem eD:fns[11]? =some ⟨1,2,YD⟩:=by kernel_rfl
noncomputable def YC:List S:=[.ifs (.or (.prim .eq [.prim .idx [.var 0,.cst (.int 0)],.cst (.str ⟨#[102,111,114,109]⟩)]) (.prim .eq [.prim .idx [.var 0,.cst (.int 0)],.cst (.str ⟨#[99,97,108,108]⟩)])) [.ret (some (.prim (.list .op) [.prim .idx [.var 0,.cst (.int 2)]]))] [],.ifs (.prim .eq [.prim .idx [.var 0,.cst (.int 0)],.cst (.str ⟨#[99,97,115,101]⟩)]) [.ret (some (.prim .add [.lst [.prim .idx [.var 0,.cst (.int 1)]],.comp (.nm 1) .op [.prim .idx [.var 0,.cst (.int 2)]] [] (.prim .idx [.var 1,.cst (.int 2)]) [none,none]]))] [],.ret (some (.lst []))]
theorem eC:fns[12]? =some ⟨1,1,YC⟩:=by kernel_rfl
noncomputable def hG:List S:=[.asg (.nm 1) (.lst [.tup [.var 0,.cst (.int 0)]]),.asg (.nm 2) (.cst (.int 0)),.JU (.var 1) [.asg (.nm 2) (.prim .add [.var 2,.cst (.int 1)]),.asg (.nm 3) (.ES .pop (.var 1) []),.asg (.nm 4) (.prim .idx [.var 3,.cst (.int 0)]),.asg (.nm 5) (.prim .idx [.var 3,.cst (.int 1)]),.ifs (.or (.prim .gt [.var 2,.cst (.int 40)]) (.or (.prim .gt [.var 5,.cst (.int 11)]) (.not (.call 11 [.var 4])))) [.ret (some (.cst (.bl false)))] [],.expr (.ES .extend (.var 1) [.comp (.nm 1) .op [.call 12 [.var 4]] [] (.tup [.var 1,.prim .add [.var 2,.cst (.int 1)]]) [none,none,some 5]])],.ret (some (.cst (.bl true)))]
theorem eA:fns[13]? =some ⟨1,6,hG⟩:=by kernel_rfl
noncomputable def gZ:List S:=[.ret (some (.or (.prim (.chain .le .le) [.cst (.str ⟨#[97]⟩),.var 0,.cst (.str ⟨#[122]⟩)]) (.prim (.chain .le .le) [.cst (.str ⟨#[65]⟩),.var 0,.cst (.str ⟨#[90]⟩)])))]
theorem eu:fns[14]? =some ⟨1,1,gZ⟩:=by kernel_rfl
noncomputable def gY:List S:=[.ret (some (.prim (.chain .le .le) [.cst (.str ⟨#[48]⟩),.var 0,.cst (.str ⟨#[57]⟩)]))]
theorem eo:fns[15]? =some ⟨1,1,gY⟩:=by kernel_rfl
noncomputable def gX:List S:=[.ifs (.not (.prim (.Gr .str) [.var 0])) [.raise 1 (.cst (.Az))] [],.ret (some (.make 2 [.var 0]))]
theorem ei:fns[16]? =some ⟨1,1,gX⟩:=by kernel_rfl
noncomputable def gW:List S:=[.asg (.nm 1) (.call 16 [.var 0]),.asg (.nm 2) (.Ag ⟨#[101,120,112,114,101,115,115,105,111,110]⟩ (.var 1) [.cst (.int 0)]),.expr (.Ag ⟨#[109,117,115,116,95,101,110,100]⟩ (.var 1) []),.ifs (.not (.call 13 [.var 2])) [.raise 1 (.cst (.Az))] [],.ret (some (.var 2))]
theorem eh:fns[17]? =some ⟨1,3,gW⟩:=by kernel_rfl
noncomputable def cT:List S:=[.ifs (.prim .lt [.var 0,.cst (.int 0)]) [.ret (some (.prim .add [.cst (.str ⟨#[45]⟩),.call 18 [.prim .neg [.var 0]]]))] [],.asg (.nm 1) (.cst (.str ⟨#[]⟩)),.JU (.prim .ge [.var 0,.prim .pow [.cst (.int 10),.cst (.int 60)]]) [.asg (.nm 1) (.prim .add [.prim .Jn [],.var 1]),.asg (.nm 0) (.prim .fdiv [.var 0,.prim .pow [.cst (.int 10),.cst (.int 60)]])],.ret (some (.prim .add [.prim .str [.var 0],.var 1]))]
theorem cq:fns[18]? =some ⟨1,2,cT⟩:=by kernel_rfl
noncomputable def gV:List S:=[.ret (some (.prim .add [.prim .add [.cst (.str ⟨#[40]⟩),.prim (.join ⟨#[44,32]⟩) [.var 0]],.cst (.str ⟨#[41]⟩)]))]
theorem e8:fns[19]? =some ⟨1,1,gV⟩:=by kernel_rfl
noncomputable def gU:List S:=[.ret (some (.prim .add [.prim .add [.prim .add [.prim .idx [.var 0,.cst (.int 0)],.call 19 [.prim .idx [.var 0,.cst (.int 1)]]],.cst (.str ⟨#[32]⟩)],.call 21 [.prim .idx [.var 0,.cst (.int 2)]]]))]
theorem e7:fns[20]? =some ⟨1,1,gU⟩:=by kernel_rfl
noncomputable def YA:List S:=[.ifs (.prim .eq [.prim .idx [.var 0,.cst (.int 0)],.cst (.str ⟨#[110,117,109,98,101,114]⟩)]) [.ret (some (.call 18 [.prim .idx [.var 0,.cst (.int 1)]]))] [],.ifs (.prim .eq [.prim .idx [.var 0,.cst (.int 0)],.cst (.str ⟨#[110,97,109,101]⟩)]) [.ret (some (.prim .idx [.var 0,.cst (.int 1)]))] [],.ifs (.prim .eq [.prim .idx [.var 0,.cst (.int 0)],.cst (.str ⟨#[99,97,115,101]⟩)]) [.asg (.nm 1) (.prim (.join ⟨#[59,32]⟩) [.comp (.nm 1) .op [.prim .idx [.var 0,.cst (.int 2)]] [] (.call 20 [.var 1]) [none,none]]),.ret (some (.prim .add [.prim .add [.prim .add [.prim .add [.cst (.str ⟨#[91]⟩),.call 21 [.prim .idx [.var 0,.cst (.int 1)]]],.cst (.str ⟨#[58,32]⟩)],.var 1],.cst (.str ⟨#[93]⟩)]))] [],.ret (some (.prim .add [.prim .idx [.var 0,.cst (.int 1)],.call 19 [.comp (.nm 1) .op [.prim .idx [.var 0,.cst (.int 2)]] [] (.call 21 [.var 1]) [none,none]]]))]
theorem e6:fns[21]? =some ⟨1,2,YA⟩:=by kernel_rfl
noncomputable def eO:List S:=[.ifs (.prim .lt [.var 1,.prim .len [.var 0]]) [.ret (some (.prim .mod [.prim .idx [.var 0,.var 1],.prim .pow [.cst (.int 10),.cst (.int 30)]]))] [],.ret (some (.cst (.int 0)))]
theorem dZ:fns[22]? =some ⟨2,2,eO⟩:=by kernel_rfl
noncomputable def gS:List S:=[.asg (.nm 1) (.cst (.str ⟨#[97,98,99,100,101,102,103,104,105,106,107,108,109,110,111,112,113,114,115,116,117,118,119,120,121,122]⟩)),.asg (.nm 2) (.cst (.str ⟨#[]⟩)),.CV (.nm 3) .BC [.prim .mod [.var 0,.cst (.int 8)]] [.asg (.nm 2) (.prim .add [.var 2,.prim .idx [.var 1,.prim .mod [.prim .fdiv [.var 0,.prim .add [.cst (.int 8),.prim .mul [.cst (.int 3),.var 3]]],.cst (.int 26)]]])],.asg (.nm 4) (.prim .mod [.prim .fdiv [.var 0,.cst (.int 64)],.prim .add [.prim .len [.var 2],.cst (.int 1)]]),.ret (some (.comp (.nm 1) .BC [.cst (.int 6)] [] (.prim .add [.prim .add [.prim (.D4 false true) [.var 5,.var 2],.prim .idx [.var 4,.prim .mod [.prim .add [.prim .fdiv [.var 3,.cst (.int 512)],.var 1],.cst (.int 26)]]],.prim (.D4 true false) [.var 5,.var 2]]) [none,none,some 4,some 0,some 1,some 2]))]
theorem dY:fns[23]? =some ⟨1,5,gS⟩:=by kernel_rfl
noncomputable def eN:List S:=[.asg (.nm 1) (.cst (.str ⟨#[97,98,99,100,101,102,103,104,105,106,107,108,109,110,111,112,113,114,115,116,117,118,119,120,121,122]⟩)),.asg (.nm 2) (.cst (.str ⟨#[65,66,67,68,69,70,71,72,73,74,75,76,77,78,79,80,81,82,83,84,85,86,87,88,89,90]⟩)),.ifs (.prim .eq [.prim .mod [.var 0,.cst (.int 2)],.cst (.int 0)]) [.ret (some (.comp (.nm 1) .BC [.cst (.int 6)] [] (.prim .idx [.var 3,.prim .mod [.prim .add [.prim .fdiv [.var 2,.cst (.int 2)],.var 1],.cst (.int 26)]]) [none,none,some 0,some 2]))] [],.asg (.nm 4) (.cst (.str ⟨#[]⟩)),.CV (.nm 3) .BC [.prim .mod [.prim .fdiv [.var 0,.cst (.int 2)],.cst (.int 7)]] [.asg (.nm 4) (.prim .add [.var 4,.prim .idx [.var 1,.prim .mod [.prim .fdiv [.var 0,.prim .add [.cst (.int 14),.prim .mul [.cst (.int 5),.var 3]]],.cst (.int 26)]]])],.asg (.nm 5) (.prim .mod [.prim .fdiv [.var 0,.cst (.int 64)],.prim .add [.prim .len [.var 4],.cst (.int 1)]]),.asg (.nm 6) (.prim .add [.prim .idx [.var 2,.prim .mod [.prim .fdiv [.var 0,.cst (.int 3)],.cst (.int 26)]],.prim (.D4 false true) [.var 4,.var 5]]),.ret (some (.comp (.nm 1) .BC [.cst (.int 6)] [] (.prim .add [.prim .add [.var 4,.prim .idx [.var 5,.prim .mod [.prim .add [.prim .fdiv [.var 3,.cst (.int 512)],.var 1],.cst (.int 26)]]],.prim (.D4 true false) [.var 6,.var 2]]) [none,none,some 5,some 0,some 6,some 1,some 4]))]
theorem cn:fns[24]? =some ⟨1,7,eN⟩:=by kernel_rfl
noncomputable def cS:List S:=[.ifs (.prim .eq [.var 0,.lst []]) [.ret (some (.cst (.int 0)))] [],.ret (some (.ES .pop (.var 0) []))]
theorem cm:fns[25]? =some ⟨1,1,cS⟩:=by kernel_rfl
noncomputable def gR:List S:=[.ret (some (.prim .idx [.lst [.prim .mod [.var 0,.cst (.int 10)],.prim .sub [.cst (.int 0),.prim .mod [.var 0,.prim .pow [.cst (.int 10),.cst (.int 60)]]],.prim .mod [.var 0,.prim .pow [.cst (.int 10),.cst (.int 60)]],.prim .sub [.prim .sub [.prim .pow [.cst (.int 10),.cst (.int 60)],.cst (.int 1)],.prim .mod [.var 0,.cst (.int 2)]]],.prim .mod [.var 0,.cst (.int 4)]]))]
theorem dX:fns[26]? =some ⟨1,1,gR⟩:=by kernel_rfl
noncomputable def Zm:List S:=[.asg (.nm 4) (.call 25 [.var 0]),.asg (.nm 5) (.prim .mod [.var 4,.cst (.int 6)]),.ifs (.or (.prim .eq [.var 3,.cst (.int 0)]) (.prim .lt [.var 5,.cst (.int 2)])) [.ret (some (.prim .idx [.lst [.tup [.cst (.str ⟨#[110,117,109,98,101,114]⟩),.call 26 [.prim .fdiv [.var 4,.cst (.int 6)]]],.tup [.cst (.str ⟨#[110,97,109,101]⟩),.prim .idx [.var 1,.prim .mod [.prim .fdiv [.var 4,.cst (.int 6)],.cst (.int 6)]]]],.prim .mod [.prim .fdiv [.var 4,.cst (.int 36)],.cst (.int 2)]]))] [],.ifs (.prim .lt [.var 5,.cst (.int 5)]) [.asg (.nm 6) (.prim .idx [.lst [.prim .mod [.prim .fdiv [.var 4,.cst (.int 6)],.cst (.int 4)],.cst (.int 3),.cst (.int 1),.cst (.int 0)],.prim .mod [.prim .fdiv [.var 4,.cst (.int 24)],.cst (.int 4)]]),.asg (.nm 8) (.prim (.tuple .op) [.comp (.nm 1) .BC [.var 6] [] (.call 27 [.var 2,.var 5,.var 4,.prim .sub [.var 3,.cst (.int 1)]]) [none,none,some 0,some 3,some 2,some 1]]),.ifs (.prim .eq [.prim .mod [.var 5,.cst (.int 2)],.cst (.int 0)]) [.ret (some (.tup [.cst (.str ⟨#[102,111,114,109]⟩),.prim .idx [.var 2,.prim .mod [.prim .fdiv [.var 4,.cst (.int 100)],.cst (.int 6)]],.var 8]))] [],.ret (some (.tup [.cst (.str ⟨#[99,97,108,108]⟩),.prim .idx [.var 1,.prim .mod [.prim .fdiv [.var 4,.cst (.int 100)],.cst (.int 6)]],.var 8]))] [],.asg (.nm 9) (.call 27 [.var 0,.var 1,.var 2,.prim .sub [.var 3,.cst (.int 1)]]),.asg (.nm 10) (.lst []),.CV (.nm 7) .BC [.prim .add [.cst (.int 1),.prim .mod [.prim .fdiv [.var 4,.cst (.int 6)],.cst (.int 4)]]] [.asg (.nm 11) (.prim (.D4 false true) [.prim (.D4 true false) [.var 1,.prim .mod [.prim .fdiv [.var 4,.cst (.int 24)],.cst (.int 4)]],.prim .mod [.prim .add [.prim .fdiv [.var 4,.cst (.int 96)],.var 7],.cst (.int 4)]]),.expr (.ES .append (.var 10) [.tup [.prim .idx [.var 2,.prim .mod [.prim .add [.prim .fdiv [.var 4,.cst (.int 400)],.var 7],.cst (.int 6)]],.prim (.tuple .op) [.var 11],.call 27 [.var 0,.var 1,.var 2,.prim .sub [.var 3,.cst (.int 1)]]]])],.ret (some (.tup [.cst (.str ⟨#[99,97,115,101]⟩),.var 9,.prim (.tuple .op) [.var 10]]))]
theorem XI:fns[27]? =some ⟨4,12,Zm⟩:=by kernel_rfl
noncomputable def cR:List S:=[.ifs (.prim (.Gr .tuple) [.var 1]) [.ifs (.or (.not (.prim (.Gr .tuple) [.var 0])) (.prim .ne [.prim .len [.var 0],.prim .len [.var 1]])) [.ret (some (.cst (.bl false)))] [],.ret (some (.prim .all [.comp (.nm 1) .BC [.prim .len [.var 1]] [] (.call 28 [.prim .idx [.var 3,.var 1],.prim .idx [.var 2,.var 1]]) [none,none,some 1,some 0]]))] [],.ifs (.prim (.Gr .str) [.var 1]) [.ret (some (.and (.prim (.Gr .str) [.var 0]) (.prim .eq [.var 0,.var 1])))] [],.ret (some (.and (.prim (.Gr .int) [.var 0]) (.and (.not (.prim (.Gr .bool) [.var 0])) (.prim .eq [.var 0,.var 1]))))]
theorem dW:fns[28]? =some ⟨2,2,cR⟩:=by kernel_rfl
noncomputable def eM:List S:=[.ifs (.prim .eq [.prim .idx [.var 0,.cst (.int 0)],.cst (.str ⟨#[110,117,109,98,101,114]⟩)]) [.ret (some (.prim .str [.prim .idx [.var 0,.cst (.int 1)]]))] [],.ifs (.prim .eq [.prim .idx [.var 0,.cst (.int 0)],.cst (.str ⟨#[110,97,109,101]⟩)]) [.ret (some (.prim .idx [.var 0,.cst (.int 1)]))] [],.ifs (.prim .ne [.prim .idx [.var 0,.cst (.int 0)],.cst (.str ⟨#[99,97,115,101]⟩)]) [.ret (some (.prim .add [.prim .add [.prim .add [.prim .idx [.var 0,.cst (.int 1)],.cst (.str ⟨#[40]⟩)],.prim (.join ⟨#[44,32]⟩) [.comp (.nm 1) .op [.prim .idx [.var 0,.cst (.int 2)]] [] (.call 29 [.var 1]) [none,none]]],.cst (.str ⟨#[41]⟩)]))] [],.asg (.nm 1) (.lst []),.CV (.tup [2,3,4]) .op [.prim .idx [.var 0,.cst (.int 2)]] [.expr (.ES .append (.var 1) [.prim .add [.prim .add [.prim .add [.prim .add [.var 2,.cst (.str ⟨#[40]⟩)],.prim (.join ⟨#[44,32]⟩) [.var 3]],.cst (.str ⟨#[41,32]⟩)],.call 29 [.var 4]]])],.ret (some (.prim .add [.prim .add [.prim .add [.prim .add [.cst (.str ⟨#[91]⟩),.call 29 [.prim .idx [.var 0,.cst (.int 1)]]],.cst (.str ⟨#[58,32]⟩)],.prim (.join ⟨#[59,32]⟩) [.var 1]],.cst (.str ⟨#[93]⟩)]))]
theorem dU:fns[29]? =some ⟨1,5,eM⟩:=by kernel_rfl
noncomputable def gQ:List S:=[.asg (.nm 1) (.call 29 [.var 0]),.asg (.nm 2) (.call 21 [.var 0]),.ifs (.or (.not (.prim (.Gr .str) [.var 2])) (.prim .ne [.var 2,.var 1])) [.ret (some (.cst (.bl false)))] [],.ret (some (.and (.call 28 [.call 17 [.var 1],.var 0]) (.call 28 [.call 17 [.var 2],.var 0])))]
theorem dS:fns[30]? =some ⟨1,3,gQ⟩:=by kernel_rfl
noncomputable def gO:List S:=[.asg (.nm 1) (.call 23 [.call 22 [.var 0,.cst (.int 0)]]),.asg (.nm 2) (.call 24 [.call 22 [.var 0,.cst (.int 1)]]),.CV (.nm 3) .BC [.cst (.int 2),.prim .add [.cst (.int 3),.prim .min [.prim .len [.var 0],.cst (.int 40)]],.cst (.int 10)] [.asg (.nm 4) (.comp (.nm 1) .BC [.cst (.int 7)] [] (.call 22 [.var 3,.prim .add [.var 2,.var 1]]) [none,none,some 3,some 0]),.asg (.nm 5) (.call 27 [.var 4,.var 1,.var 2,.cst (.int 3)]),.ifs (.not (.call 30 [.var 5])) [.ret (some (.cst (.bl false)))] [],.asg (.nm 6) (.tup [.cst (.str ⟨#[99,97,115,101]⟩),.var 5,.tup [.tup [.prim .idx [.var 2,.cst (.int 0)],.tup [.prim .idx [.var 1,.cst (.int 0)]],.tup [.cst (.str ⟨#[99,97,108,108]⟩),.prim .idx [.var 1,.cst (.int 1)],.tup [.tup [.cst (.str ⟨#[110,97,109,101]⟩),.prim .idx [.var 1,.cst (.int 2)]]]]]]]),.ifs (.or (.not (.call 30 [.var 6])) (.not (.call 30 [.var 5]))) [.ret (some (.cst (.bl false)))] []],.ret (some (.cst (.bl true)))]
theorem ck:fns[31]? =some ⟨1,7,gO⟩:=by kernel_rfl
def gN:List S:=[.GR 0 ⟨#[116,101,120,116]⟩ (.var 1),.GR 0 ⟨#[97,116]⟩ (.cst (.int 0))]
theorem cj:fns[32]? =some ⟨2,2,gN⟩:=by kernel_rfl
noncomputable def gM:List S:=[.ret (some (.and (.prim .lt [.prim .id [.fld 0 ⟨#[97,116]⟩],.prim .len [.fld 0 ⟨#[116,101,120,116]⟩]]) (.Ew 1 [.prim .idx [.fld 0 ⟨#[116,101,120,116]⟩,.fld 0 ⟨#[97,116]⟩]])))]
theorem cg:fns[33]? =some ⟨2,2,gM⟩:=by kernel_rfl
noncomputable def cQ:List S:=[.ifs (.not (.prim .sw [.fld 0 ⟨#[116,101,120,116]⟩,.var 1,.fld 0 ⟨#[97,116]⟩])) [.ret (some (.cst (.bl false)))] [],.GR 0 ⟨#[97,116]⟩ (.prim .add [.prim .id [.fld 0 ⟨#[97,116]⟩],.prim .len [.var 1]]),.ret (some (.cst (.bl true)))]
theorem Zh:fns[34]? =some ⟨2,2,cQ⟩:=by kernel_rfl
noncomputable def gL:List S:=[.ifs (.not (.Ag ⟨#[116,97,107,101,115]⟩ (.var 0) [.var 1])) [.raise 1 (.cst (.Az))] []]
theorem cb:fns[35]? =some ⟨2,2,gL⟩:=by kernel_rfl
noncomputable def gK:List S:=[.ifs (.prim .ne [.prim .id [.fld 0 ⟨#[97,116]⟩],.prim .len [.fld 0 ⟨#[116,101,120,116]⟩]]) [.raise 1 (.cst (.Az))] []]
theorem c9:fns[36]? =some ⟨1,1,gK⟩:=by kernel_rfl
noncomputable def gJ:List S:=[.asg (.nm 2) (.fld 0 ⟨#[97,116]⟩),.JU (.Ag ⟨#[105,115,95,98,101,102,111,114,101]⟩ (.var 0) [.var 1]) [.GR 0 ⟨#[97,116]⟩ (.prim .add [.fld 0 ⟨#[97,116]⟩,.cst (.int 1)])],.ret (some (.prim (.D4 true true) [.fld 0 ⟨#[116,101,120,116]⟩,.var 2,.fld 0 ⟨#[97,116]⟩]))]
theorem c8:fns[37]? =some ⟨2,3,gJ⟩:=by kernel_rfl
noncomputable def gI:List S:=[.asg (.nm 1) (.Ag ⟨#[116,97,107,101,95,97,108,108]⟩ (.var 0) [.cst (.fn 14)]),.ifs (.not (.call 1 [.var 1])) [.raise 1 (.cst (.Az))] [],.ret (some (.var 1))]
theorem c7:fns[38]? =some ⟨1,2,gI⟩:=by kernel_rfl
noncomputable def gH:List S:=[.asg (.nm 1) (.Ag ⟨#[116,97,107,101,95,97,108,108]⟩ (.var 0) [.cst (.fn 14)]),.ifs (.not (.call 3 [.var 1])) [.raise 1 (.cst (.Az))] [],.ret (some (.var 1))]
theorem bZ:fns[39]? =some ⟨1,2,gH⟩:=by kernel_rfl
noncomputable def gG:List S:=[.asg (.nm 1) (.Ag ⟨#[116,97,107,101,95,97,108,108]⟩ (.var 0) [.cst (.fn 15)]),.ifs (.or (.prim .lt [.prim .len [.var 1],.cst (.int 1)]) (.prim .gt [.prim .len [.var 1],.cst (.int 60)])) [.raise 1 (.cst (.Az))] [],.ifs (.and (.prim .eq [.prim .idx [.var 1,.cst (.int 0)],.cst (.str ⟨#[48]⟩)]) (.prim .gt [.prim .len [.var 1],.cst (.int 1)])) [.raise 1 (.cst (.Az))] [],.ret (some (.prim .int [.var 1]))]
theorem bY:fns[40]? =some ⟨1,2,gG⟩:=by kernel_rfl
noncomputable def gF:List S:=[.asg (.nm 2) (.lst []),.JU (.not (.Ag ⟨#[116,97,107,101,115]⟩ (.var 0) [.cst (.str ⟨#[41]⟩)])) [.ifs (.prim .eq [.prim .len [.var 2],.cst (.int 3)]) [.raise 1 (.cst (.Az))] [],.ifs (.var 2) [.expr (.Ag ⟨#[109,117,115,116,95,116,97,107,101]⟩ (.var 0) [.cst (.str ⟨#[44,32]⟩)])] [],.expr (.ES .append (.var 2) [.Dl 1])],.ret (some (.prim (.tuple .op) [.var 2]))]
theorem bX:fns[41]? =some ⟨2,3,gF⟩:=by kernel_rfl
def j3:List S:=[.expr (.call 0 [.cst (.int 0)])]
theorem dR:fns[42]? =some ⟨2,2,j3⟩:=by kernel_rfl
def iZ:List S:=[.expr (.call 0 [.cst (.int 1)])]
theorem dQ:fns[43]? =some ⟨1,1,iZ⟩:=by kernel_rfl
noncomputable def VN:List S:=[.ifs (.prim .gt [.var 1,.cst (.int 11)]) [.raise 1 (.cst (.Az))] [],.ifs (.Ag ⟨#[116,97,107,101,115]⟩ (.var 0) [.cst (.str ⟨#[91]⟩)]) [.ret (some (.Ag ⟨#[99,97,115,101]⟩ (.var 0) [.var 1]))] [],.ifs (.Ag ⟨#[116,97,107,101,115]⟩ (.var 0) [.cst (.str ⟨#[45]⟩)]) [.ret (some (.tup [.cst (.str ⟨#[110,117,109,98,101,114]⟩),.Ag ⟨#[110,117,109,98,101,114,95,98,101,108,111,119]⟩ (.var 0) []]))] [],.ifs (.Ag ⟨#[105,115,95,98,101,102,111,114,101]⟩ (.var 0) [.cst (.fn 15)]) [.ret (some (.tup [.cst (.str ⟨#[110,117,109,98,101,114]⟩),.Ag ⟨#[110,117,109,98,101,114]⟩ (.var 0) []]))] [],.asg (.nm 2) (.Ag ⟨#[116,97,107,101,95,97,108,108]⟩ (.var 0) [.cst (.fn 14)]),.ifs (.call 3 [.var 2]) [.expr (.Ag ⟨#[109,117,115,116,95,116,97,107,101]⟩ (.var 0) [.cst (.str ⟨#[40]⟩)]),.ret (some (.tup [.cst (.str ⟨#[102,111,114,109]⟩),.var 2,.Ag ⟨#[97,114,103,115,95,104,101,114,101]⟩ (.var 0) [.var 1]]))] [],.ifs (.not (.call 1 [.var 2])) [.raise 1 (.cst (.Az))] [],.ifs (.Ag ⟨#[116,97,107,101,115]⟩ (.var 0) [.cst (.str ⟨#[40]⟩)]) [.ret (some (.tup [.cst (.str ⟨#[99,97,108,108]⟩),.var 2,.Ag ⟨#[97,114,103,115,95,104,101,114,101]⟩ (.var 0) [.var 1]]))] [],.ret (some (.tup [.cst (.str ⟨#[110,97,109,101]⟩),.var 2]))]
theorem bW:fns[44]? =some ⟨2,3,VN⟩:=by kernel_rfl
noncomputable def gE:List S:=[.asg (.nm 1) (.Ag ⟨#[110,117,109,98,101,114]⟩ (.var 0) []),.ifs (.prim .eq [.var 1,.cst (.int 0)]) [.raise 1 (.cst (.Az))] [],.ret (some (.prim .neg [.var 1]))]
theorem bV:fns[45]? =some ⟨1,2,gE⟩:=by kernel_rfl
def gD:List S:=[.ret (some (.CD ⟨#[102,101,119]⟩ 0 49 (some 1)))]
theorem bU:fns[46]? =some ⟨2,2,gD⟩:=by kernel_rfl
noncomputable def gC:List S:=[.asg (.nm 2) (.Ag ⟨#[101,120,112,114,101,115,115,105,111,110]⟩ (.var 0) [.prim .add [.var 1,.cst (.int 1)]]),.expr (.Ag ⟨#[109,117,115,116,95,116,97,107,101]⟩ (.var 0) [.cst (.str ⟨#[58,32]⟩)]),.asg (.nm 3) (.lst [.Ag ⟨#[97,114,109]⟩ (.var 0) [.var 1]]),.JU (.not (.Ag ⟨#[116,97,107,101,115]⟩ (.var 0) [.cst (.str ⟨#[93]⟩)])) [.ifs (.prim .eq [.prim .len [.var 3],.cst (.int 4)]) [.raise 1 (.cst (.Az))] [],.expr (.Ag ⟨#[109,117,115,116,95,116,97,107,101]⟩ (.var 0) [.cst (.str ⟨#[59,32]⟩)]),.expr (.ES .append (.var 3) [.Ag ⟨#[97,114,109]⟩ (.var 0) [.var 1]])],.ret (some (.tup [.cst (.str ⟨#[99,97,115,101]⟩),.var 2,.prim (.tuple .op) [.var 3]]))]
theorem bT:fns[47]? =some ⟨2,4,gC⟩:=by kernel_rfl
noncomputable def gB:List S:=[.asg (.nm 2) (.Ag ⟨#[102,111,114,109,95,110,97,109,101]⟩ (.var 0) []),.expr (.Ag ⟨#[109,117,115,116,95,116,97,107,101]⟩ (.var 0) [.cst (.str ⟨#[40]⟩)]),.asg (.nm 3) (.CD ⟨#[102,101,119]⟩ 0 50 none),.ifs (.not (.call 7 [.var 3])) [.raise 1 (.cst (.Az))] [],.expr (.Ag ⟨#[109,117,115,116,95,116,97,107,101]⟩ (.var 0) [.cst (.str ⟨#[32]⟩)]),.ret (some (.tup [.var 2,.var 3,.Ag ⟨#[101,120,112,114,101,115,115,105,111,110]⟩ (.var 0) [.prim .add [.var 1,.cst (.int 1)]]]))]
theorem bS:fns[48]? =some ⟨2,4,gB⟩:=by kernel_rfl
noncomputable def gA:List S:=[.ret (some (.Ag ⟨#[101,120,112,114,101,115,115,105,111,110]⟩ (.var 0) [.prim .add [.var 1,.cst (.int 1)]]))]
theorem iY:fns[49]? =some ⟨2,2,gA⟩:=by kernel_rfl
def gz:List S:=[.ret (some (.Ag ⟨#[110,97,109,101]⟩ (.var 0) []))]
theorem iX:fns[50]? =some ⟨1,1,gz⟩:=by kernel_rfl
end Lk51
namespace Iv
open PySem
variable{cf:CF}{mt:MT}
theorem Pz{r:Env}{c:Nat}{fs:List (Str×B)}{f:Nat}(hm:mt.m c m=some f)(hl:fs.lookup m=none)(e:cf f [.obj c fs]= .ok z [some o]):ev cf mt (.Ag m (.var 0) []) (some (.obj c fs)::r)= .ok z (some o::r):=by
 rw[Fc,Zf];dsimp only;rw[hl,hm];show AH cf f [.slot 0] (some (.obj c fs)::r)=_;unfold AH;have ec:Ai (some (.obj c fs)::r) [.slot 0]=some [.obj c fs]:=rfl;rw[ec];dsimp only;rw[iP ⟨by show([0]:List Nat).Nodup;decide,rfl⟩,e];rfl
theorem SY{r:Env}{c:Nat}{fs:List (Str×B)}{f:Nat}{t:T}{h:Hd}{y:Option C}(hm:mt.m c m=some f)(hl:fs.lookup m=none)(ha:A9 cf mt [t] (some (.obj c fs)::r)= .ok [h] (some (.obj c fs)::r))(hc:h.cont (some (.obj c fs)::r)=some (.p p))(e:cf f [.obj c fs,.p p]= .ok z [some o,y]):ev cf mt (.Ag m (.var 0) [t]) (some (.obj c fs)::r)= .ok z (some o::r):=by
 rw[Fc,Zf];dsimp only;rw[hl,hm];dsimp only;rw[ha];show AH cf f [.slot 0,h] (some (.obj c fs)::r)=_;unfold AH
 have ec:Ai (some (.obj c fs)::r) [.slot 0,h]=some [.obj c fs,.p p]:=by
  show((h.cont _).bind λc=>_).map _=_;rw[hc];rfl
 rw[ec];have hle:BH [.slot 0,h] [.obj c fs,.p p]=[0]:=by cases h<;>rfl
 have hg:AD [.slot 0,h] [.obj c fs,.p p]=true:=by cases h<;>rfl
 dsimp only;rw[iP ⟨by rw[hle];decide,hg⟩,e];dsimp only
 have hb:back (lend (some (.obj c fs)::r) [.slot 0,h] [.obj c fs,.p p]) [.slot 0,h] [.obj c fs,.p p] [some o,y]=some (some o::r):=by
  unfold lend;rw[hle];cases h<;>rfl
 rw[hb];rfl
theorem D9{r:Env}{c:Nat}{fs:List (Str×B)}{f:Nat}{y:Option C}(hm:mt.m c m=some f)(hl:fs.lookup m=none)(e:cf f [.obj c fs,.p p]= .ok z [some o,y]):ev cf mt (.Ag m (.var 0) [.cst p]) (some (.obj c fs)::r)= .ok z (some o::r):=SY (h:=.AI (.p p)) hm hl rfl rfl e
theorem Kl{r:Env}{c:Nat}{fs:List (Str×B)}{f:Nat}{y:Option C}(hm:mt.m c m=some f)(hl:fs.lookup m=none)(e:cf f [.obj c fs,.p p]= .ok z [some o,y]):ev cf mt (.Ag m (.var 0) [.var 1]) (some (.obj c fs)::some (.p p)::r)= .ok z (some o::some (.p p)::r):=SY (h:=.slot 1) hm hl rfl rfl e
end Iv
namespace Lk51
open Iv PySem
variable{cf:CF}
variable{np nl:Nat}{body:List S}{args:List C}{ρ0:Iv.Env}{outs:List (Option C)}
theorem Ac{k f:Nat}(hf:fns[f]? =some ⟨np,nl,body⟩)(hl:args.length=np)(h0:args.map some++List.replicate (nl - np) none=ρ0)(e:execs (A0 fns mt A1 k) mt A1 body ρ0= .ok (.ret c) ρ)(ho:D8 ⟨np,nl,body⟩ ρ=outs):A0 fns mt A1 (k + 1) f args= .ok c outs:=by
 subst h0 ho;exact QB hf hl e
theorem Pl{k f:Nat}(hf:fns[f]? =some ⟨np,nl,body⟩)(hl:args.length=np)(h0:args.map some++List.replicate (nl - np) none=ρ0)(e:execs (A0 fns mt A1 k) mt A1 body ρ0= .ok .nx ρ)(ho:D8 ⟨np,nl,body⟩ ρ=outs):A0 fns mt A1 (k + 1) f args= .ok (.p .Az) outs:=by
 subst h0 ho;exact Ud hf hl e
noncomputable def rd(x:Str)(n:Int):List (Str×B):=[(⟨#[116,101,120,116]⟩,.p (.str x)),(⟨#[97,116]⟩,.p (.int n))]
theorem En{c:Nat}(hc:c % 1000=2){m:Str}{f:Nat}(h:tm.lookup (2,m)=some f):mt.m c m=some f:=by
 show tm.lookup (c%1000,m)=_;rw[hc];exact h
theorem LV{c:Nat}{r:Iv.Env}:Br (some (.obj c (rd x n))::r) 0 ⟨#[116,101,120,116]⟩=some (.p (.str x)):=rfl
theorem KD{c:Nat}{r:Iv.Env}:Br (some (.obj c (rd x n))::r) 0 ⟨#[97,116]⟩=some (.p (.int n)):=rfl
theorem Vi{c:Nat}(hc:c % 1000=2){r:Iv.Env}:HW mt 0 ⟨#[97,116]⟩ (.p (.int m)) (some (.obj c (rd x n))::r)= .ok .nx (some (.obj c (rd x m))::r):=by
 have:mt.f c ⟨#[97,116]⟩=true:=by show tl.contains (c%1000,_)=true;rw[hc];rfl
 show(if(mt.f c ⟨#[97,116]⟩ && decide ((rd x n).length < 900))=true then _ else _)=_;rw[this];rfl
theorem JY{k c:Nat}(hc:c % 1000=2){y:Str}{b:Bool}(hs:Zb (.p (.str x)) (.p (.str y)) (.p (.int n))=some (.p (.bl b)))(hy:y.length<=big):
 A0 fns mt A1 (k+1) 34 [.obj c (rd x n),.p (.str y)]= .ok (.p (.bl b)) [some (.obj c (rd x (if b then n+y.length else n))),sP (.str y)]:=by
 have hl:Jc (.p (.str y))=some (.p (.int y.length)):=by
  show(if y.length<=big then _ else _)=_;rw[iP hy]
 cases b with
 |false=>
   have e:execs (A0 fns mt A1 k) mt A1 cQ [some (.obj c (rd x n)),sP (.str y)]= .ok (.ret (.p (.bl false))) [some (.obj c (rd x n)),sP (.str y)]:=by
    unfold cQ;simp! [LV,KD,hs]
   exact Ac Zh rfl rfl e (by kernel_rfl)
 |true=>
   have e:execs (A0 fns mt A1 k) mt A1 cQ [some (.obj c (rd x n)),sP (.str y)]= .ok (.ret (.p (.bl true))) [some (.obj c (rd x (n + y.length))),sP (.str y)]:=by
    unfold cQ;simp! [LV,KD,hs,hl,Vi hc]
   exact Ac Zh rfl rfl e (by kernel_rfl)
end Lk51
namespace Iv
open PySem
variable{cf:CF}{mt:MT}
theorem C2{f:Nat}{hs:List Hd}{cs:List C}{c:C}{outs:List (Option C)}(ec:Ai ρ hs=some cs)(hc:∀c∈cs,c.cp=true)(e:cf f cs= .ok c outs)(ho:outs.length=cs.length):AH cf f hs ρ= .ok c ρ:=by
 have hl:∀{hs:List Hd} {cs:List C},(∀c∈cs,c.cp=true)->BH hs cs=[]:=by
  intro hs
  induction hs with
  |nil=>intro cs _;rfl
  |cons h hs ih=>
    intro cs hc;cases cs with
    |nil=>rfl
    |cons c cs=>
      rw[DQ,hc c mS,ih λc hc'=>hc c (mC hc')];rfl
 have hg:∀{hs:List Hd} {cs:List C},(∀c∈cs,c.cp=true)->AD hs cs=true:=by
  intro hs cs hc;unfold AD;rw[all_eq_true];intro q hq;rw[hc q.2 (of_mem_zip hq).2];rfl
 have hb:∀{hs:List Hd} {cs:List C} {outs:List (Option C)} {ρ' ρ0:Env},Ai ρ0 hs=some cs->(∀c∈cs,c.cp=true)->outs.length=cs.length->back ρ' hs cs outs=some ρ':=by
  intro hs
  induction hs with
  |nil=>intro cs outs ρ' ρ0 ec _ _;cases ec;unfold back;rfl
  |cons h hs ih=>
    intro cs outs ρ' ρ0 ec hc ho;unfold Ai at ec;obtain⟨c,e1,e2⟩:=oB ec;obtain⟨ds,e3,rfl⟩:=oM e2;cases outs with
    |nil=>cases ho
    |cons o outs=>
      have h1:=hc c mS;have r:=ih (ρ':=ρ') e3 (λc hc'=>hc c (mC hc')) (by simpa using ho);cases h with
      |AI d=>unfold back;exact r
      |slot i=>unfold back;rw[h1];exact r
      |fld i f=>unfold back;rw[h1];exact r
 unfold AH;rw[ec];dsimp only;have hle:lend ρ hs cs=ρ:=by unfold lend;rw[hl hc];rfl
 rw[hl hc,hg hc,iP ⟨List.nodup_nil,rfl⟩,e,hle];dsimp only;rw[hb ec hc ho];rfl
variable{F:P->P}
theorem Iu{cond:Env->Res Bool}{elt:Env->Res C}{β:P->Env}(hset:∀x,DY g x β0=some (β x))(hset2:∀y x,DY g x (β y)=some (β x))(hc:∀ρ,cond ρ= .ok true ρ):
 ∀(xs acc:List P),(∀x∈xs,elt (β x)= .ok (.p (F x)) (β x))->∀β1,(β1=β0\/∃y,β1=β y)->∃β2,(β2=β0\/∃y,β2=β y)/\Cc g [] cond elt xs acc β1= .ok (acc++xs.map F) β2
 |[],acc,_,β1,h=>⟨β1,h,by rw[map_nil,append_nil];rfl⟩
 | x ::xs,acc,he,β1,h=>by
   obtain⟨β2,q1,q2⟩:=Iu hset hset2 hc xs (acc++[F x]) (λy hy=>he y (mC hy)) (β x) (.inr ⟨x,rfl⟩);refine⟨β2,q1,?_⟩
   have hs:DY g x β1=some (β x):=by
    rcases h with rfl|⟨y,rfl⟩
    .exact hset x
    .exact hset2 y x
   show(if holds [] β1 then(Res.of (DY g x β1) β1).bind λβ1 _=>(cond β1).bind λb β2=>if b then(elt β2).bind λc β3=>match c with
    |.p y=>Cc g [] cond elt xs (acc++[y]) β3
    |_=>.stuck
   else Cc g [] cond elt xs acc β2
   else .stuck)=_
   rw[hs]
   show((cond (β x)).bind λb β2=>if b then(elt β2).bind λc β3=>match c with
    |.p y=>Cc g [] cond elt xs (acc++[y]) β3
    |_=>.stuck
   else Cc g [] cond elt xs acc β2)=_
   rw[hc,Res.A3,iP rfl,he x mS,Res.A3];show Cc g [] cond elt xs (acc++[F x]) (β x)=_;rw[q2,map_cons,append_assoc];rfl
theorem eq_int(i j:Int):Fp (.int i) (.int j)=some (decide (i=j)):=by
 unfold Fp Bc C9 P.depth
 by_cases h:i=j
 .subst h;simp
 .simp[h]
theorem eq_str(i j:Str):Fp (.str i) (.str j)=some (decide (i=j)):=by
 unfold Fp Bc C9 P.depth
 by_cases h:i=j
 .subst h;simp
 .simp[h]
theorem Gf{f:Nat}{t:T}{h:Hd}{y:Option C}(ha:A9 cf mt [t] ρ= .ok [h] ρ)(hc:h.cont ρ=some (.p p))(e:cf f [.p p]= .ok z [y]):ev cf mt (.call f [t]) ρ= .ok z ρ:=by
 rw[Bp,ha];exact C2 (cs:=[.p p]) (by show((h.cont ρ).bind λc=>_)=_;rw[hc];rfl) (λc hc=>by rw[mE hc];rfl) e rfl
theorem Ec{f:Nat}{y:Option C}{r:Env}(e:cf f [.p p]= .ok z [y]):ev cf mt (.call f [.var 0]) (some (.p p)::r)= .ok z (some (.p p)::r):=Gf (h:=.slot 0) rfl rfl e
theorem Hy{f:Nat}{y:Option C}{a:Option C}{r:Env}(e:cf f [.p p]= .ok z [y]):ev cf mt (.call f [.var 1]) (a::some (.p p)::r)= .ok z (a::some (.p p)::r):=Gf (h:=.slot 1) rfl rfl e
theorem Hx{f:Nat}{y:Option C}{a b:Option C}{r:Env}(e:cf f [.p p]= .ok z [y]):ev cf mt (.call f [.var 2]) (a::b::some (.p p)::r)= .ok z (a::b::some (.p p)::r):=Gf (h:=.slot 2) rfl rfl e
theorem Fh{f:Nat}{ts:List T}{y:Option C}(ht:ev cf mt (.prim o ts) ρ= .ok (.p p) ρ)(e:cf f [.p p]= .ok z [y]):ev cf mt (.call f [.prim o ts]) ρ= .ok z ρ:=
 Gf (h:=.AI (.p p)) (by show(BA (.prim o ts) (ev cf mt (.prim o ts)) ρ).bind _=_;rw[show BA (.prim o ts) (ev cf mt (.prim o ts)) ρ=jH (ev cf mt (.prim o ts) ρ)from rfl,ht];rfl) rfl e
theorem DD{kd:IK}{t elt:T}{h:Hd}{c:C}{xs:List P}{r:Env}{fr:List (Option Nat)}(hk:kd.ok=true)(ha:A9 cf mt [t] ρ= .ok [h] ρ)(hc:h.cont ρ=some c)(hgf:AD [h] [c]=true)(hgu:guards [h] [c]=[])(hs:Aw kd [c]=some xs)(hl:xs.length<=big)(Ak:Fi (.nm 1) fr=true)(hbi:Bv fr ρ=none::none::r)(hout:∀y,AJ (CA fr ρ) fr (none::y::r)=ρ)
 (he:∀q∈xs,ev cf mt elt (none::some (.p q)::r)= .ok (.p (F q)) (none::some (.p q)::r)):
 ev cf mt (.comp (.nm 1) kd [t] [] elt fr) ρ= .ok (.lst (xs.map F)) ρ:=by
 rw[Jv];show(if kd.ok=true then(A9 cf mt [t] ρ).bind _ else _)=_;rw[iP hk,ha,Res.A3];obtain⟨β2,q1,q2⟩:=Iu (g:=.nm 1) (cond:=Ht cf mt []) (elt:=ev cf mt elt) (F:=F) (β:=λq=>none::some (.p q)::r) (β0:=none::none::r) (λ_=>rfl) (λ_ _=>rfl) Hs xs [] he (none::none::r) (.inl rfl);have hco:Ai ρ [h]=some [c]:=by show((h.cont ρ).bind λc=>_)=_;rw[hc];rfl
 unfold Iy;rw[hco];dsimp only;rw[hs];dsimp only;have hbg:BF fr [h] [c]=[]:=by unfold BF;rw[hgu];rfl
 rw[hgf,Ak,decide_eq_true hl,hbg,hbi,q2,nil_append];rcases q1 with rfl|⟨y,rfl⟩
 .exact congrArg (Res.ok _) (hout none)
 .exact congrArg (Res.ok _) (hout _)
theorem FJ{t elt:T}{h:Hd}{c:C}{xs:List P}(ha:A9 cf mt [t] ρ= .ok [h] ρ)(hc:h.cont ρ=some c)(hcp:c.cp=true)(hs:OK c=some xs)(hl:xs.length<=big)(he:∀q∈xs,ev cf mt elt [none,sP q]= .ok (.p (F q)) [none,sP q]):
 ev cf mt (.comp (.nm 1) .op [t] [] elt [none,none]) ρ= .ok (.lst (xs.map F)) ρ:=DD rfl ha hc (by unfold AD;simp[hcp]) (by unfold guards;simp[hcp]) hs hl rfl rfl (λ_=>rfl) he
theorem L3{F:P->Bool}:∀{xs:List P},DF (xs.map λq=>.bl (F q))=some (xs.map F)
 |[]=>rfl
 | x::xs=>by
   show(DF (xs.map λq=>.bl (F q))).map _=_;rw[L3];rfl
theorem all_map{xs:List P}{F:P->Bool}:HN (.b (.lst (xs.map λq=>.bl (F q))))=some (.p (.bl (xs.all F))):=by
 show(DF (xs.map λq=>.bl (F q))).map _=_;rw[L3 (xs:=xs)];show some (C.p (.bl ((xs.map F).all id)))=_;rw[List.all_map];rfl
abbrev tx(l:List Nat):Str:=⟨l.toArray⟩
theorem B6(l:List Nat):(tx l).length=l.length:=by show l.toArray.size=_;simp
theorem Ep{l:List Nat}(h:l.length<=big):Jc (.b (.p (.str (tx l))))=some (.p (.int l.length)):=by
 show(if(tx l).length<=big then some (C.p (.int ((tx l).length:Nat)))else none)=_;rw[B6,iP h]
theorem VV(a b:List Nat):tx a++tx b=tx (a++b):=by
 show(⟨a.toArray++b.toArray⟩:Str)=_;simp
theorem AA{a b:List Nat}(h:a.length + b.length<=big):M6 (.b (.p (.str (tx a)))) (.b (.p (.str (tx b))))=some (.p (.str (tx (a++b)))):=by
 show(if(tx a).length+(tx b).length<=big then some (C.p (.str (tx a++tx b)))else none)=_;rw[B6,B6,iP h,VV]
theorem Vr(a b:Nat):br (.str (tx [a])) (.str (tx [b]))=some (decide (a<=b)):=by
 show some (decide ([a].toArray.toList<=[b].toArray.toList))=_;refine congrArg some (decide_eq_decide.mpr ?_);show[a]<=[b]↔_;rw[List.cons_le_cons_iff];simp
 lia
theorem between(a b c:Nat):Cq .le .le (.b (.p (.str (tx [a])))) (.b (.p (.str (tx [c])))) (.b (.p (.str (tx [b]))))=some (.p (.bl (decide (a<=c) && decide (c<=b)))):=by
 show(br (.str (tx [a])) (.str (tx [c]))).bind _=_;rw[Vr];show(if decide (a<=c)=true then(br (.str (tx [c])) (.str (tx [b]))).map _ else _)=_;rw[Vr];cases decide (a<=c)<;>rfl
theorem QM(a b c:Int):Cq .le .le (.b (.p (.int a))) (.b (.p (.int c))) (.b (.p (.int b)))=some (.p (.bl (decide (a<=c) && decide (c<=b)))):=by
 have e1:∀x y:Int,Dg .le (.b (.p (.int x))) (.b (.p (.int y)))=some (decide (x<=y)):=λ_ _=>rfl
 unfold Cq;rw[e1,e1];cases decide (a<=c)<;>rfl
end Iv
namespace Lk51
open Iv PySem
variable{k:Nat}
def low(c:Nat):Bool:=decide (97<=c) && decide (c<=122)
def C7(c:Nat):Bool:=decide (65<=c) && decide (c<=90)
def Im(c:Nat):Bool:=decide (48<=c) && decide (c<=57)
def Ie(c:Nat):Bool:=low c || C7 c
theorem Jp{c:Nat}:A0 fns mt A1 (k + 1) 14 [.p (sign c)]= .ok (.p (.bl (Ie c))) [sP (sign c)]:=by
 have e:execs (A0 fns mt A1 k) mt A1 gZ [sP (sign c)]= .ok (.ret (.p (.bl (Ie c)))) [sP (sign c)]:=by
  have h1:=between 97 122 c;have h2:=between 65 90 c;unfold gZ sign Ie low C7;cases hl:(decide (97<=c) && decide (c<=122))with
  |true=>rw[hl]at h1;simp! [h1,aN]
  |false=>rw[hl]at h1;simp! [h1,h2,aN]
 exact Ac eu rfl rfl e (by kernel_rfl)
theorem Dd{c:Nat}:A0 fns mt A1 (k + 1) 15 [.p (sign c)]= .ok (.p (.bl (Im c))) [sP (sign c)]:=by
 have e:execs (A0 fns mt A1 k) mt A1 gY [sP (sign c)]= .ok (.ret (.p (.bl (Im c)))) [sP (sign c)]:=by
  have h1:=between 48 57 c;unfold gY sign Im;simp! [h1]
 exact Ac eo rfl rfl e (by kernel_rfl)
theorem IC{cf:CF}{t:T}{h:Hd}{l:List Nat}(ha:A9 cf mt [t] ρ= .ok [h] ρ)(hc:h.cont ρ=some (.p (.str (tx l))))(hl:l.length<=big)(h7:∀c∈l,c < 128):
 ev cf mt (.prim .all [.comp (.nm 1) .op [t] [] (.prim (.chain .le .le) [.cst (.str ⟨#[97]⟩),.var 1,.cst (.str ⟨#[122]⟩)]) [none,none]]) ρ= .ok (.p (.bl (l.all low))) ρ:=by
 have hq:OK (.p (.str (tx l)))=some (l.map sign):=by
  show(if(tx l).length<=big/\l.toArray.all (λc=>decide (c < 128))=true then some (l.map sign)else none)=_;rw[B6,iP ⟨hl,by simp;exact h7⟩]
 have hm:=FJ (cf:=cf) (mt:=mt) (elt:=.prim (.chain .le .le) [.cst (.str ⟨#[97]⟩),.var 1,.cst (.str ⟨#[122]⟩)]) (F:=λq=>match q with| .str x=>.bl (low (x.cps.toList.headD 0))|q=>.bl false) ha hc rfl hq (by simpa using hl) (λq hq=>by
  obtain⟨c,_,rfl⟩:=mem_map.mp hq;have h1:=between 97 122 c;show ev cf mt _ [none,sP (sign c)]= .ok (.p (.bl (low c))) [none,sP (sign c)];unfold sign low
  simp! [h1])
 have hmm:(l.map sign).map (λq=>match q with| .str x=>Iv.P.bl (low (x.cps.toList.headD 0))|q=>.bl false)=(l.map sign).map λq=>.bl ((λq=>match q with| .str x=>low (x.cps.toList.headD 0)|q=>false) q):=by
  rw[map_map,map_map];rfl
 rw[hmm]at hm;rw[DH,Bh,CZ,hm];show Res.of (HN (.b (.lst _))) ρ=_;rw[all_map,List.all_map];rfl
def Lx(l:List Nat):Bool:=decide (1<=l.length) && decide (l.length<=8) && l.all low
def ED(l:List Nat):Bool:=match l with
 |[]=>false
 |c::r=>decide (r.length<=7) && C7 c && r.all low
theorem BQ{l:List Nat}(h7:∀c∈l,c < 128)(hb:l.length<=big):A0 fns mt A1 (k + 1) 1 [.p (.str (tx l))]= .ok (.p (.bl (Lx l))) [sP (.str (tx l))]:=by
 have e:execs (A0 fns mt A1 k) mt A1 b1 [sP (.str (tx l))]= .ok (.ret (.p (.bl (Lx l)))) [sP (.str (tx l))]:=by
  have hl:=Ep hb;have hbl:=IC (cf:=A0 fns mt A1 k) (t:=.var 0) (h:=.slot 0) (ρ:=[sP (.str (tx l))]) rfl rfl hb h7;unfold b1 Lx
  by_cases h1:(l.length:Int) < 1
  .have:¬1<=l.length:=by lia
   simp! [hl,h1,this]
  .have h1':1<=l.length:=by lia
   by_cases h2:(8:Int) < l.length
   .have:¬l.length<=8:=by lia
    simp! [hl,h1,h2,h1',this]
   .have h2':l.length<=8:=by lia
    simp! [hl,h1,h2,h1',h2',↓hbl]
 exact Ac f1 rfl rfl e (by kernel_rfl)
end Lk51
namespace Iv
open PySem
theorem U4{c:Nat}{r:List Nat}(h:r.length<=1000):D3 (.b (.p (.str (tx (c::r))))) (some 1) none=some (.p (.str (tx r))):=by
 show(CI (tx (c::r)) (some 1) none).map _=_;unfold CI;dsimp only;rw[iP ⟨by decide,by rw[B6,lC];lia,by rw[B6,lC];unfold big;lia⟩];rfl
theorem Tt{l:List Nat}{k c:Nat}(h:l[k]? =some c)(hl:l.length<=big):CL (.b (.p (.str (tx l)))) (.b (.p (.int (k:Int))))=some (.p (sign c)):=by
 show(if(tx l).length<=big then(JR (tx l).length (k:Int)).bind λk=>((tx l).cps.toList[k]?).map λc=>C.p (sign c)else none)=_;rw[B6,iP hl,LL (List.getElem?_eq_some_iff.mp h).1];show(l[k]?).map _=_;rw[h];rfl
theorem OZ:Dp Nk (.b (.p (.int 10))) (.b (.p (.int 60)))=some (.p (.int (10 ^ 60))):=rfl
theorem aF:Dp Nk (.b (.p (.int 10))) (.b (.p (.int 30)))=some (.p (.int (10 ^ 30))):=rfl
end Iv
namespace Lk51
open Iv PySem
variable{k:Nat}
theorem BR{l:List Nat}(h7:∀c∈l,c < 128)(hb:l.length<=1000):A0 fns mt A1 (k + 1) 3 [.p (.str (tx l))]= .ok (.p (.bl (ED l))) [sP (.str (tx l))]:=by
 have e:execs (A0 fns mt A1 k) mt A1 b3 [sP (.str (tx l))]= .ok (.ret (.p (.bl (ED l)))) [sP (.str (tx l))]:=by
  have hl:=Ep (l:=l) (by unfold big;lia);cases l with
  |nil=>
    have h1:((([]:List Nat).length:Nat):Int) < 1:=by decide
    unfold b3;simp! [hl,h1];rfl
  |cons c r=>
    rw[lC]at hb;have h1:¬(r.length:Int)+1 < 1:=by lia
    have hi:=Tt (l:=c::r) (k:=0) rfl (by rw[lC];unfold big;lia);have hi:CL (.b (.p (.str (tx (c::r))))) (.b (.p (.int 0)))=some (.p (sign c)):=hi;have hc:=U4 (c:=c) (r:=r) (by lia);have hch:=between 65 90 c;have ht:A9 (A0 fns mt A1 k) mt [.prim (.D4 true false) [.var 0,.cst (.int 1)]] [sP (.str (tx (c::r)))]= .ok [.AI (.p (.str (tx r)))] [sP (.str (tx (c::r)))]:=by simp! [hc]
    have hbl:=IC (cf:=A0 fns mt A1 k) ht rfl (by unfold big;lia) (λd hd=>h7 d (mC hd));unfold b3
    by_cases h2:(8:Int) < (r.length:Int)+1
    .have:¬r.length<=7:=by lia
     have hfm:ED (c::r)=false:=by simp[ED,this]
     rw[hfm];simp! [hl,h1,h2]
    .have h2':r.length<=7:=by lia
     have hch':Cq .le .le (.b (.p (.str (tx [65])))) (.b (.p (sign c))) (.b (.p (.str (tx [90]))))=some (.p (.bl (C7 c))):=hch;cases hcap:C7 c with
     |false=>
       have hfm:ED (c::r)=false:=by simp[ED,hcap]
       rw[hcap]at hch';rw[hfm];simp! [hl,h1,h2,hi,hch',Cr]
     |true=>
       have hfm:ED (c::r)=r.all low:=by simp[ED,hcap,h2']
       rw[hcap]at hch';rw[hfm];simp! [hl,h1,h2,hi,hch',Cr,↓hbl]
 exact Ac f3 rfl rfl e (by kernel_rfl)
theorem Kz :A0 fns mt A1 (k + 1) 2 [.p (.int i)]= .ok (.p (.bl true)) [sP (.int i)]:=by
 have e:execs (A0 fns mt A1 k) mt A1 b2 [sP (.int i)]= .ok (.ret (.p (.bl true))) [sP (.int i)]:=by
  unfold b2;simp! [Cr,Pm]
 exact Ac f2 rfl rfl e (by kernel_rfl)
theorem Jo{i:Int}(h:i.natAbs < 10 ^ 60):A0 fns mt A1 (k + 2) 4 [.p (.int i)]= .ok (.p (.bl true)) [sP (.int i)]:=by
 have hc:=Ec (cf:=A0 fns mt A1 (k+1)) (mt:=mt) (r:=[]) (Kz (k:=k) (i:=i));have ha:F7 Ut (.b (.p (.int i)))=some (.p (.int (if i < 0 then -i else i))):=rfl;have hlt:(if i < 0 then -i else i) < 10 ^ 60:=by split<;>lia
 have e:execs (A0 fns mt A1 (k + 1)) mt A1 b4 [sP (.int i)]= .ok (.ret (.p (.bl true))) [sP (.int i)]:=by
  unfold b4;simp! [↓hc,ha,OZ,Cr];exact hlt
 exact Ac f4 rfl rfl e (by kernel_rfl)
theorem FF{ps:List Iv.P}:A0 fns mt A1 (k + 1) 5 [.p (.tup ps)]= .ok (.p (.bl (decide (ps.length<=3)))) [sP (.tup ps)]:=by
 have e:execs (A0 fns mt A1 k) mt A1 b5 [sP (.tup ps)]= .ok (.ret (.p (.bl (decide (ps.length<=3))))) [sP (.tup ps)]:=by
  have:decide ((ps.length:Int)<=3)=decide (ps.length<=3):=decide_eq_decide.mpr (by lia);unfold b5;simp! [Cr,this]
 exact Ac f5 rfl rfl e (by kernel_rfl)
theorem PX{ps:List Iv.P}(h1:1<=ps.length)(h4:ps.length<=4):A0 fns mt A1 (k + 1) 8 [.p (.tup ps)]= .ok (.p (.bl true)) [sP (.tup ps)]:=by
 have e:execs (A0 fns mt A1 k) mt A1 b8 [sP (.tup ps)]= .ok (.ret (.p (.bl true))) [sP (.tup ps)]:=by
  have hc:Cq .le .le (.b (.p (.int 1))) (.b (.p (.int ps.length))) (.b (.p (.int 4)))=some (.p (.bl true)):=by
   rw[QM,decide_eq_true (by lia),decide_eq_true (by lia)];rfl
  unfold b8;simp! [Cr,hc]
 exact Ac f8 rfl rfl e (by kernel_rfl)
theorem BY{ps:List Iv.P}:A0 fns mt A1 (k + 1) 9 [.p (.tup (.str x::ps))]= .ok (.p (.bl true)) [sP (.tup (.str x::ps))]:=by
 have e:execs (A0 fns mt A1 k) mt A1 b9 [sP (.tup (.str x::ps))]= .ok (.ret (.p (.bl true))) [sP (.tup (.str x::ps))]:=by
  have h0:(0:Int) < (ps.length:Int)+1:=by lia
  unfold b9;simp! [Cr,h0]
 exact Ac f9 rfl rfl e (by kernel_rfl)
abbrev Ad(ls:List (List Nat)):List Iv.P:=ls.map λl=>.str (tx l)
variable{ls:List (List Nat)}
theorem Jq(h3:ls.length<=3)(hn:∀l∈ls,Lx l=true/\(∀c∈l,c < 128)/\l.length<=8):A0 fns mt A1 (k + 2) 6 [.p (.tup (Ad ls)),.p (.fn 1)]= .ok (.p (.bl true)) [sP (.tup (Ad ls)),sP (.fn 1)]:=by
 have hf:=Ec (cf:=A0 fns mt A1 (k+1)) (mt:=mt) (r:=[sP (.fn 1)]) (FF (k:=k) (ps:=Ad ls))
 have hb:ev (A0 fns mt A1 (k + 1)) mt (.comp (.nm 1) .op [.var 0] [] (.Ew 2 [.var 1]) [none,none,some 1]) [sP (.tup (Ad ls)),sP (.fn 1)]= .ok (.lst ((Ad ls).map λ_=>.bl true)) [sP (.tup (Ad ls)),sP (.fn 1)]:=by
  refine DD (h:=.slot 0) (c:=.p (.tup (Ad ls))) (xs:=Ad ls) (r:=[sP (.fn 1)]) rfl rfl rfl rfl rfl rfl (by simp;unfold big;lia) rfl rfl (λ_=>rfl) λq hq=>?_
  obtain⟨l,hl,rfl⟩:=mem_map.mp hq;obtain⟨n1,n2,n3⟩:=hn l hl;have e1:=BQ (k:=k) n2 (by unfold big;lia);rw[n1]at e1;rw[L6];exact C2 (hs:=[.slot 1]) (ρ:=[none,sP (.str (tx l)),sP (.fn 1)]) (cs:=[.p (.str (tx l))]) rfl (λc hc=>by rw[mE hc];rfl) e1 rfl
 have ha:HN (.b (.lst ((Ad ls).map λ_=>.bl true)))=some (.p (.bl true)):=by
  rw[all_map (F:=λ_=>true)];simp
 have e:execs (A0 fns mt A1 (k + 1)) mt A1 b6 [sP (.tup (Ad ls)),sP (.fn 1)]= .ok (.ret (.p (.bl true))) [sP (.tup (Ad ls)),sP (.fn 1)]:=by
  have h3':(Ad ls).length<=3:=by simpa using h3
  rw[decide_eq_true h3']at hf
  have hbc:ev (A0 fns mt A1 (k + 1)) mt (.prim .all [.comp (.nm 1) .op [.var 0] [] (.Ew 2 [.var 1]) [none,none,some 1]]) [sP (.tup (Ad ls)),sP (.fn 1)]= .ok (.p (.bl true)) [sP (.tup (Ad ls)),sP (.fn 1)]:=by
   rw[DH,Bh,CZ,hb];show Res.of (HN (.b (.lst _))) _=_;rw[ha];rfl
  unfold b6;simp! [↓hf,↓hbc,Cr]
 exact Ac f6 rfl rfl e (by kernel_rfl)
theorem EO:∀{l:List Str},l.Nodup->AM l=l.length
 |[],_=>rfl
 | x::l,h=>by
   rw[nodup_cons]at h;show(if l.contains x then AM l else AM l+1)=_;rw[iN (by simpa using h.1),EO h.2,lC]
theorem Eg:∀ls:List (List Nat),strsOf (Ad ls)=some (ls.map tx)
 |[]=>rfl
 | l::ls=>by
   show(strsOf (Ad ls)).map _=_;rw[Eg ls];rfl
theorem Og{a b:List Nat}(h:tx a=tx b):a=b:=by
 injection h with h
 exact List.toArray_inj h
structure Ld(ls:List (List Nat)):Prop where
 len:ls.length<=3
 nm:∀l∈ls,Lx l=true/\(∀c∈l,c < 128)/\l.length<=8
 nd:ls.Nodup
theorem F6(h:Ld ls):A0 fns mt A1 (k + 3) 7 [.p (.tup (Ad ls))]= .ok (.p (.bl true)) [sP (.tup (Ad ls))]:=by
 have hc:ev (A0 fns mt A1 (k + 2)) mt (.call 6 [.var 0,.cst (.fn 1)]) [sP (.tup (Ad ls))]= .ok (.p (.bl true)) [sP (.tup (Ad ls))]:=by
  rw[Bp];exact C2 (hs:=[.slot 0,.AI (.p (.fn 1))]) (ρ:=[sP (.tup (Ad ls))]) (cs:=[.p (.tup (Ad ls)),.p (.fn 1)]) rfl (λc hc=>by rcases mK hc with z|z;(· rw[z];rfl);(· rw[mE z];rfl)) (Jq (k:=k) h.len h.nm) rfl
 have hs:EV (.b (.p (.tup (Ad ls))))=some (.p (.int ls.length)):=by
  show((strsOf (Ad ls)).bind λxs=>if xs.length < 4000 then some (C.p (.int (AM xs)))else none)=_;rw[Eg];show(if(ls.map tx).length < 4000 then some (C.p (.int (AM (ls.map tx))))else none)=_;have:=h.len;rw[lM,iP (by lia),EO (List.pairwise_map.mpr (h.nd.imp λhab z=>hab (Og z))),lM]
 have e:execs (A0 fns mt A1 (k + 2)) mt A1 b7 [sP (.tup (Ad ls))]= .ok (.ret (.p (.bl true))) [sP (.tup (Ad ls))]:=by
  unfold b7;simp! [↓hc,hs,Cr,eq_int]
 exact Ac f7 rfl rfl e (by kernel_rfl)
abbrev Dt:Str:=⟨#[110,117,109,98,101,114]⟩
abbrev Cs:Str:=⟨#[110,97,109,101]⟩
abbrev CQ:Str:=⟨#[102,111,114,109]⟩
abbrev Bz:Str:=⟨#[99,97,108,108]⟩
abbrev As:Str:=⟨#[99,97,115,101]⟩
theorem AZ{l:List Nat}(h:Lx l=true):1<=l.length/\l.length<=8/\(∀c∈l,low c=true)/\∀c∈l,c < 128:=by
 unfold Lx at h;simp only[bA,decide_eq_true_eq,all_eq_true]at h;refine⟨h.1.1,h.1.2,h.2,λc hc=>?_⟩;have:=h.2 c hc;unfold low at this;simp only[bA,decide_eq_true_eq]at this
 lia
theorem Bn{l:List Nat}(h:ED l=true):∃c r,l=c::r/\r.length<=7/\C7 c=true/\(∀d∈r,low d=true)/\∀d∈l,d < 128:=by
 cases l with
 |nil=>cases h
 |cons c r=>
   unfold ED at h;simp only[bA,decide_eq_true_eq,all_eq_true]at h;refine⟨c,r,rfl,h.1.1,h.1.2,h.2,λd hd=>?_⟩;rcases mK hd with z|z
   .have:=h.1.2;rw[z];unfold C7 at this;simp only[bA,decide_eq_true_eq]at this
    lia
   .have:=h.2 d z;unfold low at this;simp only[bA,decide_eq_true_eq]at this
    lia
def AW(l:List Nat)(ls:List (List Nat))(q:Iv.P):Iv.P:=.tup [.str (tx l),.tup (Ad ls),q]
inductive Ex:Nat->Iv.P->Prop where
 |num {n:Nat} (i:Int) (h:i.natAbs < 10 ^ 60):Ex (n+1) (.tup [.str Dt,.int i])
 |O6 {n:Nat} (l:List Nat) (h:Lx l=true):Ex (n+1) (.tup [.str Cs,.str (tx l)])
 |Hm {n:Nat} (l:List Nat) (ps:List Iv.P) (h:ED l=true) (h3:ps.length<=3) (hp:∀q∈ps,Ex n q):Ex (n+1) (.tup [.str CQ,.str (tx l),.tup ps])
 |call {n:Nat} (l:List Nat) (ps:List Iv.P) (h:Lx l=true) (h3:ps.length<=3) (hp:∀q∈ps,Ex n q):Ex (n+1) (.tup [.str Bz,.str (tx l),.tup ps])
 |case {n:Nat} (q:Iv.P) (as:List (List Nat×List (List Nat)×Iv.P)) (hq:Ex n q) (h1:1<=as.length) (h4:as.length<=4) (ha:∀a∈as,ED a.1=true/\Ld a.2.1) (hp:∀a∈as,Ex n a.2.2):Ex (n+1) (.tup [.str As,q,.tup (as.map λa=>AW a.1 a.2.1 a.2.2)])
theorem LS{l:List Nat}(h:ED l=true)(hn:Ld ls):A0 fns mt A1 (k + 4) 10 [.p (AW l ls q)]= .ok (.p (.bl true)) [sP (AW l ls q)]:=by
 obtain⟨c,r,hc,h7,_,_,hl⟩:=Bn h;have e1:A0 fns mt A1 (k+3) 3 [.p (.str (tx l))]= .ok (.p (.bl true)) [sP (.str (tx l))]:=h▸BR (k:=k+2) hl (by rw[hc,lC];lia);have e2:=F6 (k:=k) hn;have hc1:ev (A0 fns mt A1 (k+3)) mt (.call 3 [.prim .idx [.var 0,.cst (.int 0)]]) [sP (AW l ls q)]= .ok (.p (.bl true)) [sP (AW l ls q)]:=Fh (by unfold AW;simp! []) e1;have hc2:ev (A0 fns mt A1 (k+3)) mt (.call 7 [.prim .idx [.var 0,.cst (.int 1)]]) [sP (AW l ls q)]= .ok (.p (.bl true)) [sP (AW l ls q)]:=Fh (by unfold AW;simp! []) e2
 have e:execs (A0 fns mt A1 (k + 3)) mt A1 hO [sP (AW l ls q)]= .ok (.ret (.p (.bl true))) [sP (AW l ls q)]:=by
  unfold hO;unfold AW at hc1 hc2 ⊢;simp! [↓hc1,↓hc2,Cr,eq_int]
 exact Ac eI rfl rfl e (by kernel_rfl)
theorem BZ(a b:List Nat):Fp (.str (tx a)) (.str (tx b))=some (decide (a=b)):=by
 rw[eq_str];exact congrArg some (decide_eq_decide.mpr ⟨Og,λz=>by rw[z]⟩)
variable{n:Nat}
theorem KA(h:Ex n p):A0 fns mt A1 (k + 5) 11 [.p p]= .ok (.p (.bl true)) [sP p]:=by
 suffices e:∃y,execs (A0 fns mt A1 (k + 4)) mt A1 YD [sP p,none]= .ok (.ret (.p (.bl true))) [sP p,y]by
  obtain⟨y,e⟩:=e;exact Ac eD rfl rfl e (by kernel_rfl)
 cases h with
 |num i hi=>
   have h9:=Ec (cf:=A0 fns mt A1 (k+4)) (mt:=mt) (r:=[none]) (BY (k:=k+3) (x:=Dt) (ps:=[.int i]));have h4:ev (A0 fns mt A1 (k+4)) mt (.call 4 [.prim .idx [.var 0,.cst (.int 1)]]) [sP (.tup [.str Dt,.int i]),sP (.str Dt)]= .ok (.p (.bl true)) [sP (.tup [.str Dt,.int i]),sP (.str Dt)]:=Fh (by simp! []) (Jo (k:=k+2) hi);refine⟨some (.p (.str Dt)),?_⟩;unfold YD;simp! [↓h9,↓h4,Cr,eq_int,BZ]
 |O6 l hl=>
   obtain⟨l1,l8,_,l7⟩:=AZ hl;have h9:=Ec (cf:=A0 fns mt A1 (k+4)) (mt:=mt) (r:=[none]) (BY (k:=k+3) (x:=Cs) (ps:=[.str (tx l)]));have h4:ev (A0 fns mt A1 (k+4)) mt (.call 1 [.prim .idx [.var 0,.cst (.int 1)]]) [sP (.tup [.str Cs,.str (tx l)]),sP (.str Cs)]= .ok (.p (.bl true)) [sP (.tup [.str Cs,.str (tx l)]),sP (.str Cs)]:=Fh (by simp! []) (hl▸BQ (k:=k+3) l7 (by unfold big;lia));refine⟨some (.p (.str Cs)),?_⟩;unfold YD;simp! [↓h9,↓h4,Cr,eq_int,BZ]
 |Hm l ps hl h3 _=>
   obtain⟨c,r,hc,r7,_,_,l7⟩:=Bn hl;have h9:=Ec (cf:=A0 fns mt A1 (k+4)) (mt:=mt) (r:=[none]) (BY (k:=k+3) (x:=CQ) (ps:=[.str (tx l),.tup ps]));have h4:ev (A0 fns mt A1 (k+4)) mt (.call 3 [.prim .idx [.var 0,.cst (.int 1)]]) [sP (.tup [.str CQ,.str (tx l),.tup ps]),sP (.str CQ)]= .ok (.p (.bl true)) [sP (.tup [.str CQ,.str (tx l),.tup ps]),sP (.str CQ)]:=Fh (by simp! []) (hl▸BR (k:=k+3) l7 (by rw[hc,lC];lia));have h5:ev (A0 fns mt A1 (k+4)) mt (.call 5 [.prim .idx [.var 0,.cst (.int 2)]]) [sP (.tup [.str CQ,.str (tx l),.tup ps]),sP (.str CQ)]= .ok (.p (.bl true)) [sP (.tup [.str CQ,.str (tx l),.tup ps]),sP (.str CQ)]:=Fh (by simp! []) (decide_eq_true h3▸FF (k:=k+3) (ps:=ps));refine⟨some (.p (.str CQ)),?_⟩;unfold YD;simp! [↓h9,↓h4,↓h5,Cr,eq_int,BZ]
 |call l ps hl h3 _=>
   obtain⟨l1,l8,_,l7⟩:=AZ hl;have h9:=Ec (cf:=A0 fns mt A1 (k+4)) (mt:=mt) (r:=[none]) (BY (k:=k+3) (x:=Bz) (ps:=[.str (tx l),.tup ps]));have h4:ev (A0 fns mt A1 (k+4)) mt (.call 1 [.prim .idx [.var 0,.cst (.int 1)]]) [sP (.tup [.str Bz,.str (tx l),.tup ps]),sP (.str Bz)]= .ok (.p (.bl true)) [sP (.tup [.str Bz,.str (tx l),.tup ps]),sP (.str Bz)]:=Fh (by simp! []) (hl▸BQ (k:=k+3) l7 (by unfold big;lia));have h5:ev (A0 fns mt A1 (k+4)) mt (.call 5 [.prim .idx [.var 0,.cst (.int 2)]]) [sP (.tup [.str Bz,.str (tx l),.tup ps]),sP (.str Bz)]= .ok (.p (.bl true)) [sP (.tup [.str Bz,.str (tx l),.tup ps]),sP (.str Bz)]:=Fh (by simp! []) (decide_eq_true h3▸FF (k:=k+3) (ps:=ps));refine⟨some (.p (.str Bz)),?_⟩;unfold YD;simp! [↓h9,↓h4,↓h5,Cr,eq_int,BZ]
 |case q as hq h1 h4 ha hp=>
   generalize hP:as.map (λa=>AW a.1 a.2.1 a.2.2)=ps;have hl:ps.length=as.length:=by rw[<-hP,lM]
   have h9:=Ec (cf:=A0 fns mt A1 (k+4)) (mt:=mt) (r:=[none]) (BY (k:=k+3) (x:=As) (ps:=[q,.tup ps]));have h8:ev (A0 fns mt A1 (k+4)) mt (.call 8 [.prim .idx [.var 0,.cst (.int 2)]]) [sP (.tup [.str As,q,.tup ps]),sP (.str As)]= .ok (.p (.bl true)) [sP (.tup [.str As,q,.tup ps]),sP (.str As)]:=Fh (by simp! []) (PX (k:=k+3) (ps:=ps) (by lia) (by lia));have ht:A9 (A0 fns mt A1 (k+4)) mt [.prim .idx [.var 0,.cst (.int 2)]] [sP (.tup [.str As,q,.tup ps]),sP (.str As)]= .ok [.AI (.p (.tup ps))] [sP (.tup [.str As,q,.tup ps]),sP (.str As)]:=by simp! []
   have hb:=FJ (cf:=A0 fns mt A1 (k + 4)) (mt:=mt) (elt:=.call 10 [.var 1]) (F:=λ_=>.bl true) ht rfl rfl rfl (by unfold big;lia) (λx hx=>by
    rw[<-hP]at hx;obtain⟨a,hm,rfl⟩:=mem_map.mp hx
    exact Hy (LS (k:=k) (ha a hm).1 (ha a hm).2))
   have hbc:ev (A0 fns mt A1 (k + 4)) mt (.prim .all [.comp (.nm 1) .op [.prim .idx [.var 0,.cst (.int 2)]] [] (.call 10 [.var 1]) [none,none]]) [sP (.tup [.str As,q,.tup ps]),sP (.str As)]= .ok (.p (.bl true)) [sP (.tup [.str As,q,.tup ps]),sP (.str As)]:=by
    rw[DH,Bh,CZ,hb];show Res.of (HN (.b (.lst _))) _=_;rw[all_map (F:=λ_=>true)];simp
   refine⟨some (.p (.str As)),?_⟩;unfold YD;simp! [↓h9,↓h8,↓hbc,Cr,eq_int,BZ]
noncomputable def B7:Iv.P->List Iv.P
 |.tup [_,.str _,.tup ps]=>ps
 | .tup [_,q,.tup as]=>q::as.map λa=>match a with
   |.tup [_,_,x]=>x
   |a=>a
 |_=>[]
theorem D6{s:Iv.P}{q:Iv.P}{as:List (List Nat×List (List Nat)×Iv.P)}(hq:∀x,q≠.str x):B7 (.tup [s,q,.tup (as.map λa=>AW a.1 a.2.1 a.2.2)])=q::as.map λa=>a.2.2:=by
 have:B7 (.tup [s,q,.tup (as.map λa=>AW a.1 a.2.1 a.2.2)])=q::(as.map λa=>AW a.1 a.2.1 a.2.2).map λa=>match a with
  |.tup [_,_,x]=>x
  |a=>a:=by
  cases q with
  |str x=>exact absurd rfl (hq x)
  |_=>rfl
 rw[this,map_map];rfl
theorem Ex.SO(h:Ex n p):∀x,p≠.str x:=by cases h<;>exact λx z=>by cases z
theorem Pf(h:Ex n p):A0 fns mt A1 (k + 1) 12 [.p p]= .ok (.lst (B7 p)) [sP p]:=by
 suffices e:execs (A0 fns mt A1 k) mt A1 YC [sP p]= .ok (.ret (.lst (B7 p))) [sP p]from Ac eC rfl rfl e (by kernel_rfl)
 cases h with
 |num i hi=>
   show _=Res.ok (Fl.ret (.lst [])) _;unfold YC;simp! [BZ]
 |O6 l hl=>
   show _=Res.ok (Fl.ret (.lst [])) _;unfold YC;simp! [BZ]
 |Hm l ps hl h3 _=>
   show _=Res.ok (Fl.ret (.lst ps)) _;unfold YC;simp! [BZ,Nf]
 |call l ps hl h3 _=>
   show _=Res.ok (Fl.ret (.lst ps)) _;unfold YC;simp! [BZ,Nf]
 |case q as hq h1 h4 ha hp=>
   rw[D6 hq.SO];generalize hP:as.map (λa=>AW a.1 a.2.1 a.2.2)=ps;have hl:ps.length=as.length:=by rw[<-hP,lM]
   have ht:A9 (A0 fns mt A1 k) mt [.prim .idx [.var 0,.cst (.int 2)]] [sP (.tup [.str As,q,.tup ps])]= .ok [.AI (.p (.tup ps))] [sP (.tup [.str As,q,.tup ps])]:=by simp! []
   have hb:=FJ (cf:=A0 fns mt A1 k) (mt:=mt) (elt:=.prim .idx [.var 1,.cst (.int 2)]) (F:=λa=>match a with| .tup [_,_,x]=>x|a=>a) ht rfl rfl rfl (by unfold big;lia) (λx hx=>by
    rw[<-hP]at hx;obtain⟨a,hm,rfl⟩:=mem_map.mp hx;show ev _ _ _ [none,sP (AW a.1 a.2.1 a.2.2)]= .ok (.p a.2.2) _;unfold AW
    simp! [])
   have hm:ps.map (λa=>match a with| .tup [_,_,x]=>x|a=>a)=as.map λa=>a.2.2:=by rw[<-hP,map_map];rfl
   rw[hm]at hb
   have had:M6 (.b (.lst [q])) (.b (.lst (as.map λa=>a.2.2)))=some (.lst (q::as.map λa=>a.2.2)):=by
    show(N3 ([q]++as.map λa=>a.2.2)).map _=_;unfold N3;rw[iP (by simp;unfold big;lia)];rfl
   unfold YC;simp! [BZ,↓hb,had]
noncomputable def Zw:List S:=[.asg (.nm 2) (.prim .add [.var 2,.cst (.int 1)]),.asg (.nm 3) (.ES .pop (.var 1) []),.asg (.nm 4) (.prim .idx [.var 3,.cst (.int 0)]),.asg (.nm 5) (.prim .idx [.var 3,.cst (.int 1)]),.ifs (.or (.prim .gt [.var 2,.cst (.int 40)]) (.or (.prim .gt [.var 5,.cst (.int 11)]) (.not (.call 11 [.var 4])))) [.ret (some (.cst (.bl false)))] [],.expr (.ES .extend (.var 1) [.comp (.nm 1) .op [.call 12 [.var 4]] [] (.tup [.var 1,.prim .add [.var 2,.cst (.int 1)]]) [none,none,some 5]])]
theorem YB:hG=[.asg (.nm 1) (.lst [.tup [.var 0,.cst (.int 0)]]),.asg (.nm 2) (.cst (.int 0)),.JU (.var 1) Zw,.ret (some (.cst (.bl true)))]:=rfl
def JS(a:Nat)(p:Iv.P):Iv.P:=.tup [p,.int a]
def sz:Nat->Iv.P->Nat
 |0,_=>0
 |n+1,p=>1+((B7 p).map (sz n)).sum
theorem Ex.parts(h:Ex (n + 1) p):(∀q∈B7 p,Ex n q)/\(B7 p).length<=5:=by
 cases h with
 |num i hi=>exact⟨λq hq=>(by cases hq),by show 0<=5;lia⟩
 |O6 l hl=>exact⟨λq hq=>(by cases hq),by show 0<=5;lia⟩
 |Hm l ps hl h3 hp=>exact⟨hp,by show ps.length<=5;lia⟩
 |call l ps hl h3 hp=>exact⟨hp,by show ps.length<=5;lia⟩
 |case q as hq h1 h4 ha hp=>
   rw[D6 hq.SO];refine⟨λx hx=>?_,by simp;lia⟩;rcases mK hx with z|z
   .rw[z];exact hq
   .obtain⟨a,hm,rfl⟩:=mem_map.mp z;exact hp a hm
variable{p0:Option C}
theorem TK{a nodes:Nat}{y3 y4 y5:Option C}{ws:List Iv.P}(h:Ex (n + 1) p)(ha:a<=11)(hn:nodes < 40)(hw:ws.length<=1000):
 execs (A0 fns mt A1 (k+5)) mt A1 Zw [p0,sL (ws++[JS a p]),sP (.int nodes),y3,y4,y5]= .ok .nx [p0,sL (ws++(B7 p).map (JS (a+1))),sP (.int ((nodes:Int)+1)),sP (JS a p),sP p,sP (.int a)]:=by
 obtain⟨h1,h2⟩:=h.parts;generalize hρ:([p0,sL ws,sP (.int ((nodes:Int)+1)),sP (JS a p),sP p,sP (.int a)]:Iv.Env)=ρ
 have hc:ev (A0 fns mt A1 (k + 5)) mt (.call 11 [.var 4]) ρ= .ok (.p (.bl true)) ρ:=by
  subst hρ;exact Gf (h:=.slot 4) rfl rfl (KA (k:=k) h)
 have hb:ev (A0 fns mt A1 (k + 5)) mt (.comp (.nm 1) .op [.call 12 [.var 4]] [] (.tup [.var 1,.prim .add [.var 2,.cst (.int 1)]]) [none,none,some 5]) ρ= .ok (.lst ((B7 p).map (JS (a + 1)))) ρ:=by
  subst hρ;have hd:ev (A0 fns mt A1 (k+5)) mt (.call 12 [.var 4]) [p0,sL ws,sP (.int ((nodes:Int)+1)),sP (JS a p),sP p,sP (.int a)]= .ok (.lst (B7 p)) [p0,sL ws,sP (.int ((nodes:Int)+1)),sP (JS a p),sP p,sP (.int a)]:=Gf (h:=.slot 4) rfl rfl (Pf (k:=k+4) h);refine DD (h:=.AI (.lst (B7 p))) (c:=.lst (B7 p)) (r:=[sP (.int a)]) rfl (by simp! [↓hd]) rfl rfl rfl rfl (by unfold big;lia) rfl rfl (λ_=>rfl) λq hq=>?_
  unfold JS;simp! []
 have hx:ws.length+(B7 p).length<=big:=by unfold big;lia
 have h40:¬(40:Int) < (nodes:Int)+1:=by lia
 have h11:¬(11:Int) < (a:Int):=by lia
 unfold Zw;subst hρ;unfold JS at hc hb ⊢;simp! [NA,EU,↓hc,↓hb,h40,h11,hx]
abbrev Wt:=Nat×Nat×Iv.P
def Li(ws:List Wt):Nat:=(ws.map λw=>sz w.1 w.2.2).sum
theorem Ex.pos(h:Ex n p):∃m,n=m+1:=by cases h<;>exact⟨_,rfl⟩
theorem Mb(a b:List Wt):Li (a++b)=Li a+Li b:=by unfold Li;rw[map_append,List.sum_append]
theorem IL:∀{ws:List Wt},(∀w∈ws,Ex w.1 w.2.2)->ws.length<=Li ws
 |[],_=>Nat.zero_le _
 | w::ws,h=>by
   have ih:=IL λv hv=>h v (mC hv)
   obtain⟨m,hm⟩:=(h w mS).pos;have:Li (w::ws)=sz w.1 w.2.2+Li ws:=by unfold Li;rw[map_cons,sum_cons]
   rw[this,hm,lC];show _<=1+_+_
   lia
theorem TN:∀(m:Nat) (ws:List Wt) (nodes:Nat) (y3 y4 y5:Option C),(∀w∈ws,Ex w.1 w.2.2/\w.2.1 + w.1<=12)->Li ws=m->nodes + m<=40->
 ∃z3 z4 z5,A1 (tv (A0 fns mt A1 (k+5)) mt (.var 1)) (execs (A0 fns mt A1 (k+5)) mt A1 Zw) [p0,sL (ws.map λw=>JS w.2.1 w.2.2),sP (.int nodes),y3,y4,y5]= .ok .nx [p0,sL [],sP (.int ((nodes:Int)+(m:Int))),z3,z4,z5]:=by
 intro m
 induction m with
 |zero=>
   intro ws nodes y3 y4 y5 hw hm hn
   have:ws=[]:=by
    have:=IL λw h=>(hw w h).1
    exact length_eq_zero_iff.mp (by lia)
   subst this;refine⟨y3,y4,y5,?_⟩;rw[Bs];simp! []
 |succ m ih=>
   intro ws nodes y3 y4 y5 hw hm hn;rcases List.eq_nil_or_concat ws with rfl|⟨ws',w,rfl⟩
   .cases hm
   .obtain⟨n,a,p⟩:=w;have hlen:=IL λw h=>(hw w h).1
    rw[hm,List.concat_eq_append,lA]at hlen;rw[List.concat_eq_append]at hw hm ⊢;obtain⟨hx,hb⟩:=hw (n,a,p) (by simp);obtain⟨n',rfl⟩:=hx.pos;obtain⟨hp1,hp2⟩:=hx.parts;have hb:a+(n'+1)<=12:=hb;have e1:Li ((B7 p).map λq=>(n',a+1,q))=((B7 p).map (sz n')).sum:=by unfold Li;rw[map_map];rfl
    have hm':Li (ws'++(B7 p).map λq=>(n',a + 1,q))=m:=by
     rw[Mb,e1];rw[Mb]at hm;have:Li [(n'+1,a,p)]=1+((B7 p).map (sz n')).sum:=by unfold Li;rw[map_cons,map_nil,sum_cons,List.sum_nil];rfl
     lia
    obtain⟨z3,z4,z5,e⟩:=ih (ws'++(B7 p).map λq=>(n',a + 1,q)) (nodes + 1) (some (.p (JS a p))) (some (.p p)) (some (.p (.int a))) (λw hw2=>by
     rcases mem_append.mp hw2 with z|z
     .exact hw w (mL z)
     .obtain⟨q,hq,rfl⟩:=mem_map.mp z
      exact⟨hp1 q hq,by show a+1+n'<=12;lia⟩) hm' (by lia)
    refine⟨z3,z4,z5,?_⟩;have ht:=TK (k:=k) (n:=n') (a:=a) (nodes:=nodes) (p:=p) (p0:=p0) (y3:=y3) (y4:=y4) (y5:=y5) (ws:=ws'.map λw=>JS w.2.1 w.2.2) hx (by lia) (by lia) (by rw[lM];lia);rw[map_append,map_map]at e;rw[map_append,Bs];have hc:tv (A0 fns mt A1 (k+5)) mt (.var 1) [p0,sL (ws'.map (λw=>JS w.2.1 w.2.2)++[JS a p]),sP (.int nodes),y3,y4,y5]= .ok true [p0,sL (ws'.map (λw=>JS w.2.1 w.2.2)++[JS a p]),sP (.int nodes),y3,y4,y5]:=by simp! []
    show(tv _ _ _ [p0,sL (ws'.map (λw=>JS w.2.1 w.2.2)++[JS a p]),sP (.int nodes),y3,y4,y5]).bind _=_;rw[hc,Res.A3,iP rfl,ht,Res.A3];have e2:((nodes+1:Nat):Int)=(nodes:Int)+1:=by lia
    rw[e2]at e;have e3:(nodes:Int)+1+(m:Int)=(nodes:Int)+((m+1:Nat):Int):=by lia
    rw[e3]at e;exact e
theorem LN(h:Ex n p)(hn:n<=12)(hs:sz n p<=40):A0 fns mt A1 (k + 6) 13 [.p p]= .ok (.p (.bl true)) [sP p]:=by
 obtain⟨z3,z4,z5,e⟩:=TN (k:=k) (p0:=some (.p p)) (sz n p) [(n,0,p)] 0 none none none (λw hw=>by rw[mE hw];exact⟨h,by show 0+n<=12;lia⟩) (by unfold Li;simp) (by lia);have e:A1 (tv (A0 fns mt A1 (k+5)) mt (.var 1)) (execs (A0 fns mt A1 (k+5)) mt A1 Zw) [sP p,sL [.tup [p,.int 0]],sP (.int 0),none,none,none]= .ok .nx [sP p,sL [],sP (.int (((0:Nat):Int)+(sz n p:Int))),z3,z4,z5]:=e
 have e2:execs (A0 fns mt A1 (k + 5)) mt A1 hG [sP p,none,none,none,none,none]= .ok (.ret (.p (.bl true))) [sP p,sL [],sP (.int (((0:Nat):Int) + (sz n p:Int))),z3,z4,z5]:=by
  rw[YB];simp! [Gx,e]
 exact Ac eA rfl rfl e2 (by kernel_rfl)
end Lk51
namespace Iv
open PySem
def dg(n:Nat):List Nat:=(Nat.toDigits 10 n).map Char.toNat
variable{n:Nat}
theorem Qq(h:n < 10):dg n=[48 + n]:=by
 unfold dg;rw[Nat.toDigits_of_lt_base h];show[n.digitChar.toNat]=_;have:∀m < 10,m.digitChar.toNat=48+m:=by decide
 rw[this n h]
theorem Qr(h:10<=n):dg n=dg (n / 10)++[48 + n % 10]:=by
 unfold dg;rw[Nat.toDigits_of_base_le (by decide) h,map_append];show _++[(n%10).digitChar.toNat]=_;have:∀m < 10,m.digitChar.toNat=48+m:=by decide
 rw[this _ (Nat.mod_lt _ (by decide))]
theorem Jw{m:Nat}(hm:0 < m)(h:n < 10 ^ m):(dg n).length<=m:=by
 unfold dg;rw[lM];exact(Nat.length_toDigits_le_iff (by decide) hm).mpr h
theorem LY(n:Nat):∀c∈dg n,48<=c/\c<=57:=by
 induction n using Nat.strongRecOn with
 |ind n ih=>
   intro c hc
   by_cases h:n < 10
   .rw[Qq h]at hc;rw[mE hc]
    lia
   .rw[Qr (by lia)]at hc;rcases mem_append.mp hc with z|z
    .exact ih (n/10) (by lia) c z
    .rw[mE z];have:=Nat.mod_lt n (show 10 > 0 by decide)
     lia
theorem NO(l:List Nat)(c:Nat):G3 (l++[c])=G3 l * 10 + (c - 48):=by
 unfold G3;rw[foldl_append];rfl
theorem Y0(n:Nat):G3 (dg n)=n:=by
 induction n using Nat.strongRecOn with
 |ind n ih=>
   by_cases h:n < 10
   .rw[Qq h];show 0*10+(48+n-48)=n
    lia
   .rw[Qr (by lia),NO,ih (n/10) (by lia)];have:=Nat.mod_lt n (show 10 > 0 by decide)
    lia
theorem Jx(n:Nat):∃c r,dg n=c::r/\(c=48->n=0/\r=[]):=by
 induction n using Nat.strongRecOn with
 |ind n ih=>
   by_cases h:n < 10
   .exact⟨48+n,[],Qq h,λz=>⟨by lia,rfl⟩⟩
   .obtain⟨c,r,e,hc⟩:=ih (n/10) (by lia);refine⟨c,r++[48+n%10],by rw[Qr (by lia),e];rfl,λz=>?_⟩;have:=(hc z).1
    lia
def HK(i:Int):List Nat:=if i < 0 then 45::dg i.natAbs else dg i.natAbs
theorem Mf(n:Nat):Str.ofString (toString n)=tx (dg n):=by
 rw[Str.ofString_eq_toList];show(⟨_⟩:Str)=⟨_⟩;unfold dg;rw[show(toString n:String)=n.repr from rfl,Nat.toList_repr]
theorem str_int(i:Int):Str.ofString (toString i)=tx (HK i):=by
 unfold HK;cases i with
 |ofNat n=>
   rw[iN (by exact Int.not_lt.mpr (Int.natCast_nonneg n))];exact Mf n
 |negSucc n=>
   rw[iP (Int.negSucc_lt_zero n)];show Str.ofString ("-"++toString (n+1))=tx (45::dg (n+1));have:=Mf (n+1);rw[Str.ofString_eq_toList]at this ⊢;rw[String.toList_append,map_append]
   have h2:((toString (n + 1)).toList.map Char.toNat)=dg (n + 1):=by
    injection this with this
    exact List.toArray_inj this
   rw[h2];rfl
theorem Ou{i:Int}(h:i.natAbs < 10 ^ 60):F7 Ov (.b (.p (.int i)))=some (.p (.str (tx (HK i)))):=by
 show(if i.natAbs.log2 < 1920 then some (P.str (Str.ofString (toString i)))else none).map (λk=>C.p k)=_
 have h2 :i.natAbs.log2 < 1920:=by
  by_cases h0:i.natAbs=0
  .rw[h0];decide
  .rw [Nat.log2_lt h0]
   exact Nat.lt_of_lt_of_le h (by
    calc (10:Nat) ^ 60<=16 ^ 60:=Nat.pow_le_pow_left (by decide) 60
     _=2 ^ 240:=by rw[show(16:Nat)=2 ^ 4 from rfl,<-Nat.pow_mul]
     _<=2 ^ 1920:=Nat.pow_le_pow_right (by decide) (by decide))
 rw[iP h2,str_int];rfl
theorem To{i:Int}(h:i.natAbs < 10 ^ 60):(HK i).length<=61:=by
 have:=Jw (by decide) h;unfold HK;split
 .rw[lC];lia
 .lia
end Iv
namespace Lk51
open Iv PySem
variable{k:Nat}
theorem K6{n:Nat}(h:n < 10 ^ 60):A0 fns mt A1 (k + 1) 18 [.p (.int n)]= .ok (.p (.str (tx (dg n)))) [none]:=by
 have hi:((n:Int)).natAbs < 10 ^ 60:=by simpa using h
 have h1:=Ou hi;have h2:HK (n:Int)=dg n:=by unfold HK;rw[iN (by lia)];simp
 rw[h2]at h1;have h3:¬(n:Int) < 0:=by lia
 have h4:¬(10 ^ 60:Int)<=(n:Int):=by lia
 have h5:=AA (a:=dg n) (b:=[]) (by have:=Jw (by decide) h;unfold big;simp;lia);rw[append_nil]at h5
 have e:execs (A0 fns mt A1 k) mt A1 cT [sP (.int n),none]= .ok (.ret (.p (.str (tx (dg n))))) [sP (.int n),sP (.str (tx []))]:=by
  have hc:tv (A0 fns mt A1 k) mt (.prim .ge [.var 0,.prim .pow [.cst (.int 10),.cst (.int 60)]]) [sP (.int n),sP (.str (tx []))]= .ok false [sP (.int n),sP (.str (tx []))]:=by
   simp! [OZ]
   lia
  have hw:∀b,A1 (tv (A0 fns mt A1 k) mt (.prim .ge [.var 0,.prim .pow [.cst (.int 10),.cst (.int 60)]])) b [sP (.int n),sP (.str (tx []))]= .ok .nx [sP (.int n),sP (.str (tx []))]:=λb=>by
   rw[Bs,hc];rfl
  unfold cT;simp! [Gx,hw,h1,h3,h5]
 exact Ac cq rfl rfl e (by kernel_rfl)
theorem GO{i:Int}(h:i.natAbs < 10 ^ 60):A0 fns mt A1 (k + 2) 18 [.p (.int i)]= .ok (.p (.str (tx (HK i)))) [none]:=by
 by_cases h0:i < 0
 .have hn:=K6 (k:=k) h
  have hc:ev (A0 fns mt A1 (k + 1)) mt (.call 18 [.prim .neg [.var 0]]) [sP (.int i),none]= .ok (.p (.str (tx (dg i.natAbs)))) [sP (.int i),none]:=Fh (p:=.int (i.natAbs:Nat)) (by
   have: -i=((i.natAbs:Nat):Int):=by lia
   simp! [this]) hn
  have h5:=AA (a:=[45]) (b:=dg i.natAbs) (by have:=Jw (by decide) h;unfold big;simp;lia);have h2:HK i=[45]++dg i.natAbs:=by unfold HK;rw[iP h0];rfl
  rw[<-h2]at h5
  have e:execs (A0 fns mt A1 (k + 1)) mt A1 cT [sP (.int i),none]= .ok (.ret (.p (.str (tx (HK i))))) [sP (.int i),none]:=by
   unfold cT;simp! [h0,↓hc,h5]
  exact Ac cq rfl rfl e (by kernel_rfl)
 .have hn:=K6 (k:=k+1) h;have h1:((i.natAbs:Nat):Int)=i:=by lia
  rw[h1]at hn;have h2:HK i=dg i.natAbs:=by unfold HK;rw[iN h0]
  rw[h2];exact hn
end Lk51
namespace Iv
open PySem
def jn(sep:List Nat):List (List Nat)->List Nat
 |[]=>[]
 |x::r=>x++(r.map λy=>sep++y).flatten
theorem Ih(sep:List Nat):∀(xs:List (List Nat)) (a:List Nat),(xs.map tx).foldl (λacc (p:Str)=>acc++(tx sep).cps++p.cps) a.toArray=(a++(xs.map λy=>sep++y).flatten).toArray
 |[],a=>by simp
 | x::xs,a=>by
   rw[map_cons,foldl_cons];have:a.toArray++(tx sep).cps++(tx x).cps=(a++sep++x).toArray:=by simp
   rw[this,Ih sep xs (a++sep++x),map_cons,flatten_cons];simp
theorem PR(sep:List Nat)(ls:List (List Nat)):Ky (tx sep) (ls.map tx)=tx (jn sep ls):=by
 cases ls with
 |nil=>rfl
 |cons x r=>
   show(⟨(r.map tx).foldl (λacc p=>acc++(tx sep).cps++p.cps) (tx x).cps⟩:Str)=_;have:=Ih sep r x;exact congrArg Str.mk this
theorem sum_bound{m:Nat}:∀{ls:List (List Nat)},(∀l∈ls,l.length<=m)->(ls.map List.length).sum<=ls.length * m
 |[],_=>by simp
 | l::ls,h=>by
   have h1:=h l mS;have h2:=sum_bound λx hx=>h x (mC hx)
   rw[map_cons,sum_cons,lC,Nat.add_mul]
   lia
theorem Dc{sep:List Nat}{m:Nat}{ls:List (List Nat)}(h:∀l∈ls,l.length<=m):(jn sep ls).length<=ls.length * (m + sep.length):=by
 cases ls with
 |nil=>simp[jn]
 |cons x r=>
   have h1:=h x mS
   have h2:((r.map λy=>sep++y).flatten).length<=r.length * (m + sep.length):=by
    rw[List.length_flatten,map_map];have:(List.map (List.length ∘ λy=>sep++y) r).sum=((r.map λy=>sep++y).map List.length).sum:=by rw[map_map]
    rw[this]
    have:=sum_bound (m:=m + sep.length) (ls:=r.map λy=>sep++y) (λl hl=>by
     obtain⟨y,hy,rfl⟩:=mem_map.mp hl;have:=h y (mC hy)
     rw[lA];lia)
    rw[lM]at this;exact this
   unfold jn;rw[lA,lC,Nat.add_mul]
   lia
theorem LF(ls:List (List Nat)):(ls.map tx).map (·.length)=ls.map List.length:=by
 rw[map_map];exact map_congr_left λl _=>B6 l
end Iv
namespace Lk51
open Iv PySem
variable{ls:List (List Nat)}
theorem BE{sep:List Nat}{m:Nat}(h:∀l∈ls,l.length<=m)(hb:ls.length * (m + sep.length)<=big):G1 (tx sep) (.b (.lst (Ad ls)))=some (.p (.str (tx (jn sep ls))))/\G1 (tx sep) (.b (.p (.tup (Ad ls))))=some (.p (.str (tx (jn sep ls)))):=by
 have key:(some (Ad ls)).bind (λx=>strsOf x)=some (ls.map tx):=Eg ls;have h2:=sum_bound h
 have hc:((ls.map tx).map (·.length)).sum + (ls.map tx).length * (tx sep).length<=big:=by
  rw[LF,lM,B6];rw[Nat.mul_add]at hb
  lia
 have fin:(if((ls.map tx).map (·.length)).sum + (ls.map tx).length * (tx sep).length<=big then some (C.p (.str (Ky (tx sep) (ls.map tx))))else none)=some (.p (.str (tx (jn sep ls)))):=by
  rw[iP hc,PR]
 refine⟨?_,?_⟩
 .show((some (Ad ls)).bind strsOf).bind _=_;rw[key];exact fin
 .show((some (Ad ls)).bind strsOf).bind _=_;rw[key];exact fin
def D2(l:List Nat)(ls:List (List Nat))(t:List Nat):List Nat:=l++[40]++jn [44,32] ls++[41,32]++t
noncomputable def sh:Nat->Iv.P->List Nat
 |0,_=>[]
 | n + 1,p=>match p with
   |.tup [_,.int i]=>HK i
   |.tup [_,.str x]=>x.cps.toList
   |.tup [_,.str x,.tup ps]=>x.cps.toList++[40]++jn [44,32] (ps.map (sh n))++[41]
   | .tup [_,q,.tup as]=>[91]++sh n q++[58,32]++jn [59,32] (as.map λa=>match a with
     |.tup [.str f,.tup ns,x]=>D2 f.cps.toList (ns.map λy=>match y with| .str z=>z.cps.toList|_=>[]) (sh n x)
     |_=>[])++[93]
   |_=>[]
variable{n:Nat}
theorem GP{s:Iv.P} :sh (n+1) (.tup [s,.int i])=HK i:=rfl
theorem GQ{s:Iv.P}{l:List Nat}:sh (n+1) (.tup [s,.str (tx l)])=l:=rfl
theorem CJ{s:Iv.P}{l:List Nat}{ps:List Iv.P}:sh (n+1) (.tup [s,.str (tx l),.tup ps])=l++[40]++jn [44,32] (ps.map (sh n))++[41]:=rfl
theorem EI{s q:Iv.P}{as:List (List Nat×List (List Nat)×Iv.P)}(hq:∀x,q≠.str x):sh (n + 1) (.tup [s,q,.tup (as.map λa=>AW a.1 a.2.1 a.2.2)])=[91]++sh n q++[58,32]++jn [59,32] (as.map λa=>D2 a.1 a.2.1 (sh n a.2.2))++[93]:=by
 have:sh (n + 1) (.tup [s,q,.tup (as.map λa=>AW a.1 a.2.1 a.2.2)])=[91]++sh n q++[58,32]++jn [59,32] ((as.map λa=>AW a.1 a.2.1 a.2.2).map λa=>match a with
     |.tup [.str f,.tup ns,x]=>D2 f.cps.toList (ns.map λy=>match y with| .str z=>z.cps.toList|_=>[]) (sh n x)
     |_=>[])++[93]:=by
  cases q with
  |str x=>exact absurd rfl (hq x)
  |_=>rfl
 rw[this,map_map]
 congr 2
 refine congrArg (jn [59,32]) (map_congr_left λa _=>?_);show D2 a.1 ((Ad a.2.1).map λy=>match y with| .str z=>z.cps.toList|_=>[]) (sh n a.2.2)=_;rw[map_map]
 congr 1
 exact map_id'' (λl=>rfl) a.2.1
theorem J2(h:Ld ls):(jn [44,32] ls).length<=30:=by
 have:=Dc (sep:=[44,32]) (m:=8) (ls:=ls) λl hl=>(h.nm l hl).2.2
 have h3:=h.len;have:ls.length*(8+[44,32].length)<=3*10:=Nat.mul_le_mul_right _ h3
 lia
theorem IU{l:List Nat}{t:List Nat}(h:ED l=true)(hn:Ld ls):(D2 l ls t).length<=41 + t.length:=by
 obtain⟨c,r,e,h7,_⟩:=Bn h;have:=J2 hn;unfold D2;rw[e];simp only[lA,lC,length_nil]
 lia
theorem Fs:∀{n:Nat} {p:Iv.P},Ex n p->(sh n p).length + 44<=22 * 5 ^ n
 | n + 1,_,.num i h=>by
   rw[GP];have:=To h;have:5<=5 ^ (n+1):=by rw[Nat.pow_succ];have:=Nat.pow_pos (n:=n) (show 0 < 5 by decide);lia
   lia
 | n + 1,_,.O6 l h=>by
   rw[GQ];have:=(AZ h).2.1;have:5<=5 ^ (n+1):=by rw[Nat.pow_succ];have:=Nat.pow_pos (n:=n) (show 0 < 5 by decide);lia
   lia
 | n + 1,_,.Hm l ps h h3 hp=>by
   obtain⟨c,r,e,h7,_⟩:=Bn h
   have h1:=Dc (sep:=[44,32]) (m:=22 * 5 ^ n - 44) (ls:=ps.map (sh n)) (λx hx=>by
    obtain⟨q,hq,rfl⟩:=mem_map.mp hx;have:=Fs (hp q hq)
    lia)
   rw[lM]at h1;have h2:ps.length*(22*5 ^ n-44+[44,32].length)<=3*(22*5 ^ n-44+2):=Nat.mul_le_mul_right _ h3;have h5:=Nat.pow_pos (n:=n) (show 0 < 5 by decide);rw[CJ,e];simp only[lA,lC,length_nil,Nat.pow_succ]at *
   lia
 | n + 1,_,.call l ps h h3 hp=>by
   have h8:=(AZ h).2.1
   have h1:=Dc (sep:=[44,32]) (m:=22 * 5 ^ n - 44) (ls:=ps.map (sh n)) (λx hx=>by
    obtain⟨q,hq,rfl⟩:=mem_map.mp hx;have:=Fs (hp q hq)
    lia)
   rw[lM]at h1;have h2:ps.length*(22*5 ^ n-44+[44,32].length)<=3*(22*5 ^ n-44+2):=Nat.mul_le_mul_right _ h3;have h5:=Nat.pow_pos (n:=n) (show 0 < 5 by decide);rw[CJ];simp only[lA,lC,length_nil,Nat.pow_succ]at *
   lia
 | n + 1,_,.case q as hq h1 h4 ha hp=>by
   have hb:=Fs hq
   have h2:=Dc (sep:=[59,32]) (m:=22 * 5 ^ n - 3) (ls:=as.map λa=>D2 a.1 a.2.1 (sh n a.2.2)) (λx hx=>by
    obtain⟨a,hm,rfl⟩:=mem_map.mp hx;have:=Fs (hp a hm);have:=IU (t:=sh n a.2.2) (ha a hm).1 (ha a hm).2
    lia)
   rw[lM]at h2;have h3:as.length*(22*5 ^ n-3+[59,32].length)<=4*(22*5 ^ n-3+2):=Nat.mul_le_mul_right _ h4;have h5:=Nat.pow_pos (n:=n) (show 0 < 5 by decide);rw[EI hq.SO];simp only[lA,lC,length_nil,Nat.pow_succ]at *
   lia
theorem FQ(h:Ex n p)(hn:n<=4):(sh n p).length<=13750:=by
 have h1:=Fs h;have h2:5 ^ n<=5 ^ 4:=Nat.pow_le_pow_right (by decide) hn;have:(5:Nat) ^ 4=625:=by decide
 lia
theorem We(h:Ex n p)(hn:n<=5):(sh n p).length<=68750:=by
 have h1:=Fs h;have h2:5 ^ n<=5 ^ 5:=Nat.pow_le_pow_right (by decide) hn;have:(5:Nat) ^ 5=3125:=by decide
 lia
variable{k:Nat}
noncomputable def RJ:List S:=[.expr (.ES .append (.var 1) [.prim .add [.prim .add [.prim .add [.prim .add [.var 2,.cst (.str ⟨#[40]⟩)],.prim (.join ⟨#[44,32]⟩) [.var 3]],.cst (.str ⟨#[41,32]⟩)],.call 29 [.var 4]]])]
theorem JJ:eM=[.ifs (.prim .eq [.prim .idx [.var 0,.cst (.int 0)],.cst (.str ⟨#[110,117,109,98,101,114]⟩)]) [.ret (some (.prim .str [.prim .idx [.var 0,.cst (.int 1)]]))] [],.ifs (.prim .eq [.prim .idx [.var 0,.cst (.int 0)],.cst (.str ⟨#[110,97,109,101]⟩)]) [.ret (some (.prim .idx [.var 0,.cst (.int 1)]))] [],.ifs (.prim .ne [.prim .idx [.var 0,.cst (.int 0)],.cst (.str ⟨#[99,97,115,101]⟩)]) [.ret (some (.prim .add [.prim .add [.prim .add [.prim .idx [.var 0,.cst (.int 1)],.cst (.str ⟨#[40]⟩)],.prim (.join ⟨#[44,32]⟩) [.comp (.nm 1) .op [.prim .idx [.var 0,.cst (.int 2)]] [] (.call 29 [.var 1]) [none,none]]],.cst (.str ⟨#[41]⟩)]))] [],.asg (.nm 1) (.lst []),.CV (.tup [2,3,4]) .op [.prim .idx [.var 0,.cst (.int 2)]] RJ,.ret (some (.prim .add [.prim .add [.prim .add [.prim .add [.cst (.str ⟨#[91]⟩),.call 29 [.prim .idx [.var 0,.cst (.int 1)]]],.cst (.str ⟨#[58,32]⟩)],.prim (.join ⟨#[59,32]⟩) [.var 1]],.cst (.str ⟨#[93]⟩)]))]:=rfl
variable{cf:CF}{p0:Option C}
theorem RK{l t:List Nat}{acc:List Iv.P}(h:ED l=true)(hn:Ld ls)(hc:cf 29 [.p q]= .ok (.p (.str (tx t))) [sP q])(ht:t.length<=13750)(ha:acc.length<=100):
 execs cf mt A1 RJ [p0,sL acc,sP (.str (tx l)),sP (.tup (Ad ls)),sP q]= .ok .nx [p0,sL (acc++[.str (tx (D2 l ls t))]),sP (.str (tx l)),sP (.tup (Ad ls)),sP q]:=by
 obtain⟨c,r,e,h7,_⟩:=Bn h;have hl:l.length<=8:=by rw[e,lC];lia
 have hj:=(BE (sep:=[44,32]) (m:=8) (ls:=ls) (λx hx=>(hn.nm x hx).2.2) (by have:=hn.len;have:ls.length*(8+[44,32].length)<=3*10:=Nat.mul_le_mul_right _ this;unfold big;lia)).2;have hjl:=J2 hn;have a1:=AA (a:=l) (b:=[40]) (by unfold big;simp;lia);have a2:=AA (a:=l++[40]) (b:=jn [44,32] ls) (by unfold big;simp;lia);have a3:=AA (a:=l++[40]++jn [44,32] ls) (b:=[41,32]) (by unfold big;simp;lia);have a4:=AA (a:=l++[40]++jn [44,32] ls++[41,32]) (b:=t) (by unfold big;simp;lia);have hd:ev cf mt (.call 29 [.var 4]) [p0,sL acc,sP (.str (tx l)),sP (.tup (Ad ls)),sP q]= .ok (.p (.str (tx t))) [p0,sL acc,sP (.str (tx l)),sP (.tup (Ad ls)),sP q]:=Gf (h:=.slot 4) rfl rfl hc;have hb:acc.length < big:=by unfold big;lia
 unfold RJ D2;generalize hX:l++[40]=X1 at a1 a2 a3 a4 ⊢;generalize hY:X1++jn [44,32] ls=X2 at a2 a3 a4 ⊢;generalize hZ:X2++[41,32]=X3 at a3 a4 ⊢;simp! [a1,a2,a3,a4,hj,↓hd,Cf,hb]
theorem Gg:∀(as:List (List Nat×List (List Nat)×Iv.P)) (acc:List Iv.P) (y2 y3 y4:Option C),(∀a∈as,ED a.1=true/\Ld a.2.1/\cf 29 [.p a.2.2]= .ok (.p (.str (tx (sh n a.2.2)))) [sP a.2.2]/\(sh n a.2.2).length<=13750)->acc.length + as.length<=100->
 ∃z2 z3 z4,forL (.tup [2,3,4]) [] (execs cf mt A1 RJ) (as.map λa=>AW a.1 a.2.1 a.2.2) [p0,sL acc,y2,y3,y4]= .ok .nx [p0,sL (acc++Ad (as.map λa=>D2 a.1 a.2.1 (sh n a.2.2))),z2,z3,z4]
 |[],acc,y2,y3,y4,_,_=>⟨y2,y3,y4,by show _=Res.ok Fl.nx [p0,sL (acc++[]),y2,y3,y4];rw[append_nil];rfl⟩
 | a ::as,acc,y2,y3,y4,h,hl=>by
   rw[lC]at hl;obtain⟨h1,h2,h3,h4⟩:=h a mS;have ht:=RK (p0:=p0) (acc:=acc) h1 h2 h3 h4 (by lia);obtain⟨z2,z3,z4,e⟩:=Gg as (acc++[.str (tx (D2 a.1 a.2.1 (sh n a.2.2)))]) (some (.p (.str (tx a.1)))) (some (.p (.tup (Ad a.2.1)))) (some (.p a.2.2)) (λx hx=>h x (mC hx)) (by rw[lA,lS];lia);refine⟨z2,z3,z4,?_⟩;rw[map_cons]
   show((execs cf mt A1 RJ [p0,sL acc,sP (.str (tx a.1)),sP (.tup (Ad a.2.1)),sP a.2.2]).bind λf ρ=>match f with
    |.nx=>forL (.tup [2,3,4]) [] (execs cf mt A1 RJ) (as.map λa=>AW a.1 a.2.1 a.2.2) ρ
    |.cnt=>forL (.tup [2,3,4]) [] (execs cf mt A1 RJ) (as.map λa=>AW a.1 a.2.1 a.2.2) ρ
    |.brk=>.ok .nx ρ
    |.ret r=>.ok (.ret r) ρ)=_
   rw[ht,Res.A3];show forL (.tup [2,3,4]) [] (execs cf mt A1 RJ) (as.map λa=>AW a.1 a.2.1 a.2.2) _=_;rw[e,append_assoc];rfl
theorem Md{ps:List Iv.P}:ps.map (λq=>Iv.P.str (tx (sh n q)))=Ad (ps.map (sh n)):=by show _=(ps.map (sh n)).map _;rw[map_map];rfl
theorem Kn:∀(n:Nat) {p:Iv.P},Ex n p->n<=5->A0 fns mt A1 (k + n) 29 [.p p]= .ok (.p (.str (tx (sh n p)))) [sP p]:=by
 intro n
 induction n with
 |zero=>intro p h _;cases h
 |succ n ih=>
   intro p h hn
   suffices e:∃y1 y2 y3 y4,execs (A0 fns mt A1 (k + n)) mt A1 eM [sP p,none,none,none,none]= .ok (.ret (.p (.str (tx (sh (n + 1) p))))) [sP p,y1,y2,y3,y4]by
    obtain⟨y1,y2,y3,y4,e⟩:=e;exact Ac dU rfl rfl e (by kernel_rfl)
   have app:∀(s l:List Nat) (ps:List Iv.P),l.length<=8->ps.length<=3->(∀q∈ps,Ex n q)->tx s≠Dt->tx s≠Cs->tx s≠As->∃y1 y2 y3 y4,execs (A0 fns mt A1 (k + n)) mt A1 eM [sP (.tup [.str (tx s),.str (tx l),.tup ps]),none,none,none,none]= .ok (.ret (.p (.str (tx (l++[40]++jn [44,32] (ps.map (sh n))++[41]))))) [sP (.tup [.str (tx s),.str (tx l),.tup ps]),y1,y2,y3,y4]:=by
    intro s l ps hl h3 hp n1 n2 n3
    have hs:∀x∈ps.map (sh n),x.length<=13750:=λx hx=>by
     obtain⟨q,hq,rfl⟩:=mem_map.mp hx;exact FQ (hp q hq) (by lia)
    have hm:ps.length*(13750+[44,32].length)<=3*13752:=Nat.mul_le_mul_right _ h3;have hj:=(BE (sep:=[44,32]) (m:=13750) (ls:=ps.map (sh n)) hs (by rw[lM];unfold big;lia)).1;have hjl:=Dc (sep:=[44,32]) hs;rw[lM]at hjl;have ht:A9 (A0 fns mt A1 (k+n)) mt [.prim .idx [.var 0,.cst (.int 2)]] [sP (.tup [.str (tx s),.str (tx l),.tup ps]),none,none,none,none]= .ok [.AI (.p (.tup ps))] [sP (.tup [.str (tx s),.str (tx l),.tup ps]),none,none,none,none]:=by simp! []
    have hb:=FJ (cf:=A0 fns mt A1 (k+n)) (mt:=mt) (elt:=.call 29 [.var 1]) (F:=λq=>.str (tx (sh n q))) ht rfl rfl rfl (by unfold big;lia) (λq hq=>Hy (ih (hp q hq) (by lia)));rw[Md]at hb;have a1:=AA (a:=l) (b:=[40]) (by unfold big;simp;lia);have a2:=AA (a:=l++[40]) (b:=jn [44,32] (ps.map (sh n))) (by unfold big;simp;lia);have a3:=AA (a:=l++[40]++jn [44,32] (ps.map (sh n))) (b:=[41]) (by unfold big;simp;lia);have m1:Fp (.str (tx s)) (.str Dt)=some false:=by rw[eq_str];simp[n1]
    have m2:Fp (.str (tx s)) (.str Cs)=some false:=by rw[eq_str];simp[n2]
    have m3:Fp (.str (tx s)) (.str As)=some false:=by rw[eq_str];simp[n3]
    refine⟨none,none,none,none,?_⟩;rw[JJ];generalize hX:l++[40]=X1 at a1 a2 a3 ⊢;generalize hJ:jn [44,32] (ps.map (sh n))=J at hj a2 a3 ⊢;generalize hS:Ad (ps.map (sh n))=tsx at hb hj;generalize hY:X1++J=X2 at a2 a3 ⊢;simp! [m1,m2,m3,a1,a2,a3,hj,↓hb]
   cases h with
   |num i hi=>
     refine⟨none,none,none,none,?_⟩;rw[GP,JJ];simp! [BZ,Ou hi]
   |O6 l hl=>
     refine⟨none,none,none,none,?_⟩;rw[GQ,JJ];simp! [BZ]
   |Hm l ps hl h3 hp=>
     obtain⟨c,r,e,h7,_⟩:=Bn hl;rw[CJ];exact app [102,111,114,109] l ps (by rw[e,lC];lia) h3 hp (by decide) (by decide) (by decide)
   |call l ps hl h3 hp=>
     rw[CJ];exact app [99,97,108,108] l ps (AZ hl).2.1 h3 hp (by decide) (by decide) (by decide)
   |case q as hq h1 h4 ha hp=>
     rw[EI hq.SO]
     have hs:∀x∈as.map (λa=>D2 a.1 a.2.1 (sh n a.2.2)),x.length<=13791:=λx hx=>by
      obtain⟨a,hm,rfl⟩:=mem_map.mp hx;have:=FQ (hp a hm) (by lia);have:=IU (t:=sh n a.2.2) (ha a hm).1 (ha a hm).2
      lia
     have hm:as.length*(13791+[59,32].length)<=4*13793:=Nat.mul_le_mul_right _ h4;have hj:=(BE (sep:=[59,32]) (m:=13791) hs (by rw[lM];unfold big;lia)).1;have hjl:=Dc (sep:=[59,32]) hs;rw[lM]at hjl;have hq2:=FQ hq (by lia);obtain⟨z2,z3,z4,ef⟩:=Gg (cf:=A0 fns mt A1 (k+n)) (n:=n) (p0:=some (.p (.tup [.str As,q,.tup (as.map λa=>AW a.1 a.2.1 a.2.2)]))) as [] none none none (λa hm=>⟨(ha a hm).1,(ha a hm).2,ih (hp a hm) (by lia),FQ (hp a hm) (by lia)⟩) (by simp;lia);rw[nil_append]at ef;generalize hP:as.map (λa=>AW a.1 a.2.1 a.2.2)=ps at ef ⊢;have hpl:ps.length=as.length:=by rw[<-hP,lM]
     have hd:∀y,ev (A0 fns mt A1 (k+n)) mt (.call 29 [.prim .idx [.var 0,.cst (.int 1)]]) [sP (.tup [.str As,q,.tup ps]),y,z2,z3,z4]= .ok (.p (.str (tx (sh n q)))) [sP (.tup [.str As,q,.tup ps]),y,z2,z3,z4]:=λy=>Fh (by simp! []) (ih hq (by lia))
     have a1:=AA (a:=[91]) (b:=sh n q) (by unfold big;simp;lia);have a2:=AA (a:=[91]++sh n q) (b:=[58,32]) (by unfold big;simp;lia);have a3:=AA (a:=[91]++sh n q++[58,32]) (b:=jn [59,32] (as.map λa=>D2 a.1 a.2.1 (sh n a.2.2))) (by unfold big;simp;lia);have a4:=AA (a:=[91]++sh n q++[58,32]++jn [59,32] (as.map λa=>D2 a.1 a.2.1 (sh n a.2.2))) (b:=[93]) (by unfold big;simp;lia);generalize hJ:jn [59,32] (as.map λa=>D2 a.1 a.2.1 (sh n a.2.2))=J at hj a3 a4 ⊢;generalize hX:[91]++sh n q=X1 at a1 a2 a3 a4 ⊢;generalize hY:X1++[58,32]=X2 at a2 a3 a4 ⊢;generalize hZ:X2++J=X3 at a3 a4 ⊢;generalize hS:Ad (as.map λa=>D2 a.1 a.2.1 (sh n a.2.2))=tsx at ef hj
     have hfor:exec (A0 fns mt A1 (k + n)) mt A1 (.CV (.tup [2,3,4]) .op [.prim .idx [.var 0,.cst (.int 2)]] RJ) [sP (.tup [.str As,q,.tup ps]),sL [],none,none,none]= .ok .nx [sP (.tup [.str As,q,.tup ps]),sL tsx,z2,z3,z4]:=by
      have ht:A9 (A0 fns mt A1 (k+n)) mt [.prim .idx [.var 0,.cst (.int 2)]] [sP (.tup [.str As,q,.tup ps]),sL [],none,none,none]= .ok [.AI (.p (.tup ps))] [sP (.tup [.str As,q,.tup ps]),sL [],none,none,none]:=by simp! []
      rw[Ju];show(if IK.op.ok=true then(A9 _ _ _ _).bind _ else _)=_;rw[iP (show IK.op.ok=true from rfl),ht,Res.A3];exact ef
     refine⟨some (.lst tsx),z2,z3,z4,?_⟩;rw[JJ];simp! [BZ,↓hfor,a1,a2,a3,a4,hj,↓hd]
end Lk51
namespace Iv
open PySem
variable{cf:CF}{mt:MT}
theorem Ya{f:Nat}{t:T}{y:Option C}(ha:A9 cf mt [t] ρ= .ok [.AI c] ρ)(e:cf f [c]= .ok z [y]):ev cf mt (.call f [t]) ρ= .ok z ρ:=by
 rw[Bp,ha];show AH cf f [.AI c] ρ=_;unfold AH;have hl:BH [.AI c] [c]=[]:=by unfold BH;cases hc:c.cp<;>simp[hc]
 have hg:AD [.AI c] [c]=true:=by unfold AD;simp
 rw[show Ai ρ [.AI c]=some [c]from rfl];dsimp only;rw[iP ⟨by rw[hl];exact .nil,hg⟩,e];dsimp only;unfold lend;rw[hl];rfl
end Iv
namespace Lk51
open Iv PySem
variable{k:Nat}
variable{ls:List (List Nat)}
theorem G8{m:Nat}{c:C}(hc:c= .lst (Ad ls)\/c= .p (.tup (Ad ls)))(h:∀l∈ls,l.length<=m)(hb:ls.length * (m + 2)<=99000):∃y,A0 fns mt A1 (k + 1) 19 [c]= .ok (.p (.str (tx ([40]++jn [44,32] ls++[41])))) [y]:=by
 obtain⟨j1,j2⟩:=BE (sep:=[44,32]) (m:=m) h (by unfold big;exact Nat.le_trans hb (by decide));have hl:=Dc (sep:=[44,32]) h;have hl:(jn [44,32] ls).length<=99000:=Nat.le_trans hl hb;have hj:G1 (tx [44,32]) c=some (.p (.str (tx (jn [44,32] ls)))):=by rcases hc with rfl|rfl;(· exact j1);(· exact j2)
 have a1:=AA (a:=[40]) (b:=jn [44,32] ls) (by unfold big;simp;lia);have a2:=AA (a:=[40]++jn [44,32] ls) (b:=[41]) (by unfold big;simp;lia);refine⟨some c,?_⟩;generalize hJ:jn [44,32] ls=J at hj a1 a2 ⊢;generalize hX:[40]++J=X1 at a1 a2 ⊢
 have e:execs (A0 fns mt A1 k) mt A1 gV [some c]= .ok (.ret (.p (.str (tx (X1++[41]))))) [some c]:=by
  unfold gV;simp! [hj,a1,a2]
 exact Ac e8 rfl rfl e (by kernel_rfl)
theorem K7{l t:List Nat}(h:ED l=true)(hn:Ld ls)(hc:A0 fns mt A1 (k + 1) 21 [.p q]= .ok (.p (.str (tx t))) [sP q])(ht:t.length<=13750):A0 fns mt A1 (k + 2) 20 [.p (AW l ls q)]= .ok (.p (.str (tx (D2 l ls t)))) [sP (AW l ls q)]:=by
 obtain⟨c,r,e,h7,_⟩:=Bn h;have hl:l.length<=8:=by rw[e,lC];lia
 have hjl:=J2 hn;obtain⟨y,hb⟩:=G8 (k:=k) (c:=.p (.tup (Ad ls))) (.inr rfl) (λx hx=>(hn.nm x hx).2.2) (by have:=hn.len;have:ls.length*(8+2)<=3*10:=Nat.mul_le_mul_right _ this;lia);have h1:ev (A0 fns mt A1 (k+1)) mt (.call 19 [.prim .idx [.var 0,.cst (.int 1)]]) [sP (AW l ls q)]= .ok (.p (.str (tx ([40]++jn [44,32] ls++[41])))) [sP (AW l ls q)]:=Ya (by unfold AW;simp! []) hb;have h2:ev (A0 fns mt A1 (k+1)) mt (.call 21 [.prim .idx [.var 0,.cst (.int 2)]]) [sP (AW l ls q)]= .ok (.p (.str (tx t))) [sP (AW l ls q)]:=Ya (by unfold AW;simp! []) hc;have a1:=AA (a:=l) (b:=[40]++jn [44,32] ls++[41]) (by unfold big;simp;lia);have a2:=AA (a:=l++([40]++jn [44,32] ls++[41])) (b:=[32]) (by unfold big;simp;lia);have a3:=AA (a:=l++([40]++jn [44,32] ls++[41])++[32]) (b:=t) (by unfold big;simp;lia);have hx:D2 l ls t=l++([40]++jn [44,32] ls++[41])++[32]++t:=by unfold D2;simp
 rw[hx];unfold AW at h1 h2 ⊢;generalize hB:[40]++jn [44,32] ls++[41]=B1 at h1 a1 a2 a3 ⊢;generalize hX:l++B1=X1 at a1 a2 a3 ⊢;generalize hY:X1++[32]=X2 at a2 a3 ⊢
 have e:execs (A0 fns mt A1 (k + 1)) mt A1 gU [sP (.tup [.str (tx l),.tup (Ad ls),q])]= .ok (.ret (.p (.str (tx (X2++t))))) [sP (.tup [.str (tx l),.tup (Ad ls),q])]:=by
  unfold gU;simp! [↓h1,↓h2,a1,a2,a3]
 exact Ac e7 rfl rfl e (by kernel_rfl)
theorem S0:∀(n k:Nat) {p:Iv.P},Ex n p->n<=5->A0 fns mt A1 (k + (2 * n + 1)) 21 [.p p]= .ok (.p (.str (tx (sh n p)))) [sP p]:=by
 intro n
 induction n with
 |zero=>intro k p h _;cases h
 |succ n ih=>
   intro k p h hn;have hlev:k+(2*(n+1)+1)=(k+2*n)+2+1:=by lia
   rw[hlev]
   suffices e:∃y1,execs (A0 fns mt A1 ((k + 2 * n) + 2)) mt A1 YA [sP p,none]= .ok (.ret (.p (.str (tx (sh (n + 1) p))))) [sP p,y1]by
    obtain⟨y1,e⟩:=e;exact Ac e6 rfl rfl e (by kernel_rfl)
   have up:∀{q:Iv.P},Ex n q->A0 fns mt A1 ((k + 2 * n) + 2) 21 [.p q]= .ok (.p (.str (tx (sh n q)))) [sP q]:=λ{q} hq=>by
    have:=ih (k+1) hq (by lia);rw[show k+1+(2*n+1)=(k+2*n)+2 by lia]at this;exact this
   have dn:∀{q:Iv.P},Ex n q->A0 fns mt A1 ((k + 2 * n) + 1) 21 [.p q]= .ok (.p (.str (tx (sh n q)))) [sP q]:=λ{q} hq=>by
    have:=ih k hq (by lia);rw[show k+(2*n+1)=(k+2*n)+1 by lia]at this;exact this
   generalize hK:k+2*n=K at up dn ⊢
   have app:∀(s l:List Nat) (ps:List Iv.P),l.length<=8->ps.length<=3->(∀q∈ps,Ex n q)->tx s≠Dt->tx s≠Cs->tx s≠As->∃y1,execs (A0 fns mt A1 (K + 2)) mt A1 YA [sP (.tup [.str (tx s),.str (tx l),.tup ps]),none]= .ok (.ret (.p (.str (tx (l++[40]++jn [44,32] (ps.map (sh n))++[41]))))) [sP (.tup [.str (tx s),.str (tx l),.tup ps]),y1]:=by
    intro s l ps hl h3 hp n1 n2 n3
    have hs:∀x∈ps.map (sh n),x.length<=13750:=λx hx=>by
     obtain⟨q,hq,rfl⟩:=mem_map.mp hx;exact FQ (hp q hq) (by lia)
    have hm:ps.length*(13750+2)<=3*13752:=Nat.mul_le_mul_right _ h3;have hjl:=Dc (sep:=[44,32]) hs;rw[lM]at hjl;have hjl:(jn [44,32] (ps.map (sh n))).length<=ps.length*(13750+2):=hjl;obtain⟨y,hbr⟩:=G8 (k:=K+1) (c:=.lst (Ad (ps.map (sh n)))) (.inl rfl) hs (by rw[lM];lia);have ht:A9 (A0 fns mt A1 (K+2)) mt [.prim .idx [.var 0,.cst (.int 2)]] [sP (.tup [.str (tx s),.str (tx l),.tup ps]),none]= .ok [.AI (.p (.tup ps))] [sP (.tup [.str (tx s),.str (tx l),.tup ps]),none]:=by simp! []
    have hb:=FJ (cf:=A0 fns mt A1 (K+2)) (mt:=mt) (elt:=.call 21 [.var 1]) (F:=λq=>.str (tx (sh n q))) ht rfl rfl rfl (by unfold big;lia) (λq hq=>Hy (up (hp q hq)));rw[Md]at hb;have hc:ev (A0 fns mt A1 (K+2)) mt (.call 19 [.comp (.nm 1) .op [.prim .idx [.var 0,.cst (.int 2)]] [] (.call 21 [.var 1]) [none,none]]) [sP (.tup [.str (tx s),.str (tx l),.tup ps]),none]= .ok (.p (.str (tx ([40]++jn [44,32] (ps.map (sh n))++[41])))) [sP (.tup [.str (tx s),.str (tx l),.tup ps]),none]:=Ya (by rw[Bh,CZ,hb];rfl) hbr;have a1:=AA (a:=l) (b:=[40]++jn [44,32] (ps.map (sh n))++[41]) (by unfold big;simp;lia);have m1:Fp (.str (tx s)) (.str Dt)=some false:=by rw[eq_str];simp[n1]
    have m2:Fp (.str (tx s)) (.str Cs)=some false:=by rw[eq_str];simp[n2]
    have m3:Fp (.str (tx s)) (.str As)=some false:=by rw[eq_str];simp[n3]
    have hx:l++[40]++jn [44,32] (ps.map (sh n))++[41]=l++([40]++jn [44,32] (ps.map (sh n))++[41]):=by simp
    rw[hx];refine⟨none,?_⟩;generalize hB:[40]++jn [44,32] (ps.map (sh n))++[41]=B1 at hc a1 ⊢;unfold YA;simp! [m1,m2,m3,a1,↓hc]
   cases h with
   |num i hi=>
     have hc:ev (A0 fns mt A1 (K+2)) mt (.call 18 [.prim .idx [.var 0,.cst (.int 1)]]) [sP (.tup [.str Dt,.int i]),none]= .ok (.p (.str (tx (HK i)))) [sP (.tup [.str Dt,.int i]),none]:=Fh (by simp! []) (GO (k:=K) hi);refine⟨none,?_⟩;rw[GP];unfold YA;simp! [BZ,↓hc]
   |O6 l hl=>
     refine⟨none,?_⟩;rw[GQ];unfold YA;simp! [BZ]
   |Hm l ps hl h3 hp=>
     obtain⟨c,r,e,h7,_⟩:=Bn hl;rw[CJ];exact app [102,111,114,109] l ps (by rw[e,lC];lia) h3 hp (by decide) (by decide) (by decide)
   |call l ps hl h3 hp=>
     rw[CJ];exact app [99,97,108,108] l ps (AZ hl).2.1 h3 hp (by decide) (by decide) (by decide)
   |case q as hq h1 h4 ha hp=>
     rw[EI hq.SO]
     have hs:∀x∈as.map (λa=>D2 a.1 a.2.1 (sh n a.2.2)),x.length<=13791:=λx hx=>by
      obtain⟨a,hm,rfl⟩:=mem_map.mp hx;have:=FQ (hp a hm) (by lia);have:=IU (t:=sh n a.2.2) (ha a hm).1 (ha a hm).2
      lia
     have hm:as.length*(13791+[59,32].length)<=4*13793:=Nat.mul_le_mul_right _ h4;have hj:=(BE (sep:=[59,32]) (m:=13791) hs (by rw[lM];unfold big;lia)).1;have hjl:=Dc (sep:=[59,32]) hs;rw[lM]at hjl;have hq2:=FQ hq (by lia);generalize hP:as.map (λa=>AW a.1 a.2.1 a.2.2)=ps;have hpl:ps.length=as.length:=by rw[<-hP,lM]
     have ht:A9 (A0 fns mt A1 (K+2)) mt [.prim .idx [.var 0,.cst (.int 2)]] [sP (.tup [.str As,q,.tup ps]),none]= .ok [.AI (.p (.tup ps))] [sP (.tup [.str As,q,.tup ps]),none]:=by simp! []
     have hb:=FJ (cf:=A0 fns mt A1 (K + 2)) (mt:=mt) (elt:=.call 20 [.var 1]) (F:=λx=>match x with
      |.tup [.str f,.tup ns,x]=>.str (tx (D2 f.cps.toList (ns.map λy=>match y with| .str z=>z.cps.toList|_=>[]) (sh n x)))
      |x=>x) ht rfl rfl rfl (by unfold big;lia) (λx hx=>by
      rw[<-hP]at hx;obtain⟨a,hm,rfl⟩:=mem_map.mp hx;have:=K7 (k:=K) (ha a hm).1 (ha a hm).2 (dn (hp a hm)) (FQ (hp a hm) (by lia));have e2:(a.2.1.map λl=>Iv.P.str (tx l)).map (λy=>match y with| .str z=>z.cps.toList|_=>[])=a.2.1:=by rw[map_map];exact map_id'' (λl=>rfl) a.2.1
      refine(Hy this).trans ?_;show Res.ok (C.p (.str (tx (D2 a.1 a.2.1 (sh n a.2.2))))) _=Res.ok (C.p (.str (tx (D2 a.1 ((a.2.1.map λl=>Iv.P.str (tx l)).map (λy=>match y with| .str z=>z.cps.toList|_=>[])) (sh n a.2.2))))) _
      rw[e2])
     have hmm:ps.map (λx=>match x with
      |.tup [.str f,.tup ns,x]=>.str (tx (D2 f.cps.toList (ns.map λy=>match y with| .str z=>z.cps.toList|_=>[]) (sh n x)))
      |x=>x)=Ad (as.map λa=>D2 a.1 a.2.1 (sh n a.2.2)):=by
      show _=(as.map λa=>D2 a.1 a.2.1 (sh n a.2.2)).map _;rw[<-hP,map_map,map_map];refine map_congr_left λa _=>?_
      have e2:(a.2.1.map λl=>Iv.P.str (tx l)).map (λy=>match y with| .str z=>z.cps.toList|_=>[])=a.2.1:=by rw[map_map];exact map_id'' (λl=>rfl) a.2.1
      show Iv.P.str (tx (D2 a.1 ((a.2.1.map λl=>Iv.P.str (tx l)).map (λy=>match y with| .str z=>z.cps.toList|_=>[])) (sh n a.2.2)))=_;rw[e2];rfl
     rw[hmm]at hb;have hd:∀y,ev (A0 fns mt A1 (K+2)) mt (.call 21 [.prim .idx [.var 0,.cst (.int 1)]]) [sP (.tup [.str As,q,.tup ps]),y]= .ok (.p (.str (tx (sh n q)))) [sP (.tup [.str As,q,.tup ps]),y]:=λy=>Fh (by simp! []) (up hq)
     have a1:=AA (a:=[91]) (b:=sh n q) (by unfold big;simp;lia);have a2:=AA (a:=[91]++sh n q) (b:=[58,32]) (by unfold big;simp;lia);have a3:=AA (a:=[91]++sh n q++[58,32]) (b:=jn [59,32] (as.map λa=>D2 a.1 a.2.1 (sh n a.2.2))) (by unfold big;simp;lia);have a4:=AA (a:=[91]++sh n q++[58,32]++jn [59,32] (as.map λa=>D2 a.1 a.2.1 (sh n a.2.2))) (b:=[93]) (by unfold big;simp;lia);generalize hJ:jn [59,32] (as.map λa=>D2 a.1 a.2.1 (sh n a.2.2))=J at hj a3 a4 ⊢;generalize hX:[91]++sh n q=X1 at a1 a2 a3 a4 ⊢;generalize hY:X1++[58,32]=X2 at a2 a3 a4 ⊢;generalize hZ:X2++J=X3 at a3 a4 ⊢;generalize hS:Ad (as.map λa=>D2 a.1 a.2.1 (sh n a.2.2))=tsx at hb hj;refine⟨some (.p (.str (tx J))),?_⟩;unfold YA;simp! [BZ,a1,a2,a3,a4,hj,↓hb,↓hd]
variable{c:Nat}{a r:List Nat}
abbrev St(c:Nat)(a r:List Nat):C:=.obj c (rd (tx (a++r)) a.length)
theorem Vf{s:List Nat}:Zb (.p (.str (tx (a++r)))) (.p (.str (tx s))) (.p (.int a.length))=some (.p (.bl (decide (r.take s.length=s)))):=by
 show(if(0:Int)<=(a.length:Int)/\(a.length:Int)<=((tx (a++r)).length:Nat)then some (C.p (.bl (decide (((tx (a++r)).cps.toList.drop (a.length:Int).toNat).take (tx s).length=(tx s).cps.toList))))else none)=_;rw[iP ⟨by lia,by rw[B6,lA];lia⟩,B6];show some (C.p (.bl (decide (((a++r).drop a.length).take s.length=s))))=_;rw[List.drop_left]
theorem R1{s:List Nat}:C.obj c (rd (tx (a++(s++r))) ((a.length:Int) + (tx s).length))=St c (a++s) r:=by
 have h1:a++(s++r)=a++s++r:=by simp
 have h2:(a.length:Int)+(tx s).length=((a++s).length:Nat):=by rw[B6,lA];lia
 rw[h1,h2]
theorem Gh(hc:c % 1000=2){s:List Nat}(hs:s.length<=1000):A0 fns mt A1 (k + 1) 34 [St c a (s++r),.p (.str (tx s))]= .ok (.p (.bl true)) [some (St c (a++s) r),sP (.str (tx s))]:=by
 have h:=JY (k:=k) hc (x:=tx (a++(s++r))) (y:=tx s) (n:=a.length) (b:=true) (by rw[Vf,List.take_left,decide_eq_true rfl]) (by rw[B6];unfold big;lia);rw[iP rfl,R1]at h;exact h
theorem Gi(hc:c % 1000=2){s:List Nat}(hs:s.length<=1000)(hn:r.take s.length≠s):A0 fns mt A1 (k + 1) 34 [St c a r,.p (.str (tx s))]= .ok (.p (.bl false)) [some (St c a r),sP (.str (tx s))]:=
 JY (k:=k) hc (b:=false) (by rw[Vf,dF hn]) (by rw[B6];unfold big;lia)
variable{ch:Nat}
theorem EG(h:∀d r',r=d::r'->d≠ch):r.take 1≠[ch]:=by
 cases r with
 |nil=>intro z;cases z
 |cons d r'=>intro z;have:=h d r' rfl;simp at z;exact this z
theorem CG(hc:c%1000=2):mt.m c ⟨#[116,97,107,101,115]⟩=some 34:=En hc (by kernel_rfl)
theorem ET(hc:c%1000=2):mt.m c ⟨#[105,115,95,98,101,102,111,114,101]⟩=some 33:=En hc (by kernel_rfl)
theorem My(hc:c%1000=2):mt.m c ⟨#[116,97,107,101,95,97,108,108]⟩=some 37:=En hc (by kernel_rfl)
theorem Fw(hc:c%1000=2):mt.m c ⟨#[109,117,115,116,95,116,97,107,101]⟩=some 35:=En hc (by kernel_rfl)
theorem DN(hc:c % 1000=2){s:List Nat}(hs:s.length<=1000):A0 fns mt A1 (k + 2) 35 [St c a (s++r),.p (.str (tx s))]= .ok (.p .Az) [some (St c (a++s) r),sP (.str (tx s))]:=by
 have h1:=Kl (cf:=A0 fns mt A1 (k+1)) (mt:=mt) (r:=[]) (CG hc) rfl (Gh (k:=k) (a:=a) (r:=r) hc hs)
 have e:execs (A0 fns mt A1 (k + 1)) mt A1 gL [some (St c a (s++r)),sP (.str (tx s))]= .ok .nx [some (St c (a++s) r),sP (.str (tx s))]:=by
  unfold gL;simp! [↓h1]
 exact Pl cb rfl rfl e (by kernel_rfl)
theorem Kj(hb:a.length<=big):A0 fns mt A1 (k + 1) 36 [St c a []]= .ok (.p .Az) [some (St c a [])]:=by
 have hl:=Ep (l:=a++[]) (by simpa using hb);have e0:(a++[]).length=a.length:=by simp
 rw[e0]at hl
 have e:execs (A0 fns mt A1 k) mt A1 gK [some (St c a [])]= .ok .nx [some (St c a [])]:=by
  unfold gK St;generalize tx (a++[])=x at hl ⊢;simp! [LV,KD,hl,eq_int]
 exact Pl c9 rfl rfl e (by kernel_rfl)
def ahead(pred:Nat->Bool):List Nat->Bool
 |[]=>false
 |ch::_=>pred ch
variable{pred:Nat->Bool}
theorem DV{f:Nat}(hf:f < 32)(hp:∀ch,A0 fns mt A1 (k + 1) f [.p (sign ch)]= .ok (.p (.bl (pred ch))) [sP (sign ch)])(hb:a.length + r.length<=70000):A0 fns mt A1 (k + 2) 33 [St c a r,.p (.fn f)]= .ok (.p (.bl (ahead pred r))) [some (St c a r),sP (.fn f)]:=by
 have hbl:(a++r).length<=big:=by rw[lA];unfold big;lia
 have hl:=Ep hbl;rw[lA]at hl
 have e:execs (A0 fns mt A1 (k + 1)) mt A1 gM [some (St c a r),sP (.fn f)]= .ok (.ret (.p (.bl (ahead pred r)))) [some (St c a r),sP (.fn f)]:=by
  unfold gM St;cases r with
  |nil=>
    have h0:¬(a.length:Int) < ((a.length+([]:List Nat).length:Nat):Int):=by simp
    generalize tx (a++[])=x at hl ⊢;show _=Res.ok (Fl.ret (.p (.bl false))) _;simp! [LV,KD,hl,h0,Cr]
  |cons ch r'=>
    have h0:(a.length:Int) < ((a.length+(ch::r').length:Nat):Int):=by rw[lC];lia
    have hi:=Tt (l:=a++ch::r') (k:=a.length) (c:=ch) (by rw[List.getElem?_append_right (lR)];simp) hbl;have htf:mt.tf f=true:=decide_eq_true hf;show _=Res.ok (Fl.ret (.p (.bl (pred ch)))) _;generalize hX:tx (a++ch::r')=x at hl hi ⊢;have ha:A9 (A0 fns mt A1 (k+1)) mt [.prim .idx [.fld 0 ⟨#[116,101,120,116]⟩,.fld 0 ⟨#[97,116]⟩]] [some (.obj c (rd x a.length)),sP (.fn f)]= .ok [.AI (.p (sign ch))] [some (.obj c (rd x a.length)),sP (.fn f)]:=by simp! [LV,KD,hi]
    have hap:ev (A0 fns mt A1 (k + 1)) mt (.Ew 1 [.prim .idx [.fld 0 ⟨#[116,101,120,116]⟩,.fld 0 ⟨#[97,116]⟩]]) [some (.obj c (rd x a.length)),sP (.fn f)]= .ok (.p (.bl (pred ch))) [some (.obj c (rd x a.length)),sP (.fn f)]:=by
     rw[L6,Ze];show(if mt.tf f=true then(A9 _ _ _ _).bind _ else _)=_;rw[iP htf,ha,Res.A3];exact C2 (hs:=[.AI (.p (sign ch))]) (cs:=[.p (sign ch)]) rfl (λc hc=>by rw[mE hc];rfl) (hp ch) rfl
    generalize a.length+(ch::r').length=m at hl h0;simp! [LV,KD,hl,h0,Cr,↓hap]
 exact Ac cg rfl rfl e (by kernel_rfl)
def dq:List S:=[.GR 0 ⟨#[97,116]⟩ (.prim .add [.fld 0 ⟨#[97,116]⟩,.cst (.int 1)])]
def Ve:T:=.Ag ⟨#[105,115,95,98,101,102,111,114,101]⟩ (.var 0) [.var 1]
theorem Yx:gJ=[.asg (.nm 2) (.fld 0 ⟨#[97,116]⟩),.JU Ve dq,.ret (some (.prim (.D4 true true) [.fld 0 ⟨#[116,101,120,116]⟩,.var 2,.fld 0 ⟨#[97,116]⟩]))]:=rfl
theorem YL:C.obj c (rd (tx (a++ch::r)) ((a.length:Int) + 1))=St c (a++[ch]) r:=by
 have h:=R1 (c:=c) (a:=a) (r:=r) (s:=[ch]);rw[B6]at h;exact h
theorem L4{f:Nat}{y:Option C}(hc:c % 1000=2)(hf:f < 32)(hp:∀ch,A0 fns mt A1 (k + 1) f [.p (sign ch)]= .ok (.p (.bl (pred ch))) [sP (sign ch)])(hr:ahead pred r=false):∀(w a:List Nat),(∀ch∈w,pred ch=true)->a.length + (w++r).length<=70000->
 A1 (tv (A0 fns mt A1 (k+2)) mt Ve) (execs (A0 fns mt A1 (k+2)) mt A1 dq) [some (St c a (w++r)),sP (.fn f),y]= .ok .nx [some (St c (a++w) r),sP (.fn f),y]
 | [],a,_,hb=>by
   have h:=DV (k:=k) (c:=c) (a:=a) (r:=r) hf hp hb;rw[hr]at h;have h1:ev (A0 fns mt A1 (k+2)) mt Ve [some (St c a r),sP (.fn f),y]=_:=Kl (ET hc) rfl h;rw[append_nil];show A1 _ _ [some (St c a r),sP (.fn f),y]=_;rw[Bs]
   have h2:tv (A0 fns mt A1 (k + 2)) mt Ve [some (St c a r),sP (.fn f),y]= .ok false [some (St c a r),sP (.fn f),y]:=by
    unfold Ve at h1 ⊢;rw[M8,h1];rfl
   rw[h2];rfl
 | ch::w,a,hw,hb=>by
   have h:=DV (k:=k) (c:=c) (a:=a) (r:=ch::w++r) hf hp hb;have e0:ahead pred (ch::w++r)=true:=hw ch mS;rw[e0]at h;have h1:ev (A0 fns mt A1 (k+2)) mt Ve [some (St c a (ch::w++r)),sP (.fn f),y]=_:=Kl (ET hc) rfl h
   have h2:tv (A0 fns mt A1 (k + 2)) mt Ve [some (St c a (ch::w++r)),sP (.fn f),y]= .ok true [some (St c a (ch::w++r)),sP (.fn f),y]:=by
    unfold Ve at h1 ⊢;rw[M8,h1];rfl
   have h3:execs (A0 fns mt A1 (k + 2)) mt A1 dq [some (St c a (ch::w++r)),sP (.fn f),y]= .ok .nx [some (St c (a++[ch]) (w++r)),sP (.fn f),y]:=by
    rw[<-YL];show execs _ _ _ _ [some (.obj c (rd (tx (a++ch::(w++r))) a.length)),sP (.fn f),y]=_;generalize tx (a++ch::(w++r))=x;unfold dq;simp! [KD,Vi hc,Fm]
   rw[Bs,h2,Res.A3,iP rfl,h3,Res.A3];have ih:=L4 (y:=y) hc hf hp hr w (a++[ch]) (λd hd=>hw d (mC hd)) (by rw[lA,lS];rw[cons_append,lC]at hb;lia);rw[append_assoc]at ih;exact ih
theorem U3{w:List Nat}(hb:(a++w++r).length<=big):D3 (.b (.p (.str (tx (a++w++r))))) (some (a.length:Int)) (some ((a++w).length:Nat))=some (.p (.str (tx w))):=by
 show(CI (tx (a++w++r)) (some (a.length:Int)) (some ((a++w).length:Nat))).map _=_;unfold CI;dsimp only;rw[iP ⟨by lia,by rw[lA];lia,by rw[B6,show(a++w++r).length=(a++w).length+r.length from lA];lia,by rw[B6];exact hb⟩];show some (C.p (.str ⟨(((a++w++r).drop a.length).take ((((a++w).length:Nat):Int)-(a.length:Int)).toNat).toArray⟩))=_;have h1:((((a++w).length:Nat):Int)-(a.length:Int)).toNat=w.length:=by rw[lA];lia
 rw[h1,append_assoc,List.drop_left,List.take_left]
theorem QY{f:Nat}{w:List Nat}(hc:c % 1000=2)(hf:f < 32)(hp:∀ch,A0 fns mt A1 (k + 1) f [.p (sign ch)]= .ok (.p (.bl (pred ch))) [sP (sign ch)])(hr:ahead pred r=false)(hw:∀ch∈w,pred ch=true)(hb:a.length + (w++r).length<=70000):
 A0 fns mt A1 (k+3) 37 [St c a (w++r),.p (.fn f)]= .ok (.p (.str (tx w))) [some (St c (a++w) r),sP (.fn f)]:=by
 have h1:=L4 (k:=k) (y:=some (.p (.int a.length))) hc hf hp hr w a hw hb;have h2:=U3 (a:=a) (w:=w) (r:=r) (by rw[append_assoc,lA];unfold big;lia)
 have e:execs (A0 fns mt A1 (k + 2)) mt A1 gJ [some (St c a (w++r)),sP (.fn f),none]= .ok (.ret (.p (.str (tx w)))) [some (St c (a++w) r),sP (.fn f),sP (.int a.length)]:=by
  rw[Yx];have e1:exec (A0 fns mt A1 (k+2)) mt A1 (.asg (.nm 2) (.fld 0 ⟨#[97,116]⟩)) [some (St c a (w++r)),sP (.fn f),none]= .ok .nx [some (St c a (w++r)),sP (.fn f),sP (.int a.length)]:=rfl
  have e2:exec (A0 fns mt A1 (k + 2)) mt A1 (.ret (some (.prim (.D4 true true) [.fld 0 ⟨#[116,101,120,116]⟩,.var 2,.fld 0 ⟨#[97,116]⟩]))) [some (St c (a++w) r),sP (.fn f),sP (.int a.length)]= .ok (.ret (.p (.str (tx w)))) [some (St c (a++w) r),sP (.fn f),sP (.int a.length)]:=by
   show exec _ _ _ _ [some (.obj c (rd (tx (a++w++r)) ((a++w).length:Nat))),sP (.fn f),sP (.int a.length)]= .ok _ [some (.obj c (rd (tx (a++w++r)) ((a++w).length:Nat))),sP (.fn f),sP (.int a.length)];generalize hX:tx (a++w++r)=x at h2 ⊢;generalize (a++w).length=m at h2 ⊢;simp! [LV,KD,h2]
  rw[BG,e1,Fo,BG,Gx,h1,Fo,BG,e2];rfl
 exact Ac c8 rfl rfl e (by kernel_rfl)
theorem Eo{w:List Nat}(hc:c % 1000=2)(hr:ahead Ie r=false)(hw:∀ch∈w,Ie ch=true)(hb:a.length + (w++r).length<=70000):
 A0 fns mt A1 (k+3) 37 [St c a (w++r),.p (.fn 14)]= .ok (.p (.str (tx w))) [some (St c (a++w) r),sP (.fn 14)]:=QY hc (by decide) (λch=>Jp) hr hw hb
theorem LW{w:List Nat}(hc:c % 1000=2)(hr:ahead Im r=false)(hw:∀ch∈w,Im ch=true)(hb:a.length + (w++r).length<=70000):
 A0 fns mt A1 (k+3) 37 [St c a (w++r),.p (.fn 15)]= .ok (.p (.str (tx w))) [some (St c (a++w) r),sP (.fn 15)]:=QY hc (by decide) (λch=>Dd) hr hw hb
theorem SS{w:List Nat}(hc:c % 1000=2)(hr:ahead Ie r=false)(hw:Lx w=true)(hb:a.length + (w++r).length<=70000):A0 fns mt A1 (k + 4) 38 [St c a (w++r)]= .ok (.p (.str (tx w))) [some (St c (a++w) r)]:=by
 obtain⟨_,h8,hlow,h7⟩:=AZ hw;have h1:=D9 (cf:=A0 fns mt A1 (k+3)) (mt:=mt) (r:=[none]) (My hc) rfl (Eo (k:=k) (a:=a) hc hr (λch hch=>by unfold Ie;rw[hlow ch hch];rfl) hb);have h2:=Hy (cf:=A0 fns mt A1 (k+3)) (mt:=mt) (a:=some (St c (a++w) r)) (r:=[]) (BQ (k:=k+2) (l:=w) h7 (by unfold big;lia));rw[hw]at h2
 have e:execs (A0 fns mt A1 (k + 3)) mt A1 gI [some (St c a (w++r)),none]= .ok (.ret (.p (.str (tx w)))) [some (St c (a++w) r),sP (.str (tx w))]:=by
  unfold gI;simp! [↓h1,↓h2]
 exact Ac c7 rfl rfl e (by kernel_rfl)
theorem Jt{w:List Nat}(hc:c % 1000=2)(hr:ahead Ie r=false)(hw:ED w=true)(hb:a.length + (w++r).length<=70000):A0 fns mt A1 (k + 4) 39 [St c a (w++r)]= .ok (.p (.str (tx w))) [some (St c (a++w) r)]:=by
 obtain⟨d,s,e0,h8,hcap,hlow,h7⟩:=Bn hw
 have hlt:∀ch∈w,Ie ch=true:=λch hch=>by
  rw[e0]at hch;unfold Ie;rcases mK hch with z|z
  .rw[z,hcap];simp
  .rw[hlow ch z];rfl
 have h1:=D9 (cf:=A0 fns mt A1 (k+3)) (mt:=mt) (r:=[none]) (My hc) rfl (Eo (k:=k) (a:=a) hc hr hlt hb);have h2:=Hy (cf:=A0 fns mt A1 (k+3)) (mt:=mt) (a:=some (St c (a++w) r)) (r:=[]) (BR (k:=k+2) (l:=w) h7 (by rw[e0,lC];lia));rw[hw]at h2
 have e:execs (A0 fns mt A1 (k + 3)) mt A1 gH [some (St c a (w++r)),none]= .ok (.ret (.p (.str (tx w)))) [some (St c (a++w) r),sP (.str (tx w))]:=by
  unfold gH;simp! [↓h1,↓h2]
 exact Ac bZ rfl rfl e (by kernel_rfl)
variable{n:Nat}
theorem I8(hc:c % 1000=2)(hn:n < 10 ^ 60)(hr:ahead Im r=false)(hb:a.length + (dg n++r).length<=70000):A0 fns mt A1 (k + 4) 40 [St c a (dg n++r)]= .ok (.p (.int n)) [some (St c (a++dg n) r)]:=by
 obtain⟨d,s,e0,hz⟩:=Jx n;have hl:=Jw (by decide) hn;have hall:=LY n;have h1:=D9 (cf:=A0 fns mt A1 (k+3)) (mt:=mt) (r:=[none]) (My hc) rfl (LW (k:=k) (a:=a) hc hr (λch hch=>by have:=hall ch hch;unfold Im;simp;lia) hb);have hlen:=Ep (l:=dg n) (by unfold big;lia);have hi:=Tt (l:=dg n) (k:=0) (c:=d) (by rw[e0];rfl) (by unfold big;lia);have hi:CL (.b (.p (.str (tx (dg n))))) (.b (.p (.int 0)))=some (.p (.str (tx [d]))):=hi
 have hint:PZ (.b (.p (.str (tx (dg n)))))=some (.p (.int n)):=by
  show(if((dg n).toArray.toList.all (λc=>decide (48<=c/\c<=57)) && decide (0 < (tx (dg n)).length/\(tx (dg n)).length<=640))=true then some (C.p (.int (G3 (dg n).toArray.toList:Nat)))else none)=_
  rw[B6,iP (by
    rw[bA]
    refine⟨all_eq_true.mpr λc hc=>decide_eq_true (hall c hc),decide_eq_true ⟨by rw[e0,lC];lia,by lia⟩⟩)]
  show some (C.p (.int (G3 (dg n):Nat)))=_;rw[Y0]
 have g1:¬((dg n).length:Int) < 1:=by rw[e0,lC];lia
 have g2:¬(60:Int) < ((dg n).length:Nat):=by lia
 have m1:Fp (.str (tx [d])) (.str (tx [48]))=some (decide (d=48)):=by
  rw[BZ];exact congrArg some (decide_eq_decide.mpr (by simp))
 have e:execs (A0 fns mt A1 (k + 3)) mt A1 gG [some (St c a (dg n++r)),none]= .ok (.ret (.p (.int n))) [some (St c (a++dg n) r),sP (.str (tx (dg n)))]:=by
  unfold gG
  by_cases hd:d=48
  .obtain⟨_,hs⟩:=hz hd;rw[decide_eq_true hd]at m1;have g3:¬(1:Int) < ((dg n).length:Nat):=by rw[e0,hs];simp
   generalize (dg n).length=m at hlen g1 g2 g3;generalize tx (dg n)=x at h1 hlen hi hint ⊢;simp! [↓h1,hlen,g1,g2,g3,hi,m1,hint]
  .rw[dF hd]at m1;generalize (dg n).length=m at hlen g1 g2;generalize tx (dg n)=x at h1 hlen hi hint ⊢;simp! [↓h1,hlen,g1,g2,hi,m1,hint]
 exact Ac bY rfl rfl e (by kernel_rfl)
theorem QN(hc:c % 1000=2)(hn:n < 10 ^ 60)(h0:0 < n)(hr:ahead Im r=false)(hb:a.length + (dg n++r).length<=70000):A0 fns mt A1 (k + 5) 45 [St c a (dg n++r)]= .ok (.p (.int (-(n:Int)))) [some (St c (a++dg n) r)]:=by
 have hm:mt.m c ⟨#[110,117,109,98,101,114]⟩=some 40:=En hc (by kernel_rfl);have h1:=Pz (cf:=A0 fns mt A1 (k+4)) (mt:=mt) (r:=[none]) hm rfl (I8 (k:=k) (a:=a) hc hn hr hb);have m1:Fp (.int (n:Int)) (.int 0)=some false:=by rw[eq_int];exact congrArg some (dF (by lia))
 have e:execs (A0 fns mt A1 (k + 4)) mt A1 gE [some (St c a (dg n++r)),none]= .ok (.ret (.p (.int (-(n:Int))))) [some (St c (a++dg n) r),sP (.int n)]:=by
  unfold gE;simp! [↓h1,m1]
 exact Ac bV rfl rfl e (by kernel_rfl)
end Lk51
namespace Iv
open PySem
variable{cf:CF}{mt:MT}
def JF(n:Nat):List C:=match n / 1048576 with
 |0=>[]
 |v+1=>[.p (.int v)]
def NU(n:Nat):List (Option C):=(JF n).map some
variable{n:Nat}
theorem QA(h:n/1048576=0):JF n=[]/\JD n=[]:=by unfold JF JD;rw[h];exact⟨rfl,rfl⟩
theorem Qz{v:Nat}(h:n/1048576=v+1):JF n=[.p (.int v)]/\JD n=[.AI (.p (.int v))]:=by unfold JF JD;rw[h];exact⟨rfl,rfl⟩
theorem cW{c:Nat}{fs:List (Str×B)}{r:Env}(hn:Cg<=n)(hc:1000<=c)(e:cf (Fg n) (.obj c fs::JF n)= .ok z (some o::NU n)):ev cf mt (.Dl 1) (some (.obj c fs)::some (.p (.fn n))::r)= .ok z (some o::some (.p (.fn n))::r):=by
 rw[KI,Ze,Zf];dsimp only;rw[iN (by lia)];unfold AH;cases hm:n/1048576 with
 |zero=>
   obtain⟨h1,h2⟩:=QA hm;unfold NU at e;rw[h1]at e;rw[h2,show Ai (some (.obj c fs)::some (.p (.fn n))::r) [.slot 0]=some [.obj c fs]from rfl];dsimp only;rw[iP ⟨by show([0]:List Nat).Nodup;decide,rfl⟩,e];rfl
 |succ v=>
   obtain⟨h1,h2⟩:=Qz hm;unfold NU at e;rw[h1]at e;rw[h2,show Ai (some (.obj c fs)::some (.p (.fn n))::r) [.slot 0,.AI (.p (.int v))]=some [.obj c fs,.p (.int v)]from rfl];dsimp only;rw[iP ⟨by show([0]:List Nat).Nodup;decide,rfl⟩,e];rfl
end Iv
namespace Lk51
open Iv PySem
variable{k c:Nat}{a r:List Nat}
def G9(r:List Nat):Prop:=∀ch r',r=ch::r'->ch=44\/ch=41\/ch=58\/ch=59\/ch=93
theorem G9.Ie{r:List Nat}(h:G9 r):ahead Ie r=false:=by
 cases r with
 |nil=>rfl
 |cons ch r'=>rcases h ch r' rfl with z|z|z|z|z<;>(rw[z];rfl)
theorem G9.Im{r:List Nat}(h:G9 r):ahead Im r=false:=by
 cases r with
 |nil=>rfl
 |cons ch r'=>rcases h ch r' rfl with z|z|z|z|z<;>(rw[z];rfl)
theorem G9.of{ch:Nat}{r:List Nat}(h:ch=44\/ch=41\/ch=58\/ch=59\/ch=93):G9 (ch::r):=λd r' e=>by cases e;exact h
noncomputable def V3:List S:=[.ifs (.prim .eq [.prim .len [.var 2],.cst (.int 3)]) [.raise 1 (.cst (.Az))] [],.ifs (.var 2) [.expr (.Ag ⟨#[109,117,115,116,95,116,97,107,101]⟩ (.var 0) [.cst (.str ⟨#[44,32]⟩)])] [],.expr (.ES .append (.var 2) [.Dl 1])]
def Vd:T:=.not (.Ag ⟨#[116,97,107,101,115]⟩ (.var 0) [.cst (.str ⟨#[41]⟩)])
theorem Yw:gF=[.asg (.nm 2) (.lst []),.JU Vd V3,.ret (some (.prim (.tuple .op) [.var 2]))]:=rfl
def GC(its:List (Iv.P×List Nat)):List Nat:=(its.map λi=>[44,32]++i.2).flatten
def Zo(cf:CF)(c n:Nat)(i:Iv.P×List Nat):Prop:=i.2≠[]/\(∀d t',i.2=d::t'->d≠41)/\∀a r',G9 r'->a.length+(i.2++r').length<=70000->cf (Fg n) (St c a (i.2++r')::JF n)= .ok (.p i.1) (some (St c (a++i.2) r')::NU n)
variable{n:Nat}
theorem ZM{y:Option C}(hc:c % 1000=2):tv (A0 fns mt A1 (k + 2)) mt Vd [some (St c a (41::r)),sP (.fn n),y]= .ok false [some (St c (a++[41]) r),sP (.fn n),y]:=by
 have h:=D9 (cf:=A0 fns mt A1 (k+2)) (mt:=mt) (r:=[sP (.fn n),y]) (CG hc) rfl (Gh (k:=k+1) (a:=a) (r:=r) (s:=[41]) hc (by decide));unfold Vd;rw[Fn,M8];show Ti (Zd (ev _ _ _ [some (St c a ([41]++r)),sP (.fn n),y]))=_;rw[h];rfl
theorem Vc{y:Option C}(hc:c % 1000=2)(hr:∀d r',r=d::r'->d≠41):tv (A0 fns mt A1 (k + 2)) mt Vd [some (St c a r),sP (.fn n),y]= .ok true [some (St c a r),sP (.fn n),y]:=by
 have h:=D9 (cf:=A0 fns mt A1 (k+2)) (mt:=mt) (r:=[sP (.fn n),y]) (CG hc) rfl (Gi (k:=k+1) (a:=a) (r:=r) (s:=[41]) hc (by decide) (EG hr));unfold Vd;rw[Fn,M8,h];rfl
theorem MF{ps:List Iv.P}(hc:c % 1000=2):A1 (tv (A0 fns mt A1 (k + 2)) mt Vd) (execs (A0 fns mt A1 (k + 2)) mt A1 V3) [some (St c a (41::r)),sP (.fn n),sL ps]= .ok .nx [some (St c (a++[41]) r),sP (.fn n),sL ps]:=by
 rw[Bs,ZM hc];rfl
theorem Qg{i:Iv.P×List Nat}{ps:List Iv.P}(hc:c % 1000=2)(hc2:1000<=c)(hn:Cg<=n)(hi:Zo (A0 fns mt A1 (k + 2)) c n i)(hr:G9 r)(hl:ps.length < 3)(hb:a.length + (i.2++r).length<=70000)(hp:ps=[]):
 execs (A0 fns mt A1 (k+2)) mt A1 V3 [some (St c a (i.2++r)),sP (.fn n),sL ps]= .ok .nx [some (St c (a++i.2) r),sP (.fn n),sL (ps++[i.1])]:=by
 subst hp;have h1:=cW (mt:=mt) (r:=[sL []]) hn hc2 (hi.2.2 a r hr hb);have h0:(0:Nat) < big:=by unfold big;lia
 unfold V3;simp! [eq_int,↓h1,Cf,h0]
theorem NP{i:Iv.P×List Nat}{p:Iv.P}{ps:List Iv.P}(hc:c % 1000=2)(hc2:1000<=c)(hn:Cg<=n)(hi:Zo (A0 fns mt A1 (k + 2)) c n i)(hr:G9 r)(hl:(p::ps).length < 3)(hb:a.length + ([44,32]++(i.2++r)).length<=70000):
 execs (A0 fns mt A1 (k+2)) mt A1 V3 [some (St c a ([44,32]++(i.2++r))),sP (.fn n),sL (p::ps)]= .ok .nx [some (St c (a++[44,32]++i.2) r),sP (.fn n),sL ((p::ps)++[i.1])]:=by
 have h2:=D9 (cf:=A0 fns mt A1 (k+2)) (mt:=mt) (r:=[sP (.fn n),sL (p::ps)]) (Fw hc) rfl (DN (k:=k) (a:=a) (r:=i.2++r) (s:=[44,32]) hc (by decide));have h1:=cW (mt:=mt) (r:=[sL (p::ps)]) hn hc2 (hi.2.2 (a++[44,32]) r hr (by rw[lA]at hb ⊢;lia));have h0:ps.length+1 < big:=by rw[lC]at hl;unfold big;lia
 have h3:Fp (.int ((ps.length:Int)+1)) (.int 3)=some false:=by rw[eq_int];rw[lC]at hl;exact congrArg some (dF (by lia))
 unfold V3;unfold St at h1 h2 ⊢;generalize rd (tx (a++([44,32]++(i.2++r)))) (a.length:Int)=f0 at h2 ⊢;generalize rd (tx (a++[44,32]++(i.2++r))) ((a++[44,32]).length:Int)=f1 at h1 h2 ⊢;generalize rd (tx (a++[44,32]++i.2++r)) ((a++[44,32]++i.2).length:Int)=f2 at h1 ⊢;simp! [h3,↓h2,↓h1,Cf,h0]
theorem KG(hc:c % 1000=2)(hc2:1000<=c)(hn:Cg<=n):∀(its:List (Iv.P×List Nat)) (p:Iv.P) (ps:List Iv.P) (a:List Nat),(∀i∈its,Zo (A0 fns mt A1 (k + 2)) c n i)->(p::ps).length + its.length<=3->a.length + (GC its++41::r).length<=70000->
 A1 (tv (A0 fns mt A1 (k+2)) mt Vd) (execs (A0 fns mt A1 (k+2)) mt A1 V3) [some (St c a (GC its++41::r)),sP (.fn n),sL (p::ps)]= .ok .nx [some (St c (a++GC its++[41]) r),sP (.fn n),sL ((p::ps)++its.map (·.1))]
 | [],p,ps,a,_,_,_=>by
   rw[map_nil,append_nil,show GC []=[]from rfl,append_nil];exact MF hc
 | i ::its,p,ps,a,h,hl,hb=>by
   have e0:GC (i::its)++41::r=[44,32]++(i.2++(GC its++41::r)):=by unfold GC;simp
   have e1:a++GC (i::its)++[41]=a++[44,32]++i.2++GC its++[41]:=by unfold GC;simp
   rw[e0]at hb ⊢;rw[e1];rw[show(i::its).length=its.length+1 from lC]at hl
   have hf:G9 (GC its++41::r):=by
    cases its with
    |nil=>exact G9.of (.inr (.inl rfl))
    |cons j js=>
      have e9:GC (j::js)++41::r=44::(32::(j.2++(GC js++41::r))):=by unfold GC;simp
      rw[e9];exact G9.of (.inl rfl)
   rw[Bs,Vc hc (λd r' z=>by cases z;decide),Res.A3,iP rfl,NP hc hc2 hn (h i mS) hf (by lia) hb,Res.A3];have ih:=KG hc hc2 hn its p (ps++[i.1]) (a++[44,32]++i.2) (λj hj=>h j (mC hj)) (by rw[lC,lA,lS];rw[lC]at hl;lia) (by simp only[lA,lC,length_nil]at hb ⊢;lia);have e2:(p::(ps++[i.1]))++its.map (·.1)=(p::ps)++(i::its).map (·.1):=by simp
   rw[e2]at ih;exact ih
theorem Qh{its:List (Iv.P×List Nat)}(hc:c % 1000=2)(hc2:1000<=c)(hn:Cg<=n)(h:∀i∈its,Zo (A0 fns mt A1 (k + 2)) c n i)(hl:its.length<=3)(hb:a.length + (jn [44,32] (its.map (·.2))++41::r).length<=70000):
 A0 fns mt A1 (k+3) 41 [St c a (jn [44,32] (its.map (·.2))++41::r),.p (.fn n)]= .ok (.p (.tup (its.map (·.1)))) [some (St c (a++jn [44,32] (its.map (·.2))++[41]) r),sP (.fn n)]:=by
 have w:A1 (tv (A0 fns mt A1 (k + 2)) mt Vd) (execs (A0 fns mt A1 (k + 2)) mt A1 V3) [some (St c a (jn [44,32] (its.map (·.2))++41::r)),sP (.fn n),sL []]= .ok .nx [some (St c (a++jn [44,32] (its.map (·.2))++[41]) r),sP (.fn n),sL (its.map (·.1))]:=by
  cases its with
  |nil=>
    show A1 _ _ [some (St c a (41::r)),sP (.fn n),sL []]= .ok .nx [some (St c (a++[]++[41]) r),sP (.fn n),sL []];rw[append_nil];exact MF hc
  |cons i its=>
    obtain⟨g1,g2,g3⟩:=h i mS;have e0:jn [44,32] ((i::its).map (·.2))=i.2++GC its:=by unfold GC jn;rw[map_cons];show i.2++(List.map _ (List.map _ its)).flatten=_;rw[map_map];rfl
    rw[e0,append_assoc]at hb ⊢;rw[lC]at hl
    have hf:G9 (GC its++41::r):=by
     cases its with
     |nil=>exact G9.of (.inr (.inl rfl))
     |cons j js=>
       have e9:GC (j::js)++41::r=44::(32::(j.2++(GC js++41::r))):=by unfold GC;simp
       rw[e9];exact G9.of (.inl rfl)
    have hd:∀d r',i.2++(GC its++41::r)=d::r'->d≠41:=λd r' z=>by
     cases hi:i.2 with
     |nil=>exact absurd hi g1
     |cons e9 t'=>rw[hi]at z;cases z;exact g2 _ t' hi
    rw[Bs,Vc hc hd,Res.A3,iP rfl,Qg hc hc2 hn ⟨g1,g2,g3⟩ hf (by decide) hb rfl,Res.A3];have:=KG (k:=k) (r:=r) hc hc2 hn its i.1 [] (a++i.2) (λj hj=>h j (mC hj)) (by show 1+its.length<=3;lia) (by simp only[lA]at hb ⊢;lia);have e3:a++(i.2++GC its)++[41]=a++i.2++GC its++[41]:=by simp
    rw[e3];exact this
 have e:execs (A0 fns mt A1 (k + 2)) mt A1 gF [some (St c a (jn [44,32] (its.map (·.2))++41::r)),sP (.fn n),none]= .ok (.ret (.p (.tup (its.map (·.1))))) [some (St c (a++jn [44,32] (its.map (·.2))++[41]) r),sP (.fn n),sL (its.map (·.1))]:=by
  rw[Yw,BG];show jS _ _ _ (.ok .nx [some (St c a (jn [44,32] (its.map (·.2))++41::r)),sP (.fn n),sL []])=_;rw[Fo,BG,Gx,w,Fo];generalize its.map (·.1)=ps;generalize St c (a++jn [44,32] (its.map (·.2))++[41]) r=o;simp! []
 exact Ac bX rfl rfl e (by kernel_rfl)
end Lk51
namespace Iv
open PySem
variable{cf:CF}{mt:MT}
theorem Vn{l c f:Nat}{C7 cv:Option Nat}{fs fs':List (Str×B)}{r:Env}{rest:List (Option C)}(hcap:KR (some (.obj c fs)::r) C7=some cv)(hl:fs.lookup m=none)(hm:mt.m c m=some f)(hp:BD fs=true)(e:cf f [.obj (tag c) fs,.p (.fn (Ff l cv))]= .ok (.p x) (some (.obj (tag c) fs')::rest))(hx:noFn x=true)(hp':BD fs'=true):
 ev cf mt (.CD m 0 l C7) (some (.obj c fs)::r)= .ok (.p x) (some (.obj c fs')::r):=by
 rw[KH];unfold He;rw[Zf,hcap];dsimp only;rw[hl,hm];dsimp only;rw[iP hp,e];dsimp only;rw[iP ⟨rfl,hx,hp'⟩];rfl
end Iv
namespace Lk51
open Iv PySem
variable{k c:Nat}{a r:List Nat}
theorem Oj{c:Nat}(hc:c % 1000=2):tag c % 1000=2/\1000<=tag c:=by
 unfold tag;split
 .refine⟨?_,?_⟩<;>lia
 .exact⟨hc,by lia⟩
theorem CU:∀{ps:List Iv.P},(∀q∈ps,noFn q=true)->Dx ps=true
 |[],_=>rfl
 | p::ps,h=>by
   show(noFn p && Dx ps)=true;rw[h p mS,CU λq hq=>h q (mC hq)];rfl
theorem Ib(ls:List (List Nat)):Dx (Ad ls)=true:=CU λq hq=>by
 obtain⟨l,_,rfl⟩:=mem_map.mp hq;rfl
theorem Ex.noFn:∀{n:Nat} {p:Iv.P},Ex n p->Iv.noFn p=true
 |_,_,.num i h=>rfl
 |_,_,.O6 l h=>rfl
 | _,_,.Hm l ps h h3 hp=>by
   show(true && (true && (Dx ps && true)))=true;rw[CU λq hq=>Ex.noFn (hp q hq)];rfl
 | _,_,.call l ps h h3 hp=>by
   show(true && (true && (Dx ps && true)))=true;rw[CU λq hq=>Ex.noFn (hp q hq)];rfl
 | _,_,.case q as hq h1 h4 ha hp=>by
   show(true && (Iv.noFn q && (Dx (as.map λa=>AW a.1 a.2.1 a.2.2) && true)))=true
   rw[Ex.noFn hq,CU λx hx=>by
     obtain⟨a,hm,rfl⟩:=mem_map.mp hx;show(true && (Dx (Ad a.2.1) && (Iv.noFn a.2.2 && true)))=true;rw[Ib,Ex.noFn (hp a hm)]
     rfl]
   rfl
def MV(k n:Nat):Prop:=∀(p:Iv.P),Ex n p->∀(c above:Nat) (a r:List Nat),c % 1000=2->above + n<=12->G9 r->a.length + (sh n p++r).length<=70000->
 A0 fns mt A1 k 44 [St c a (sh n p++r),.p (.int above)]= .ok (.p p) [some (St c (a++sh n p) r),sP (.int above)]
variable{n:Nat}
theorem S1(h:Ex n p):∃ch t,sh n p=ch::t/\ch≠41:=by
 cases h with
 |num i hi=>
   rw[GP];unfold HK;split
   .exact⟨45,_,rfl,by decide⟩
   .obtain⟨d,s,e,_⟩:=Jx i.natAbs;have:=LY i.natAbs d (by rw[e];exact mS);exact⟨d,s,e,by lia⟩
 |O6 l hl=>
   rw[GQ];obtain⟨h1,_,hlow,_⟩:=AZ hl;cases l with
   |nil=>simp at h1
   |cons d s=>
     have:=hlow d mS;unfold low at this;simp at this;exact⟨d,s,rfl,by lia⟩
 |Hm l ps hl h3 hp=>
   obtain⟨d,s,e,_,hcap,_⟩:=Bn hl;unfold C7 at hcap;simp at hcap;exact⟨d,_,by rw[CJ,e];rfl,by lia⟩
 |call l ps hl h3 hp=>
   obtain⟨h1,_,hlow,_⟩:=AZ hl;cases l with
   |nil=>simp at h1
   |cons d s=>
     have:=hlow d mS;unfold low at this;simp at this;exact⟨d,_,by rw[CJ];rfl,by lia⟩
 |case q as hq h1 h4 ha hp=>exact⟨91,_,by rw[EI hq.SO];rfl,by decide⟩
theorem LC(hc:c%1000=2):mt.m c ⟨#[101,120,112,114,101,115,115,105,111,110]⟩=some 44:=En hc (by kernel_rfl)
theorem Vp(hc:c%1000=2):mt.m c ⟨#[102,101,119]⟩=some 41:=En hc (by kernel_rfl)
theorem Xo(hc:c%1000=2):mt.m c ⟨#[110,97,109,101]⟩=some 38:=En hc (by kernel_rfl)
theorem Tf{above:Nat}(ih:MV (k + 1) n)(hp:Ex n p)(hc:c % 1000=2)(ha:above + 1 + n<=12)(hr:G9 r)(hb:a.length + (sh n p++r).length<=70000):
 A0 fns mt A1 (k+2) 49 [St c a (sh n p++r),.p (.int above)]= .ok (.p p) [some (St c (a++sh n p) r),sP (.int above)]:=by
 have h:=ih p hp c (above+1) a r hc ha hr hb
 have h1:ev (A0 fns mt A1 (k + 1)) mt (.Ag ⟨#[101,120,112,114,101,115,115,105,111,110]⟩ (.var 0) [.prim .add [.var 1,.cst (.int 1)]]) [some (St c a (sh n p++r)),sP (.int above)]= .ok (.p p) [some (St c (a++sh n p) r),sP (.int above)]:=
  SY (h:=.AI (.p (.int ((above + 1:Nat):Int)))) (LC hc) rfl (by
   generalize rd (tx (a++(sh n p++r))) (a.length:Int)=f0
   simp! []) rfl h
 have e:execs (A0 fns mt A1 (k + 1)) mt A1 gA [some (St c a (sh n p++r)),sP (.int above)]= .ok (.ret (.p p)) [some (St c (a++sh n p) r),sP (.int above)]:=by
  unfold gA;rw[BG,Gy,h1];rfl
 exact Ac iY rfl rfl e (by kernel_rfl)
theorem Te{w:List Nat}(hc:c % 1000=2)(hr:G9 r)(hw:Lx w=true)(hb:a.length + (w++r).length<=70000):A0 fns mt A1 (k + 5) 50 [St c a (w++r)]= .ok (.p (.str (tx w))) [some (St c (a++w) r)]:=by
 have h1:=Pz (cf:=A0 fns mt A1 (k+4)) (mt:=mt) (r:=[]) (Xo hc) rfl (SS (k:=k) (a:=a) hc hr.Ie hw hb)
 have e:execs (A0 fns mt A1 (k + 4)) mt A1 gz [some (St c a (w++r))]= .ok (.ret (.p (.str (tx w)))) [some (St c (a++w) r)]:=by
  unfold gz;rw[BG,Gy,h1];rfl
 exact Ac iX rfl rfl e (by kernel_rfl)
theorem Uc{l:Nat}(h:l < 1000):JF (Ff l none)=[]:=(QA (by rw[JC];lia)).1
theorem Ub{l v:Nat}(h:l < 1000):JF (Ff l (some v))=[.p (.int v)]:=(Qz (by rw[JB];lia)).1
theorem MU{above:Nat}{ps:List Iv.P}(ih:MV (k + 1) n)(hc:c % 1000=2)(ha:above + 1 + n<=12)(hp:∀q∈ps,Ex n q)(h3:ps.length<=3)(hb:a.length + (jn [44,32] (ps.map (sh n))++41::r).length<=70000):
 A0 fns mt A1 (k+4) 46 [St c a (jn [44,32] (ps.map (sh n))++41::r),.p (.int above)]= .ok (.p (.tup ps)) [some (St c (a++jn [44,32] (ps.map (sh n))++[41]) r),sP (.int above)]:=by
 obtain⟨t1,t2⟩:=Oj hc
 have hits:∀i∈ps.map (λq=>(q,sh n q)),Zo (A0 fns mt A1 (k + 2)) (tag c) (Ff 49 (some above)) i:=λi hi=>by
  obtain⟨q,hq,rfl⟩:=mem_map.mp hi;obtain⟨ch,t,e0,hch⟩:=S1 (hp q hq);refine⟨by show sh n q≠[];rw[e0];exact nofun,λd t' z=>by have z:sh n q=d::t':=z;rw[e0]at z;cases z;exact hch,λa' r' hf hb'=>?_⟩;unfold NU;rw[Qw (by decide),Ub (by decide)];exact Tf ih (hp q hq) t1 ha hf hb'
 have e0:(ps.map λq=>(q,sh n q)).map (·.2)=ps.map (sh n):=by rw[map_map];rfl
 have e1:(ps.map λq=>(q,sh n q)).map (·.1)=ps:=by rw[map_map];exact map_id'' (λ_=>rfl) ps
 have hf:=Qh (k:=k) (a:=a) (r:=r) (its:=ps.map λq=>(q,sh n q)) t1 t2 (Qx _) hits (by rw[lM];exact h3) (by rw[e0];exact hb);rw[e0,e1]at hf;have hx:noFn (.tup ps)=true:=CU λq hq=>(hp q hq).noFn
 have hcap:KR [some (St c a (jn [44,32] (ps.map (sh n))++41::r)),sP (.int above)] (some 1)=some (some above):=by
  show(if 0<=(above:Int)/\(above:Int) < 1000 then some (some (above:Int).toNat)else none)=_;rw[iP (by lia)];rfl
 have h1:ev (A0 fns mt A1 (k+3)) mt (.CD ⟨#[102,101,119]⟩ 0 49 (some 1)) [some (St c a (jn [44,32] (ps.map (sh n))++41::r)),sP (.int above)]= .ok (.p (.tup ps)) [some (St c (a++jn [44,32] (ps.map (sh n))++[41]) r),sP (.int above)]:=Vn hcap rfl (Vp hc) rfl hf hx rfl
 have e:execs (A0 fns mt A1 (k + 3)) mt A1 gD [some (St c a (jn [44,32] (ps.map (sh n))++41::r)),sP (.int above)]= .ok (.ret (.p (.tup ps))) [some (St c (a++jn [44,32] (ps.map (sh n))++[41]) r),sP (.int above)]:=by
  unfold gD;rw[BG,Gy,h1];rfl
 exact Ac bU rfl rfl e (by kernel_rfl)
variable{ls:List (List Nat)}
theorem Pr{y:Iv.Env}(hc:c % 1000=2)(hn:Ld ls)(hb:a.length + (jn [44,32] ls++41::r).length<=70000):
 ev (A0 fns mt A1 (k+6)) mt (.CD ⟨#[102,101,119]⟩ 0 50 none) (some (St c a (jn [44,32] ls++41::r))::y)= .ok (.p (.tup (Ad ls))) (some (St c (a++jn [44,32] ls++[41]) r)::y):=by
 obtain⟨t1,t2⟩:=Oj hc
 have hits:∀i∈ls.map (λl=>(Iv.P.str (tx l),l)),Zo (A0 fns mt A1 (k + 5)) (tag c) (Ff 50 none) i:=λi hi=>by
  obtain⟨l,hl,rfl⟩:=mem_map.mp hi;obtain⟨n1,_,_⟩:=hn.nm l hl;obtain⟨l1,_,hlow,_⟩:=AZ n1;refine⟨λz=>by have z:l=[]:=z;rw[z]at l1;simp at l1,λd t' z=>?_,λa' r' hf hb'=>?_⟩
  .have z:l=d::t':=z;have:=hlow d (by rw[z];exact mS);unfold low at this;simp at this
   lia
  .unfold NU;rw[Qw (by decide),Uc (by decide)];exact Te (k:=k) t1 hf n1 hb'
 have e0:(ls.map λl=>(Iv.P.str (tx l),l)).map (·.2)=ls:=by rw[map_map];exact map_id'' (λ_=>rfl) ls
 have e1:(ls.map λl=>(Iv.P.str (tx l),l)).map (·.1)=Ad ls:=by rw[map_map];rfl
 have hf:=Qh (k:=k+3) (a:=a) (r:=r) (its:=ls.map λl=>(Iv.P.str (tx l),l)) t1 t2 (Qx _) hits (by rw[lM];exact hn.len) (by rw[e0];exact hb);rw[e0,e1]at hf;exact Vn (cv:=none) rfl rfl (Vp hc) rfl hf (Ib ls) rfl
theorem Vq(hc:c%1000=2):mt.m c ⟨#[97,114,109]⟩=some 48:=En hc (by kernel_rfl)
theorem T2(hc:c%1000=2):mt.m c ⟨#[102,111,114,109,95,110,97,109,101]⟩=some 39:=En hc (by kernel_rfl)
theorem MG{above:Nat}{y:Iv.Env}(ih:MV k n)(hp:Ex n p)(hc:c % 1000=2)(ha:above + 1 + n<=12)(hr:G9 r)(hb:a.length + (sh n p++r).length<=70000):
 ev (A0 fns mt A1 k) mt (.Ag ⟨#[101,120,112,114,101,115,115,105,111,110]⟩ (.var 0) [.prim .add [.var 1,.cst (.int 1)]]) (some (St c a (sh n p++r))::some (.p (.int above))::y)= .ok (.p p) (some (St c (a++sh n p) r)::some (.p (.int above))::y):=
 SY (h:=.AI (.p (.int ((above + 1:Nat):Int)))) (LC hc) rfl (by
  generalize rd (tx (a++(sh n p++r))) (a.length:Int)=f0
  simp! []) rfl (ih p hp c (above+1) a r hc ha hr hb)
theorem QT{above:Nat}{l:List Nat}(ih:MV (k + 6) n)(hl:ED l=true)(hn:Ld ls)(hp:Ex n q)(hc:c % 1000=2)(ha:above + 1 + n<=12)(hr:G9 r)(hb:a.length + (D2 l ls (sh n q)++r).length<=70000):
 A0 fns mt A1 (k+7) 48 [St c a (D2 l ls (sh n q)++r),.p (.int above)]= .ok (.p (AW l ls q)) [some (St c (a++D2 l ls (sh n q)) r),sP (.int above)]:=by
 have e0:D2 l ls (sh n q)++r=l++([40]++(jn [44,32] ls++41::([32]++(sh n q++r)))):=by unfold D2;simp
 have e1:a++D2 l ls (sh n q)=a++l++[40]++jn [44,32] ls++[41]++[32]++sh n q:=by unfold D2;simp
 rw[e0]at hb ⊢;rw[e1];simp only[lA,lC,length_nil]at hb
 have s1:ev (A0 fns mt A1 (k + 6)) mt (.Ag ⟨#[102,111,114,109,95,110,97,109,101]⟩ (.var 0) []) [some (St c a (l++([40]++(jn [44,32] ls++41::([32]++(sh n q++r)))))),sP (.int above),none,none]= .ok (.p (.str (tx l))) [some (St c (a++l) ([40]++(jn [44,32] ls++41::([32]++(sh n q++r))))),sP (.int above),none,none]:=
  Pz (T2 hc) rfl (Jt (k:=k+2) hc rfl hl (by simp only[lA,lC,length_nil];lia))
 have s2:ev (A0 fns mt A1 (k + 6)) mt (.Ag ⟨#[109,117,115,116,95,116,97,107,101]⟩ (.var 0) [.cst (.str (tx [40]))]) [some (St c (a++l) ([40]++(jn [44,32] ls++41::([32]++(sh n q++r))))),sP (.int above),sP (.str (tx l)),none]= .ok (.p .Az) [some (St c (a++l++[40]) (jn [44,32] ls++41::([32]++(sh n q++r)))),sP (.int above),sP (.str (tx l)),none]:=
  D9 (Fw hc) rfl (DN (k:=k+4) hc (by decide))
 have s3:=Pr (k:=k) (c:=c) (a:=a++l++[40]) (r:=[32]++(sh n q++r)) (y:=[sP (.int above),sP (.str (tx l)),none]) hc hn (by simp only[lA,lC,length_nil];lia);have s4:∀o,ev (A0 fns mt A1 (k+6)) mt (.call 7 [.var 3]) [o,sP (.int above),sP (.str (tx l)),sP (.tup (Ad ls))]= .ok (.p (.bl true)) [o,sP (.int above),sP (.str (tx l)),sP (.tup (Ad ls))]:=λo=>Gf (h:=.slot 3) rfl rfl (F6 (k:=k+3) hn)
 have s5:ev (A0 fns mt A1 (k + 6)) mt (.Ag ⟨#[109,117,115,116,95,116,97,107,101]⟩ (.var 0) [.cst (.str (tx [32]))]) [some (St c (a++l++[40]++jn [44,32] ls++[41]) ([32]++(sh n q++r))),sP (.int above),sP (.str (tx l)),sP (.tup (Ad ls))]= .ok (.p .Az) [some (St c (a++l++[40]++jn [44,32] ls++[41]++[32]) (sh n q++r)),sP (.int above),sP (.str (tx l)),sP (.tup (Ad ls))]:=
  D9 (Fw hc) rfl (DN (k:=k+4) hc (by decide))
 have s6:=MG (k:=k+6) (a:=a++l++[40]++jn [44,32] ls++[41]++[32]) (y:=[sP (.str (tx l)),sP (.tup (Ad ls))]) ih hp hc ha hr (by simp only[lA,lC,length_nil];lia);generalize St c a (l++([40]++(jn [44,32] ls++41::([32]++(sh n q++r)))))=o0 at s1 ⊢;generalize St c (a++l) ([40]++(jn [44,32] ls++41::([32]++(sh n q++r))))=o1 at s1 s2;generalize St c (a++l++[40]) (jn [44,32] ls++41::([32]++(sh n q++r)))=o2 at s2 s3;generalize St c (a++l++[40]++jn [44,32] ls++[41]) ([32]++(sh n q++r))=o3 at s3 s5;generalize St c (a++l++[40]++jn [44,32] ls++[41]++[32]) (sh n q++r)=o4 at s5 s6;generalize St c (a++l++[40]++jn [44,32] ls++[41]++[32]++sh n q) r=o5 at s6 ⊢
 have e:execs (A0 fns mt A1 (k + 6)) mt A1 gB [some o0,sP (.int above),none,none]= .ok (.ret (.p (AW l ls q))) [some o5,sP (.int above),sP (.str (tx l)),sP (.tup (Ad ls))]:=by
  unfold gB AW;simp! [↓s1,↓s2,↓s3,↓s4,↓s5,↓s6]
 exact Ac bS rfl rfl e (by kernel_rfl)
noncomputable def Zs:List S:=[.ifs (.prim .eq [.prim .len [.var 3],.cst (.int 4)]) [.raise 1 (.cst (.Az))] [],.expr (.Ag ⟨#[109,117,115,116,95,116,97,107,101]⟩ (.var 0) [.cst (.str ⟨#[59,32]⟩)]),.expr (.ES .append (.var 3) [.Ag ⟨#[97,114,109]⟩ (.var 0) [.var 1]])]
def W7:T:=.not (.Ag ⟨#[116,97,107,101,115]⟩ (.var 0) [.cst (.str ⟨#[93]⟩)])
theorem Yv:gC=[.asg (.nm 2) (.Ag ⟨#[101,120,112,114,101,115,115,105,111,110]⟩ (.var 0) [.prim .add [.var 1,.cst (.int 1)]]),.expr (.Ag ⟨#[109,117,115,116,95,116,97,107,101]⟩ (.var 0) [.cst (.str ⟨#[58,32]⟩)]),.asg (.nm 3) (.lst [.Ag ⟨#[97,114,109]⟩ (.var 0) [.var 1]]),.JU W7 Zs,.ret (some (.tup [.cst (.str ⟨#[99,97,115,101]⟩),.var 2,.prim (.tuple .op) [.var 3]]))]:=rfl
abbrev Za:=List Nat×List (List Nat)×Iv.P
def AN(n:Nat)(x:Za):List Nat:=D2 x.1 x.2.1 (sh n x.2.2)
def CY(x:Za):Iv.P:=AW x.1 x.2.1 x.2.2
def EC(n:Nat)(as:List Za):List Nat:=(as.map λx=>[59,32]++AN n x).flatten
variable{y1 y2 y3:Option C}
theorem ZK(hc:c % 1000=2):tv (A0 fns mt A1 (k + 7)) mt W7 [some (St c a (93::r)),y1,y2,y3]= .ok false [some (St c (a++[93]) r),y1,y2,y3]:=by
 have h:=D9 (cf:=A0 fns mt A1 (k+7)) (mt:=mt) (r:=[y1,y2,y3]) (CG hc) rfl (Gh (k:=k+6) (a:=a) (r:=r) (s:=[93]) hc (by decide));unfold W7;rw[Fn,M8];show Ti (Zd (ev _ _ _ [some (St c a ([93]++r)),y1,y2,y3]))=_;rw[h];rfl
theorem ZL(hc:c % 1000=2)(hr:∀d r',r=d::r'->d≠93):tv (A0 fns mt A1 (k + 7)) mt W7 [some (St c a r),y1,y2,y3]= .ok true [some (St c a r),y1,y2,y3]:=by
 have h:=D9 (cf:=A0 fns mt A1 (k+7)) (mt:=mt) (r:=[y1,y2,y3]) (CG hc) rfl (Gi (k:=k+6) (a:=a) (r:=r) (s:=[93]) hc (by decide) (EG hr));unfold W7;rw[Fn,M8,h];rfl
theorem bN{as:List Za}:G9 (EC n as++93::r):=by
 cases as with
 |nil=>exact G9.of (.inr (.inr (.inr (.inr rfl))))
 |cons j js=>
   have e9:EC n (j::js)++93::r=59::(32::(AN n j++(EC n js++93::r))):=by unfold EC;simp
   rw[e9];exact G9.of (.inr (.inr (.inr (.inl rfl))))
theorem NT{above:Nat}{x:Za}{ps:List Iv.P}(ih:MV (k + 6) n)(hx:(ED x.1=true/\Ld x.2.1)/\Ex n x.2.2)(hc:c % 1000=2)(ha:above + 1 + n<=12)(hr:G9 r)(hl:ps.length < 4)(hb:a.length + ([59,32]++(AN n x++r)).length<=70000):
 execs (A0 fns mt A1 (k+7)) mt A1 Zs [some (St c a ([59,32]++(AN n x++r))),sP (.int above),y2,sL ps]= .ok .nx [some (St c (a++[59,32]++AN n x) r),sP (.int above),y2,sL (ps++[CY x])]:=by
 simp only[lA,lC,length_nil]at hb;have s1:ev (A0 fns mt A1 (k+7)) mt (.Ag ⟨#[109,117,115,116,95,116,97,107,101]⟩ (.var 0) [.cst (.str (tx [59,32]))]) [some (St c a ([59,32]++(AN n x++r))),sP (.int above),y2,sL ps]= .ok (.p .Az) [some (St c (a++[59,32]) (AN n x++r)),sP (.int above),y2,sL ps]:=D9 (Fw hc) rfl (DN (k:=k+5) hc (by decide))
 have s2:ev (A0 fns mt A1 (k + 7)) mt (.Ag ⟨#[97,114,109]⟩ (.var 0) [.var 1]) [some (St c (a++[59,32]) (AN n x++r)),sP (.int above),y2,sL ps]= .ok (.p (CY x)) [some (St c (a++[59,32]++AN n x) r),sP (.int above),y2,sL ps]:=
  Kl (Vq hc) rfl (QT (k:=k) ih hx.1.1 hx.1.2 hx.2 hc ha hr (by simp only[lA,lC,length_nil];unfold AN at hb;lia))
 have h0:ps.length < big:=by unfold big;lia
 have h3:Fp (.int (ps.length:Int)) (.int 4)=some false:=by rw[eq_int];exact congrArg some (dF (by lia))
 generalize St c a ([59,32]++(AN n x++r))=o0 at s1 ⊢;generalize St c (a++[59,32]) (AN n x++r)=o1 at s1 s2;generalize St c (a++[59,32]++AN n x) r=o2 at s2 ⊢;unfold Zs;simp! [h3,↓s1,↓s2,Cf,h0]
theorem Iz{above:Nat}(ih:MV (k + 6) n)(hc:c % 1000=2)(ha:above + 1 + n<=12):∀(as:List Za) (ps:List Iv.P) (a:List Nat),(∀x∈as,(ED x.1=true/\Ld x.2.1)/\Ex n x.2.2)->ps.length + as.length<=4->a.length + (EC n as++93::r).length<=70000->
 A1 (tv (A0 fns mt A1 (k+7)) mt W7) (execs (A0 fns mt A1 (k+7)) mt A1 Zs) [some (St c a (EC n as++93::r)),sP (.int above),y2,sL ps]= .ok .nx [some (St c (a++EC n as++[93]) r),sP (.int above),y2,sL (ps++as.map CY)]
 | [],ps,a,_,_,_=>by
   rw[map_nil,append_nil,show EC n []=[]from rfl,append_nil,Bs];show(tv _ _ _ [some (St c a (93::r)),sP (.int above),y2,sL ps]).bind _=_;rw[ZK hc];rfl
 | x::as,ps,a,h,hl,hb=>by
   have e0:EC n (x::as)++93::r=[59,32]++(AN n x++(EC n as++93::r)):=by unfold EC;simp
   have e1:a++EC n (x::as)++[93]=a++[59,32]++AN n x++EC n as++[93]:=by unfold EC;simp
   rw[e0]at hb ⊢;rw[e1];rw[lC]at hl;rw[Bs,ZL hc (λd r' z=>by cases z;decide),Res.A3,iP rfl,NT ih (h x mS) hc ha bN (by lia) hb,Res.A3];have ih2:=Iz ih hc ha as (ps++[CY x]) (a++[59,32]++AN n x) (λy hy=>h y (mC hy)) (by rw[lA,lS];lia) (by simp only[lA,lC,length_nil]at hb ⊢;lia);have e2:(ps++[CY x])++as.map CY=ps++(x::as).map CY:=by simp
   rw[e2]at ih2;exact ih2
theorem Ua{above:Nat}{as:List Za}(ih7:MV (k + 7) n)(ih:MV (k + 6) n)(hq:Ex n q)(hx:∀x∈as,(ED x.1=true/\Ld x.2.1)/\Ex n x.2.2)(h1:1<=as.length)(h4:as.length<=4)(hc:c % 1000=2)(ha:above + 1 + n<=12)(hr:G9 r)(hb:a.length + (sh n q++[58,32]++jn [59,32] (as.map (AN n))++[93]++r).length<=70000):
 A0 fns mt A1 (k+8) 47 [St c a (sh n q++[58,32]++jn [59,32] (as.map (AN n))++[93]++r),.p (.int above)]= .ok (.p (.tup [.str As,q,.tup (as.map CY)])) [some (St c (a++(sh n q++[58,32]++jn [59,32] (as.map (AN n))++[93])) r),sP (.int above)]:=by
 cases as with
 |nil=>simp at h1
 |cons x as=>
   have ej:jn [59,32] ((x::as).map (AN n))=AN n x++EC n as:=by unfold EC jn;rw[map_cons];show AN n x++(List.map _ (List.map _ as)).flatten=_;rw[map_map];rfl
   have e0:sh n q++[58,32]++(AN n x++EC n as)++[93]++r=sh n q++([58,32]++(AN n x++(EC n as++93::r))):=by simp
   have e1:a++(sh n q++[58,32]++(AN n x++EC n as)++[93])=a++sh n q++[58,32]++AN n x++EC n as++[93]:=by simp
   rw[ej,e0]at hb ⊢;rw[e1];simp only[lA,lC,length_nil]at hb;rw[lC]at h4;have s1:=MG (k:=k+7) (a:=a) (r:=[58,32]++(AN n x++(EC n as++93::r))) (y:=[none,none]) ih7 hq hc ha (G9.of (.inr (.inr (.inl rfl)))) (by simp only[lA,lC,length_nil];lia);have s2:ev (A0 fns mt A1 (k+7)) mt (.Ag ⟨#[109,117,115,116,95,116,97,107,101]⟩ (.var 0) [.cst (.str (tx [58,32]))]) [some (St c (a++sh n q) ([58,32]++(AN n x++(EC n as++93::r)))),sP (.int above),sP q,none]= .ok (.p .Az) [some (St c (a++sh n q++[58,32]) (AN n x++(EC n as++93::r))),sP (.int above),sP q,none]:=D9 (Fw hc) rfl (DN (k:=k+5) hc (by decide));obtain⟨hx1,hx2⟩:=hx x mS
   have s3:ev (A0 fns mt A1 (k + 7)) mt (.Ag ⟨#[97,114,109]⟩ (.var 0) [.var 1]) [some (St c (a++sh n q++[58,32]) (AN n x++(EC n as++93::r))),sP (.int above),sP q,none]= .ok (.p (CY x)) [some (St c (a++sh n q++[58,32]++AN n x) (EC n as++93::r)),sP (.int above),sP q,none]:=
    Kl (Vq hc) rfl (QT (k:=k) ih hx1.1 hx1.2 hx2 hc ha bN (by unfold AN at hb;simp only[lA,lC,length_nil];lia))
   have s4:=Iz (k:=k) (r:=r) (c:=c) (y2:=some (.p q)) ih hc ha as [CY x] (a++sh n q++[58,32]++AN n x) (λy hy=>hx y (mC hy)) (by show 1+as.length<=4;lia) (by simp only[lA,lC,length_nil];lia);generalize St c a (sh n q++([58,32]++(AN n x++(EC n as++93::r))))=o0 at s1 ⊢;generalize St c (a++sh n q) ([58,32]++(AN n x++(EC n as++93::r)))=o1 at s1 s2;generalize St c (a++sh n q++[58,32]) (AN n x++(EC n as++93::r))=o2 at s2 s3;generalize St c (a++sh n q++[58,32]++AN n x) (EC n as++93::r)=o3 at s3 s4;generalize St c (a++sh n q++[58,32]++AN n x++EC n as++[93]) r=o4 at s4 ⊢
   have e:execs (A0 fns mt A1 (k + 7)) mt A1 gC [some o0,sP (.int above),none,none]= .ok (.ret (.p (.tup [.str As,q,.tup (CY x::as.map CY)]))) [some o4,sP (.int above),sP q,sL (CY x::as.map CY)]:=by
    rw[Yv];have s4':exec (A0 fns mt A1 (k+7)) mt A1 (.JU W7 Zs) [some o3,sP (.int above),sP q,sL [CY x]]= .ok .nx [some o4,sP (.int above),sP q,sL (CY x::as.map CY)]:=s4;simp! [↓s1,↓s2,↓s3,↓s4']
   exact Ac bT rfl rfl e (by kernel_rfl)
theorem Xp(hc:c%1000=2):mt.m c ⟨#[99,97,115,101]⟩=some 47:=En hc (by kernel_rfl)
theorem PC(hc:c%1000=2):mt.m c ⟨#[110,117,109,98,101,114]⟩=some 40:=En hc (by kernel_rfl)
theorem T3(hc:c%1000=2):mt.m c ⟨#[110,117,109,98,101,114,95,98,101,108,111,119]⟩=some 45:=En hc (by kernel_rfl)
theorem PD(hc:c%1000=2):mt.m c ⟨#[97,114,103,115,95,104,101,114,101]⟩=some 46:=En hc (by kernel_rfl)
variable{ch:Nat}
theorem EF{d:Nat}{t:List Nat}{y:Iv.Env}(hc:c % 1000=2)(h:d≠ch):ev (A0 fns mt A1 (k + 1)) mt (.Ag ⟨#[116,97,107,101,115]⟩ (.var 0) [.cst (.str (tx [ch]))]) (some (St c a (d::t))::y)= .ok (.p (.bl false)) (some (St c a (d::t))::y):=
 D9 (CG hc) rfl (Gi (k:=k) hc (by simp) (EG λe r' z=>by cases z;exact h))
theorem GD{t:List Nat}{y:Iv.Env}(hc:c % 1000=2):ev (A0 fns mt A1 (k + 1)) mt (.Ag ⟨#[116,97,107,101,115]⟩ (.var 0) [.cst (.str (tx [ch]))]) (some (St c a (ch::t))::y)= .ok (.p (.bl true)) (some (St c (a++[ch]) t)::y):=
 D9 (CG hc) rfl (Gh (k:=k) (s:=[ch]) hc (by simp))
theorem TJ(ih7:MV (k + 7) n)(ih6:MV (k + 6) n)(ih5:MV (k + 5) n):MV (k + 9) (n + 1):=by
 intro p hp c above a r hc hab hr hb;have g11:¬(11:Int) < (above:Int):=by lia
 suffices e:∃y,execs (A0 fns mt A1 (k + 8)) mt A1 VN [some (St c a (sh (n + 1) p++r)),sP (.int above),none]= .ok (.ret (.p p)) [some (St c (a++sh (n + 1) p) r),sP (.int above),y]by
  obtain⟨y,e⟩:=e;exact Ac bW rfl rfl e (by kernel_rfl)
 have word:∀(w t:List Nat) (d:Nat) (s:List Nat),w=d::s->(∀ch∈w,Ie ch=true)->ahead Ie t=false->a.length + (w++t).length<=70000->
  ev (A0 fns mt A1 (k+8)) mt (.Ag ⟨#[116,97,107,101,115]⟩ (.var 0) [.cst (.str (tx [91]))]) [some (St c a (w++t)),sP (.int above),none]= .ok (.p (.bl false)) [some (St c a (w++t)),sP (.int above),none]/\
  ev (A0 fns mt A1 (k+8)) mt (.Ag ⟨#[116,97,107,101,115]⟩ (.var 0) [.cst (.str (tx [45]))]) [some (St c a (w++t)),sP (.int above),none]= .ok (.p (.bl false)) [some (St c a (w++t)),sP (.int above),none]/\
  ev (A0 fns mt A1 (k+8)) mt (.Ag ⟨#[105,115,95,98,101,102,111,114,101]⟩ (.var 0) [.cst (.fn 15)]) [some (St c a (w++t)),sP (.int above),none]= .ok (.p (.bl false)) [some (St c a (w++t)),sP (.int above),none]/\
  ev (A0 fns mt A1 (k+8)) mt (.Ag ⟨#[116,97,107,101,95,97,108,108]⟩ (.var 0) [.cst (.fn 14)]) [some (St c a (w++t)),sP (.int above),none]= .ok (.p (.str (tx w))) [some (St c (a++w) t),sP (.int above),none]:=by
  intro w t d s hw hl ht hb';have hd:=hl d (by rw[hw];exact mS);unfold Ie low C7 at hd;simp at hd;have hf:Im d=false:=by unfold Im;simp;lia
  refine⟨?_,?_,?_,D9 (My hc) rfl (Eo (k:=k+5) hc ht hl hb')⟩
  .rw[hw];exact EF hc (by lia)
  .rw[hw];exact EF hc (by lia)
  .have:=DV (k:=k+6) (c:=c) (a:=a) (r:=w++t) (f:=15) (pred:=Im) (by decide) (λch=>Dd) hb';have e9:ahead Im (w++t)=false:=by rw[hw];exact hf
   rw[e9]at this;exact D9 (ET hc) rfl this
 cases hp with
 |num i hi=>
   rw[GP]at hb ⊢
   by_cases h0:i < 0
   .have e0:HK i=45::dg i.natAbs:=by unfold HK;rw[iP h0]
    rw[e0]at hb ⊢;rw[cons_append,lC]at hb;have e1:a++45::dg i.natAbs=a++[45]++dg i.natAbs:=by simp
    rw[cons_append,e1];have s1:=EF (k:=k+7) (a:=a) (ch:=91) (d:=45) (t:=dg i.natAbs++r) (y:=[sP (.int above),none]) hc (by decide);have s2:=GD (k:=k+7) (a:=a) (ch:=45) (t:=dg i.natAbs++r) (y:=[sP (.int above),none]) hc
    have s3:ev (A0 fns mt A1 (k + 8)) mt (.Ag ⟨#[110,117,109,98,101,114,95,98,101,108,111,119]⟩ (.var 0) []) [some (St c (a++[45]) (dg i.natAbs++r)),sP (.int above),none]= .ok (.p (.int (-((i.natAbs:Nat):Int)))) [some (St c (a++[45]++dg i.natAbs) r),sP (.int above),none]:=
     Pz (T3 hc) rfl (QN (k:=k+3) hc hi (by lia) hr.Im (by simp only[lA,lC,length_nil]at hb ⊢;lia))
    have hv: -((i.natAbs:Nat):Int)=i:=by lia
    rw[hv]at s3;generalize St c a (45::(dg i.natAbs++r))=o0 at s1 s2 ⊢;generalize St c (a++[45]) (dg i.natAbs++r)=o1 at s2 s3;generalize St c (a++[45]++dg i.natAbs) r=o2 at s3 ⊢;refine⟨none,?_⟩;unfold VN;simp! [g11,↓s1,↓s2,↓s3]
   .have e0:HK i=dg i.natAbs:=by unfold HK;rw[iN h0]
    rw[e0]at hb ⊢;obtain⟨d,s,ed,_⟩:=Jx i.natAbs;have hd:=LY i.natAbs d (by rw[ed];exact mS);have hf:Im d=true:=by unfold Im;simp;lia
    have s1:ev (A0 fns mt A1 (k+8)) mt (.Ag ⟨#[116,97,107,101,115]⟩ (.var 0) [.cst (.str (tx [91]))]) [some (St c a (dg i.natAbs++r)),sP (.int above),none]= .ok (.p (.bl false)) [some (St c a (dg i.natAbs++r)),sP (.int above),none]:=by rw[ed];exact EF hc (by lia)
    have s2:ev (A0 fns mt A1 (k+8)) mt (.Ag ⟨#[116,97,107,101,115]⟩ (.var 0) [.cst (.str (tx [45]))]) [some (St c a (dg i.natAbs++r)),sP (.int above),none]= .ok (.p (.bl false)) [some (St c a (dg i.natAbs++r)),sP (.int above),none]:=by rw[ed];exact EF hc (by lia)
    have s3:ev (A0 fns mt A1 (k + 8)) mt (.Ag ⟨#[105,115,95,98,101,102,111,114,101]⟩ (.var 0) [.cst (.fn 15)]) [some (St c a (dg i.natAbs++r)),sP (.int above),none]= .ok (.p (.bl true)) [some (St c a (dg i.natAbs++r)),sP (.int above),none]:=by
     have:=DV (k:=k+6) (c:=c) (a:=a) (r:=dg i.natAbs++r) (f:=15) (pred:=Im) (by decide) (λch=>Dd) hb;have e9:ahead Im (dg i.natAbs++r)=true:=by rw[ed];exact hf
     rw[e9]at this;exact D9 (ET hc) rfl this
    have s4:ev (A0 fns mt A1 (k+8)) mt (.Ag ⟨#[110,117,109,98,101,114]⟩ (.var 0) []) [some (St c a (dg i.natAbs++r)),sP (.int above),none]= .ok (.p (.int ((i.natAbs:Nat):Int))) [some (St c (a++dg i.natAbs) r),sP (.int above),none]:=Pz (PC hc) rfl (I8 (k:=k+4) hc hi hr.Im hb);have hv:((i.natAbs:Nat):Int)=i:=by lia
    rw[hv]at s4;generalize St c a (dg i.natAbs++r)=o0 at s1 s2 s3 s4 ⊢;generalize St c (a++dg i.natAbs) r=o1 at s4 ⊢;refine⟨none,?_⟩;unfold VN;simp! [g11,↓s1,↓s2,↓s3,↓s4]
 |O6 l hl=>
   rw[GQ]at hb ⊢;obtain⟨l1,l8,hlow,l7⟩:=AZ hl
   obtain⟨d,s,ed⟩:∃d s,l=d::s:=by
    cases l with
    |nil=>simp at l1
    |cons d s=>exact⟨d,s,rfl⟩
   obtain⟨s1,s2,s3,s4⟩:=word l r d s ed (λch hch=>by unfold Ie;rw[hlow ch hch];rfl) hr.Ie hb
   have hnf:ED l=false:=by
    have:=hlow d (by rw[ed];exact mS);unfold low at this;simp at this;have hcap:C7 d=false:=by unfold C7;simp;lia
    rw[ed];simp[ED,hcap]
   have f3:∀o,ev (A0 fns mt A1 (k+8)) mt (.call 3 [.var 2]) [o,sP (.int above),sP (.str (tx l))]= .ok (.p (.bl false)) [o,sP (.int above),sP (.str (tx l))]:=λo=>Hx (hnf▸BR (k:=k+7) l7 (by lia))
   have f1:∀o,ev (A0 fns mt A1 (k+8)) mt (.call 1 [.var 2]) [o,sP (.int above),sP (.str (tx l))]= .ok (.p (.bl true)) [o,sP (.int above),sP (.str (tx l))]:=λo=>Hx (hl▸BQ (k:=k+7) l7 (by unfold big;lia))
   have s5:ev (A0 fns mt A1 (k + 8)) mt (.Ag ⟨#[116,97,107,101,115]⟩ (.var 0) [.cst (.str (tx [40]))]) [some (St c (a++l) r),sP (.int above),sP (.str (tx l))]= .ok (.p (.bl false)) [some (St c (a++l) r),sP (.int above),sP (.str (tx l))]:=
    D9 (CG hc) rfl (Gi (k:=k + 7) hc (by decide) (EG λe r' z=>by
     rcases hr e r' z with q|q|q|q|q<;>lia))
   generalize St c a (l++r)=o0 at s1 s2 s3 s4 ⊢;generalize St c (a++l) r=o1 at s4 s5 ⊢;refine⟨some (.p (.str (tx l))),?_⟩;unfold VN;simp! [g11,↓s1,↓s2,↓s3,↓s4,↓f3,↓f1,↓s5]
 |Hm l ps hl h3 hq=>
   rw[CJ]at hb ⊢;have e0:l++[40]++jn [44,32] (ps.map (sh n))++[41]++r=l++([40]++(jn [44,32] (ps.map (sh n))++41::r)):=by simp
   have e1:a++(l++[40]++jn [44,32] (ps.map (sh n))++[41])=a++l++[40]++jn [44,32] (ps.map (sh n))++[41]:=by simp
   rw[e0]at hb ⊢;rw[e1];obtain⟨d,s,ed,h7,hcap,hlow,l7⟩:=Bn hl
   obtain⟨s1,s2,s3,s4⟩:=word l ([40]++(jn [44,32] (ps.map (sh n))++41::r)) d s ed (λch hch=>by
    rw[ed]at hch;unfold Ie;rcases mK hch with z|z
    .rw[z,hcap];simp
    .rw[hlow ch z];rfl) rfl hb
   simp only[lA,lC,length_nil]at hb;have f3:∀o,ev (A0 fns mt A1 (k+8)) mt (.call 3 [.var 2]) [o,sP (.int above),sP (.str (tx l))]= .ok (.p (.bl true)) [o,sP (.int above),sP (.str (tx l))]:=λo=>Hx (hl▸BR (k:=k+7) l7 (by rw[ed,lC];lia))
   have s5:ev (A0 fns mt A1 (k+8)) mt (.Ag ⟨#[109,117,115,116,95,116,97,107,101]⟩ (.var 0) [.cst (.str (tx [40]))]) [some (St c (a++l) ([40]++(jn [44,32] (ps.map (sh n))++41::r))),sP (.int above),sP (.str (tx l))]= .ok (.p .Az) [some (St c (a++l++[40]) (jn [44,32] (ps.map (sh n))++41::r)),sP (.int above),sP (.str (tx l))]:=D9 (Fw hc) rfl (DN (k:=k+6) hc (by decide))
   have s6:ev (A0 fns mt A1 (k + 8)) mt (.Ag ⟨#[97,114,103,115,95,104,101,114,101]⟩ (.var 0) [.var 1]) [some (St c (a++l++[40]) (jn [44,32] (ps.map (sh n))++41::r)),sP (.int above),sP (.str (tx l))]= .ok (.p (.tup ps)) [some (St c (a++l++[40]++jn [44,32] (ps.map (sh n))++[41]) r),sP (.int above),sP (.str (tx l))]:=
    Kl (PD hc) rfl (MU (k:=k+4) ih5 hc (by lia) hq h3 (by simp only[lA,lC,length_nil];lia))
   generalize St c a (l++([40]++(jn [44,32] (ps.map (sh n))++41::r)))=o0 at s1 s2 s3 s4 ⊢;generalize St c (a++l) ([40]++(jn [44,32] (ps.map (sh n))++41::r))=o1 at s4 s5;generalize St c (a++l++[40]) (jn [44,32] (ps.map (sh n))++41::r)=o2 at s5 s6;generalize St c (a++l++[40]++jn [44,32] (ps.map (sh n))++[41]) r=o3 at s6 ⊢;refine⟨some (.p (.str (tx l))),?_⟩;unfold VN;simp! [g11,↓s1,↓s2,↓s3,↓s4,↓f3,↓s5,↓s6]
 |call l ps hl h3 hq=>
   rw[CJ]at hb ⊢;have e0:l++[40]++jn [44,32] (ps.map (sh n))++[41]++r=l++([40]++(jn [44,32] (ps.map (sh n))++41::r)):=by simp
   have e1:a++(l++[40]++jn [44,32] (ps.map (sh n))++[41])=a++l++[40]++jn [44,32] (ps.map (sh n))++[41]:=by simp
   rw[e0]at hb ⊢;rw[e1];obtain⟨l1,l8,hlow,l7⟩:=AZ hl
   obtain⟨d,s,ed⟩:∃d s,l=d::s:=by
    cases l with
    |nil=>simp at l1
    |cons d s=>exact⟨d,s,rfl⟩
   obtain⟨s1,s2,s3,s4⟩:=word l ([40]++(jn [44,32] (ps.map (sh n))++41::r)) d s ed (λch hch=>by unfold Ie;rw[hlow ch hch];rfl) rfl hb;simp only[lA,lC,length_nil]at hb
   have hnf:ED l=false:=by
    have:=hlow d (by rw[ed];exact mS);unfold low at this;simp at this;have hcap:C7 d=false:=by unfold C7;simp;lia
    rw[ed];simp[ED,hcap]
   have f3:∀o,ev (A0 fns mt A1 (k+8)) mt (.call 3 [.var 2]) [o,sP (.int above),sP (.str (tx l))]= .ok (.p (.bl false)) [o,sP (.int above),sP (.str (tx l))]:=λo=>Hx (hnf▸BR (k:=k+7) l7 (by lia))
   have f1:∀o,ev (A0 fns mt A1 (k+8)) mt (.call 1 [.var 2]) [o,sP (.int above),sP (.str (tx l))]= .ok (.p (.bl true)) [o,sP (.int above),sP (.str (tx l))]:=λo=>Hx (hl▸BQ (k:=k+7) l7 (by unfold big;lia))
   have s5:ev (A0 fns mt A1 (k+8)) mt (.Ag ⟨#[116,97,107,101,115]⟩ (.var 0) [.cst (.str (tx [40]))]) [some (St c (a++l) ([40]++(jn [44,32] (ps.map (sh n))++41::r))),sP (.int above),sP (.str (tx l))]= .ok (.p (.bl true)) [some (St c (a++l++[40]) (jn [44,32] (ps.map (sh n))++41::r)),sP (.int above),sP (.str (tx l))]:=GD (k:=k+7) hc
   have s6:ev (A0 fns mt A1 (k + 8)) mt (.Ag ⟨#[97,114,103,115,95,104,101,114,101]⟩ (.var 0) [.var 1]) [some (St c (a++l++[40]) (jn [44,32] (ps.map (sh n))++41::r)),sP (.int above),sP (.str (tx l))]= .ok (.p (.tup ps)) [some (St c (a++l++[40]++jn [44,32] (ps.map (sh n))++[41]) r),sP (.int above),sP (.str (tx l))]:=
    Kl (PD hc) rfl (MU (k:=k+4) ih5 hc (by lia) hq h3 (by simp only[lA,lC,length_nil];lia))
   generalize St c a (l++([40]++(jn [44,32] (ps.map (sh n))++41::r)))=o0 at s1 s2 s3 s4 ⊢;generalize St c (a++l) ([40]++(jn [44,32] (ps.map (sh n))++41::r))=o1 at s4 s5;generalize St c (a++l++[40]) (jn [44,32] (ps.map (sh n))++41::r)=o2 at s5 s6;generalize St c (a++l++[40]++jn [44,32] (ps.map (sh n))++[41]) r=o3 at s6 ⊢;refine⟨some (.p (.str (tx l))),?_⟩;unfold VN;simp! [g11,↓s1,↓s2,↓s3,↓s4,↓f3,↓f1,↓s5,↓s6]
 |case q as hq h1 h4 ha hp=>
   rw[EI hq.SO]at hb ⊢;have et:as.map (λa=>D2 a.1 a.2.1 (sh n a.2.2))=as.map (AN n):=rfl;have ev':as.map (λa=>AW a.1 a.2.1 a.2.2)=as.map CY:=rfl;rw[et]at hb ⊢;rw[ev'];have e0:[91]++sh n q++[58,32]++jn [59,32] (as.map (AN n))++[93]++r=91::(sh n q++[58,32]++jn [59,32] (as.map (AN n))++[93]++r):=by simp
   have e1:a++([91]++sh n q++[58,32]++jn [59,32] (as.map (AN n))++[93])=a++[91]++(sh n q++[58,32]++jn [59,32] (as.map (AN n))++[93]):=by simp
   rw[e0]at hb ⊢;rw[e1];have s1:=GD (k:=k+7) (a:=a) (ch:=91) (t:=sh n q++[58,32]++jn [59,32] (as.map (AN n))++[93]++r) (y:=[sP (.int above),none]) hc
   have s2:ev (A0 fns mt A1 (k + 8)) mt (.Ag ⟨#[99,97,115,101]⟩ (.var 0) [.var 1]) [some (St c (a++[91]) (sh n q++[58,32]++jn [59,32] (as.map (AN n))++[93]++r)),sP (.int above),none]= .ok (.p (.tup [.str As,q,.tup (as.map CY)])) [some (St c (a++[91]++(sh n q++[58,32]++jn [59,32] (as.map (AN n))++[93])) r),sP (.int above),none]:=
    Kl (Xp hc) rfl (Ua (k:=k) ih7 ih6 hq (λx hx=>⟨ha x hx,hp x hx⟩) h1 h4 hc (by lia) hr (by rw[lC]at hb;rw[lA,lS];lia))
   generalize St c a (91::(sh n q++[58,32]++jn [59,32] (as.map (AN n))++[93]++r))=o0 at s1 ⊢;generalize St c (a++[91]) (sh n q++[58,32]++jn [59,32] (as.map (AN n))++[93]++r)=o1 at s1 s2;generalize St c (a++[91]++(sh n q++[58,32]++jn [59,32] (as.map (AN n))++[93])) r=o2 at s2 ⊢;generalize as.map CY=vs at s2 ⊢;refine⟨none,?_⟩;unfold VN;simp! [g11,↓s1,↓s2]
theorem WB:∀(n k:Nat),MV (k + (4 * n + 5)) n:=by
 intro n
 induction n with
 |zero=>intro k p h;cases h
 |succ n ih=>
   intro k;have h5:=ih k;have h6:=ih (k+1);have h7:=ih (k+2);have:=TJ (k:=k+4*n) (n:=n) (by rw[show k+4*n+7=k+2+(4*n+5)by lia];exact h7) (by rw[show k+4*n+6=k+1+(4*n+5)by lia];exact h6) (by rw[show k+4*n+5=k+(4*n+5)by lia];exact h5);rw[show k+(4*(n+1)+5)=k+4*n+9 by lia];exact this
end Lk51
namespace Iv
open PySem
variable{cf:CF}{mt:MT}
theorem bh{u:Option C}{r:Env}{c:Nat}{fs:List (Str×B)}{f:Nat}(hm:mt.m c m=some f)(hl:fs.lookup m=none)(e:cf f [.obj c fs]= .ok z [some o]):ev cf mt (.Ag m (.var 1) []) (u::some (.obj c fs)::r)= .ok z (u::some o::r):=by
 rw[Fc,Ze];dsimp only;rw[hl,hm];show AH cf f [.slot 1] (u::some (.obj c fs)::r)=_;unfold AH;have ec:Ai (u::some (.obj c fs)::r) [.slot 1]=some [.obj c fs]:=rfl;rw[ec];dsimp only;rw[iP ⟨by show([1]:List Nat).Nodup;decide,rfl⟩,e];rfl
theorem bg{u:Option C}{r:Env}{c:Nat}{fs:List (Str×B)}{f:Nat}{y:Option C}(hm:mt.m c m=some f)(hl:fs.lookup m=none)(e:cf f [.obj c fs,.p p]= .ok z [some o,y]):ev cf mt (.Ag m (.var 1) [.cst p]) (u::some (.obj c fs)::r)= .ok z (u::some o::r):=by
 rw[Fc,Ze];dsimp only;rw[hl,hm];show AH cf f [.slot 1,.AI (.p p)] (u::some (.obj c fs)::r)=_;unfold AH;have ec:Ai (u::some (.obj c fs)::r) [.slot 1,.AI (.p p)]=some [.obj c fs,.p p]:=rfl;rw[ec];dsimp only;rw[iP ⟨by show([1]:List Nat).Nodup;decide,rfl⟩,e];rfl
end Iv
namespace Lk51
open Iv PySem
variable{k:Nat}
theorem Vh{c:Nat}{fs:List (Str×B)}{r:Iv.Env}(hf:mt.f c f=true)(hl:fs.length < 900):HW mt 0 f (.b b) (some (.obj c fs)::r)= .ok .nx (some (.obj c (Iv.Bf f b fs))::r):=by
 show(if(mt.f c f && decide (fs.length < 900))=true then _ else _)=_;rw[hf,decide_eq_true hl];rfl
theorem Ts :A0 fns mt A1 (k + 1) 32 [.obj 2 [],.p (.str x)]= .ok (.p .Az) [some (.obj 2 (rd x 0)),sP (.str x)]:=by
 have h1:=Vh (c:=2) (f:=⟨#[116,101,120,116]⟩) (b:=.p (.str x)) (fs:=[]) (r:=[sP (.str x)]) rfl (by decide);have h2:=Vh (c:=2) (f:=⟨#[97,116]⟩) (b:=.p (.int 0)) (fs:=Iv.Bf ⟨#[116,101,120,116]⟩ (.p (.str x)) []) (r:=[sP (.str x)]) rfl (by simp[Iv.Bf])
 have e:execs (A0 fns mt A1 k) mt A1 gN [some (.obj 2 []),sP (.str x)]= .ok .nx [some (.obj 2 (rd x 0)),sP (.str x)]:=by
  unfold gN;simp! [h1,h2];rfl
 exact Pl cj rfl rfl e (by kernel_rfl)
theorem Ni :A0 fns mt A1 (k + 2) 16 [.p (.str x)]= .ok (.obj 2 (rd x 0)) [sP (.str x)]:=by
 have h1:ev (A0 fns mt A1 (k + 1)) mt (.make 2 [.var 0]) [sP (.str x)]= .ok (.obj 2 (rd x 0)) [sP (.str x)]:=by
  have hm:mt.m 2 (Str.ofString "__init__")=some 32:=by kernel_rfl
  have e1:ev (A0 fns mt A1 (k + 1)) mt (.make 2 [.var 0]) [sP (.str x)]=match mt.m 2 (Str.ofString "__init__")with
   |some f=>(A9 (A0 fns mt A1 (k+1)) mt [.var 0] [sP (.str x)]).bind λhs ρ=>FV (A0 fns mt A1 (k+1)) f 2 hs ρ
   |none=>.stuck:=by
   show(den _ _ _).v _=_
   conv=>lhs;unfold den
   all_goals rfl
  rw[e1,hm];show FV (A0 fns mt A1 (k+1)) 32 2 [.slot 0] [sP (.str x)]=_;unfold FV;rw[show Ai [sP (.str x)] [.slot 0]=some [.p (.str x)]from rfl];dsimp only;rw[iP ⟨⟨by show([]:List Nat).Nodup;exact .nil,rfl⟩,by decide⟩,Ts];rfl
 have e:execs (A0 fns mt A1 (k + 1)) mt A1 gX [sP (.str x)]= .ok (.ret (.obj 2 (rd x 0))) [sP (.str x)]:=by
  unfold gX;simp! [↓h1]
 exact Ac ei rfl rfl e (by kernel_rfl)
variable{n:Nat}
theorem Sd(hp:Ex n p)(hn:n<=5)(hs:sz n p<=40):A0 fns mt A1 (k + 30) 17 [.p (.str (tx (sh n p)))]= .ok (.p p) [sP (.str (tx (sh n p)))]:=by
 have hl:=We hp hn;have h1:ev (A0 fns mt A1 (k+29)) mt (.call 16 [.var 0]) [sP (.str (tx (sh n p))),none,none]= .ok (.obj 2 (rd (tx (sh n p)) 0)) [sP (.str (tx (sh n p))),none,none]:=Ec (Ni (k:=k+27))
 have hr:MV (k + 29) n:=by
  have:=WB n (k+29-(4*n+5));rw[show k+29-(4*n+5)+(4*n+5)=k+29 by lia]at this;exact this
 have h2:=hr p hp 2 0 [] [] rfl (by lia) (λd r' z=>by cases z) (by simp;lia);have e2:St 2 [] (sh n p++[])= .obj 2 (rd (tx (sh n p)) 0):=by rw[append_nil];rfl
 have e3:St 2 ([]++sh n p) []=St 2 (sh n p) []:=rfl;rw[e2,e3]at h2;have s2:ev (A0 fns mt A1 (k+29)) mt (.Ag ⟨#[101,120,112,114,101,115,115,105,111,110]⟩ (.var 1) [.cst (.int 0)]) [sP (.str (tx (sh n p))),some (.obj 2 (rd (tx (sh n p)) 0)),none]= .ok (.p p) [sP (.str (tx (sh n p))),some (St 2 (sh n p) []),none]:=bg (LC rfl) rfl h2;have s3:ev (A0 fns mt A1 (k+29)) mt (.Ag ⟨#[109,117,115,116,95,101,110,100]⟩ (.var 1) []) [sP (.str (tx (sh n p))),some (St 2 (sh n p) []),sP p]= .ok (.p .Az) [sP (.str (tx (sh n p))),some (St 2 (sh n p) []),sP p]:=bh (En rfl (by kernel_rfl)) rfl (Kj (k:=k+28) (by unfold big;lia));have s4:∀o u,ev (A0 fns mt A1 (k+29)) mt (.call 13 [.var 2]) [o,u,sP p]= .ok (.p (.bl true)) [o,u,sP p]:=λo u=>Hx (LN (k:=k+23) hp (by lia) hs)
 generalize St 2 (sh n p) []=o1 at s2 s3;generalize C.obj 2 (rd (tx (sh n p)) 0)=o0 at h1 s2;generalize tx (sh n p)=x at h1 s2 s3 ⊢
 suffices e:execs (A0 fns mt A1 (k+29)) mt A1 gW [sP (.str x),none,none]= .ok (.ret (.p p)) [sP (.str x),some o1,sP p]from Ac eh rfl rfl e (by kernel_rfl)
 unfold gW;simp! [↓h1,↓s2,↓s3,↓s4]
inductive Sm:Nat->Iv.P->Prop where
 |int {d:Nat} (i:Int):Sm (d+1) (.int i)
 |str {d:Nat} (x:Str):Sm (d+1) (.str x)
 |tup {d:Nat} (ps:List Iv.P) (h:∀q∈ps,Sm d q) (hl:ps.length<=1000):Sm (d+1) (.tup ps)
theorem Sm.up:∀{d:Nat} {p:Iv.P},Sm d p->Sm (d + 1) p
 |_,_,.int i=>.int i
 |_,_,.str x=>.str x
 |_,_,.tup ps h hl=>.tup ps (λq hq=>Sm.up (h q hq)) hl
theorem Sm.le{d e:Nat}(h:Sm d p)(hd:d<=e):Sm e p:=by
 obtain⟨m,rfl⟩:=Nat.exists_eq_add_of_le hd;clear hd
 induction m with
 |zero=>exact h
 |succ m ih=>exact ih.up
theorem Ex.sm :∀{n:Nat} {p:Iv.P},Ex n p->Sm (3 * n + 1) p
 | n + 1,_,.num i h=>.tup _ (λq hq=>by
     rcases mK hq with z|z
     .rw[z];exact .str _
     .rw[mE z];exact .int _) (by simp)
 | n + 1,_,.O6 l h=>.tup _ (λq hq=>by
     rcases mK hq with z|z
     .rw[z];exact .str _
     .rw[mE z];exact .str _) (by simp)
 | n + 1,_,.Hm l ps h h3 hp=>.tup _ (λq hq=>by
     rcases mK hq with z|z
     .rw[z];exact .str _
     .rcases mK z with z|z
      .rw[z];exact .str _
      .rw[mE z];exact .tup (d:=3*n+2) ps (λq hq=>(Ex.sm (hp q hq)).le (by lia)) (by lia)) (by simp)
 | n + 1,_,.call l ps h h3 hp=>.tup _ (λq hq=>by
     rcases mK hq with z|z
     .rw[z];exact .str _
     .rcases mK z with z|z
      .rw[z];exact .str _
      .rw[mE z];exact .tup (d:=3*n+2) ps (λq hq=>(Ex.sm (hp q hq)).le (by lia)) (by lia)) (by simp)
 | n + 1, _, .case q as hq h1 h4 ha hp=>.tup _ (λx hx=>by
     rcases mK hx with z|z
     .rw[z];exact .str _
     .rcases mK z with z|z
      .rw[z];exact(Ex.sm hq).le (by lia)
      .rw [mE z];refine .tup (d:=3*n+2) _ (λy hy=>?_) (by simp;lia);obtain⟨a,hm,rfl⟩:=mem_map.mp hy;refine .tup (d:=3*n+1) _ (λw hw=>?_) (by simp);rcases mK hw with z|z
       .rw[z];exact .str _
       .obtain⟨n',rfl⟩:=hq.pos;rcases mK z with z|z
        .rw[z];refine .tup _ (λv hv=>?_) (by have:=(ha a hm).2.len;simp;lia);obtain⟨l,_,rfl⟩:=mem_map.mp hv;exact .str _
        .rw[mE z];exact Ex.sm (hp a hm)) (by simp)
theorem G5(i:Int):Fp (.int i) (.int i)=some true:=by rw[eq_int];simp
theorem G4(i:Str):Fp (.str i) (.str i)=some true:=by rw[eq_str];simp
theorem S4:∀(d:Nat) {p:Iv.P},Sm d p->A0 fns mt A1 (k + d) 28 [.p p,.p p]= .ok (.p (.bl true)) [sP p,sP p]:=by
 intro d
 induction d with
 |zero=>intro p h;cases h
 |succ d ih=>
   intro p h
   suffices e:execs (A0 fns mt A1 (k+d)) mt A1 cR [sP p,sP p]= .ok (.ret (.p (.bl true))) [sP p,sP p]from Ac dW rfl rfl e (by kernel_rfl)
   cases h with
   |int i=>
     unfold cR;simp! [G5,Cr,Pm]
   |str x=>
     unfold cR;simp! [G4,Cr]
   |tup ps hps hl=>
     have hna:(ps.length:Int).natAbs < 2 ^ 61:=by simp;lia
     have hb:ev (A0 fns mt A1 (k + d)) mt (.comp (.nm 1) .BC [.prim .len [.var 1]] [] (.call 28 [.prim .idx [.var 3,.var 1],.prim .idx [.var 2,.var 1]]) [none,none,some 1,some 0]) [sP (.tup ps),sP (.tup ps)]= .ok (.lst ((An 0 ps.length).map λ_=>.bl true)) [sP (.tup ps),sP (.tup ps)]:=by
      refine DD (h:=.AI (.p (.int ps.length))) (c:=.p (.int ps.length)) (xs:=An 0 ps.length) (r:=[sP (.tup ps),sP (.tup ps)]) rfl (by simp! []) rfl rfl rfl (by show(if _ then _ else _)=_;rw[iP hna]) (by rw[AB];unfold big;lia) rfl rfl (λ_=>rfl) λq hq=>?_
      unfold An at hq;obtain⟨j,hj,rfl⟩:=mem_map.mp hq;have hj:=mem_range.mp hj;have hjl:j < ps.length:=by lia
      rw[show(0:Int)+(j:Int)=(j:Int)by lia];have hi:=MD (l:=ps) (k:=j) (p:=ps[j]) (List.getElem?_eq_getElem hjl);have h28:=ih (hps ps[j] (getElem_mem hjl));have ha:A9 (A0 fns mt A1 (k+d)) mt [.prim .idx [.var 3,.var 1],.prim .idx [.var 2,.var 1]] [none,sP (.int j),sP (.tup ps),sP (.tup ps)]= .ok [.AI (.p ps[j]),.AI (.p ps[j])] [none,sP (.int j),sP (.tup ps),sP (.tup ps)]:=by simp! [hi]
      rw[Bp,ha];exact C2 (hs:=[.AI (.p ps[j]),.AI (.p ps[j])]) (cs:=[.p ps[j],.p ps[j]]) rfl (λc hc=>by rcases mK hc with z|z;(· rw[z];rfl);(· rw[mE z];rfl)) h28 rfl
     have hbc:ev (A0 fns mt A1 (k + d)) mt (.prim .all [.comp (.nm 1) .BC [.prim .len [.var 1]] [] (.call 28 [.prim .idx [.var 3,.var 1],.prim .idx [.var 2,.var 1]]) [none,none,some 1,some 0]]) [sP (.tup ps),sP (.tup ps)]= .ok (.p (.bl true)) [sP (.tup ps),sP (.tup ps)]:=by
      rw[DH,Bh,CZ,hb];show Res.of (HN (.b (.lst _))) _=_;rw[all_map (F:=λ_=>true)];simp
     unfold cR;simp! [↓hbc,G5]
theorem Ka(hp:Ex n p)(hn:n<=5)(hs:sz n p<=40):A0 fns mt A1 (k + 32) 30 [.p p]= .ok (.p (.bl true)) [sP p]:=by
 have t1:A0 fns mt A1 (k + 31) 29 [.p p]= .ok (.p (.str (tx (sh n p)))) [sP p]:=by
  have:=Kn (k:=k+31-n) n hp hn;rw[show k+31-n+n=k+31 by lia]at this;exact this
 have t2:A0 fns mt A1 (k + 31) 21 [.p p]= .ok (.p (.str (tx (sh n p)))) [sP p]:=by
  have:=S0 n (k+31-(2*n+1)) hp hn;rw[show k+31-(2*n+1)+(2*n+1)=k+31 by lia]at this;exact this
 have t3:=Sd (k:=k+1) hp hn hs
 have t4:A0 fns mt A1 (k + 31) 28 [.p p,.p p]= .ok (.p (.bl true)) [sP p,sP p]:=by
  have:=S4 (k:=k+31-(3*n+1)) (3*n+1) hp.sm;rw[show k+31-(3*n+1)+(3*n+1)=k+31 by lia]at this;exact this
 generalize tx (sh n p)=x at t1 t2 t3;have s1:ev (A0 fns mt A1 (k+31)) mt (.call 29 [.var 0]) [sP p,none,none]= .ok (.p (.str x)) [sP p,none,none]:=Ec t1;have s2:ev (A0 fns mt A1 (k+31)) mt (.call 21 [.var 0]) [sP p,sP (.str x),none]= .ok (.p (.str x)) [sP p,sP (.str x),none]:=Ec t2
 have s3:∀i,i=1\/i=2->ev (A0 fns mt A1 (k + 31)) mt (.call 28 [.call 17 [.var i],.var 0]) [sP p,sP (.str x),sP (.str x)]= .ok (.p (.bl true)) [sP p,sP (.str x),sP (.str x)]:=λi hi=>by
  have h17:ev (A0 fns mt A1 (k + 31)) mt (.call 17 [.var i]) [sP p,sP (.str x),sP (.str x)]= .ok (.p p) [sP p,sP (.str x),sP (.str x)]:=by
   rcases hi with rfl|rfl
   .exact Hy t3
   .exact Hx t3
  have ha:A9 (A0 fns mt A1 (k+31)) mt [.call 17 [.var i],.var 0] [sP p,sP (.str x),sP (.str x)]= .ok [.AI (.p p),.slot 0] [sP p,sP (.str x),sP (.str x)]:=by simp! [↓h17]
  rw[Bp,ha];exact C2 (hs:=[.AI (.p p),.slot 0]) (ρ:=[sP p,sP (.str x),sP (.str x)]) (cs:=[.p p,.p p]) rfl (λc hc=>by rcases mK hc with z|z;(· rw[z];rfl);(· rw[mE z];rfl)) t4 rfl
 have s31:=s3 1 (.inl rfl);have s32:=s3 2 (.inr rfl)
 suffices e:execs (A0 fns mt A1 (k+31)) mt A1 gQ [sP p,none,none]= .ok (.ret (.p (.bl true))) [sP p,sP (.str x),sP (.str x)]from Ac dS rfl rfl e (by kernel_rfl)
 unfold gQ;simp! [↓s1,↓s2,↓s31,↓s32,G4,Cr]
end Lk51
namespace Iv
open PySem
def cellAt(ns:List Int)(k:Nat):Int:=match ns[k]? with
 |some n=>n%10 ^ 30
 |none=>0
theorem Y7(ns:List Int)(k:Nat):0<=cellAt ns k:=by
 unfold cellAt;split
 .exact Int.emod_nonneg _ (by decide)
 .exact Int.le_refl _
variable{j:Int}
theorem fd(h0:0 < j)(h1:j < 1073741824):Io i j=some (i/j):=by unfold Io;rw[iP ⟨h0,h1⟩]
theorem md(h0:0 < j):Ny i j=some (i%j):=by unfold Ny;rw[iP h0]
end Iv
namespace Lk51
open Iv PySem
variable{k:Nat}
theorem OM(ns:List Int):Jc (.b (.ro (ns.map .int)))=some (.p (.int ns.length)):=by
 show some (C.p (.int ((ns.map Iv.P.int).length:Nat)))=_;rw[lM]
theorem Gv{ns:List Int}{j:Nat}:A0 fns mt A1 (k + 1) 22 [.b (.ro (ns.map .int)),.p (.int j)]= .ok (.p (.int (cellAt ns j))) [some (.b (.ro (ns.map .int))),sP (.int j)]:=by
 have hl:=OM ns
 suffices e:execs (A0 fns mt A1 k) mt A1 eO [some (.b (.ro (ns.map .int))),sP (.int j)]= .ok (.ret (.p (.int (cellAt ns j)))) [some (.b (.ro (ns.map .int))),sP (.int j)]from Ac dZ rfl rfl e (by kernel_rfl)
 by_cases h:j < ns.length
 .have hi:CL (.b (.ro (ns.map .int))) (.b (.p (.int (j:Int))))=some (.p (.int ns[j])):=Dk (l:=ns.map .int) (k:=j) (by rw[List.getElem?_map,List.getElem?_eq_getElem h];rfl);have hc:cellAt ns j=ns[j]%10 ^ 30:=by unfold cellAt;rw[List.getElem?_eq_getElem h]
  have h1:(j:Int) < (ns.length:Int):=by lia
  rw[hc];have m30:=md (i:=ns[j]) (show(0:Int) < 10 ^ 30 by decide);have p30:=aF;generalize (10:Int) ^ 30=T at m30 p30 ⊢;generalize ns[j]=v at hi m30 ⊢;generalize ns.map Iv.P.int=l at hl hi ⊢;generalize ns.length=m at hl h1;unfold eO;simp! [hl,h1,hi,p30,m30]
 .have hc:cellAt ns j=0:=by unfold cellAt;rw[List.getElem?_eq_none (by lia)]
  have h1:¬(j:Int) < (ns.length:Int):=by lia
  rw[hc];generalize ns.map Iv.P.int=l at hl ⊢;generalize ns.length=m at hl h1;unfold eO;simp! [hl,h1]
abbrev BK(l:List Int):C:=.lst (l.map .int)
theorem Po:A0 fns mt A1 (k + 1) 25 [BK []]= .ok (.p (.int 0)) [some (BK [])]:=by
 have e:execs (A0 fns mt A1 k) mt A1 cS [sL []]= .ok (.ret (.p (.int 0))) [sL []]:=by
  have h:O9 (.b (.lst [])) (.b (.lst []))=some true:=rfl;unfold cS;simp! [h]
 exact Ac cm rfl rfl e (by kernel_rfl)
theorem Nu{l:List Int}{i:Int}:A0 fns mt A1 (k + 1) 25 [BK (l++[i])]= .ok (.p (.int i)) [some (BK l)]:=by
 have hm:(l++[i]).map Iv.P.int=l.map .int++[.int i]:=by simp
 have h:O9 (.b (.lst (l.map .int++[.int i]))) (.b (.lst []))=some false:=by
  show Qo _ _=_;unfold Qo;have h1:CW (l.map .int++[Iv.P.int i]) []=true:=by cases l<;>rfl
  have h2:∀l:List Int,Iv.P.Bo (l.map .int++[Iv.P.int i])=0:=λl=>by
   induction l with
   |nil=>rfl
   |cons x l ih=>show max 0 (Iv.P.Bo (l.map .int++[Iv.P.int i]))=0;rw[ih];rfl
  rw[h1,h2];simp[Iv.P.Bo]
 have e:execs (A0 fns mt A1 k) mt A1 cS [some (BK (l++[i]))]= .ok (.ret (.p (.int i))) [some (BK l)]:=by
  unfold BK;rw[hm];generalize l.map Iv.P.int=m at h ⊢;unfold cS;simp! [h,NA]
 exact Ac cm rfl rfl e (by kernel_rfl)
theorem Mt{l:List Int}(h0:∀i∈l,0<=i):∃i l',0<=i/\(∀j∈l',0<=j)/\(i≠0->l'.length + 1=l.length)/\l'.length<=l.length/\∀k,A0 fns mt A1 (k + 1) 25 [BK l]= .ok (.p (.int i)) [some (BK l')]:=by
 rcases List.eq_nil_or_concat l with rfl|⟨l',i,rfl⟩
 .exact⟨0,[],Int.le_refl _,λj hj=>(by cases hj),λz=>absurd rfl z,lR,λk=>Po⟩
 .rw[List.concat_eq_append]at h0 ⊢;exact⟨i,l',h0 i (by simp),λj hj=>h0 j (mL hj),λ_=>by simp,by simp,λk=>Nu⟩
theorem HE{c:Int}(h0:0<=c):∃i:Int,i.natAbs < 10 ^ 60/\∀k,A0 fns mt A1 (k + 1) 26 [.p (.int c)]= .ok (.p (.int i)) [sP (.int c)]:=by
 have h4:0<=c%4/\c%4 < 4:=⟨Int.emod_nonneg _ (by decide),Int.emod_lt_of_pos _ (by decide)⟩;have h10:0<=c%10/\c%10 < 10:=⟨Int.emod_nonneg _ (by decide),Int.emod_lt_of_pos _ (by decide)⟩;have h2:0<=c%2/\c%2 < 2:=⟨Int.emod_nonneg _ (by decide),Int.emod_lt_of_pos _ (by decide)⟩;have h60:0<=c%10 ^ 60/\c%10 ^ 60 < 10 ^ 60:=⟨Int.emod_nonneg _ (by decide),Int.emod_lt_of_pos _ (by decide)⟩
 obtain⟨i,hi,hx⟩:∃i:Int,i.natAbs < 10 ^ 60/\CL (.b (.lst [.int (c % 10),.int (0 - c % 10 ^ 60),.int (c % 10 ^ 60),.int (10 ^ 60 - 1 - c % 2)])) (.b (.p (.int (c % 4))))=some (.p (.int i)):=by
  have:c%4=0\/c%4=1\/c%4=2\/c%4=3:=by lia
  rcases this with z|z|z|z
  .exact⟨c%10,by lia,by rw[z];exact Dk (k:=0) rfl⟩
  .exact⟨0-c%10 ^ 60,by lia,by rw[z];exact Dk (k:=1) rfl⟩
  .exact⟨c%10 ^ 60,by lia,by rw[z];exact Dk (k:=2) rfl⟩
  .exact⟨10 ^ 60-1-c%2,by lia,by rw[z];exact Dk (k:=3) rfl⟩
 refine⟨i,hi,λk=>?_⟩
 have e:execs (A0 fns mt A1 k) mt A1 gR [sP (.int c)]= .ok (.ret (.p (.int i))) [sP (.int c)]:=by
  have m10:=md (i:=c) (show(0:Int) < 10 by decide);have m60:=md (i:=c) (show(0:Int) < 10 ^ 60 by decide);have m4:=md (i:=c) (show(0:Int) < 4 by decide);have m2:=md (i:=c) (show(0:Int) < 2 by decide);have p60:=OZ;generalize (10:Int) ^ 60=T at m60 p60 hx;rw[show(0:Int)-c%T= -(c%T)by lia]at hx;unfold gR;simp! [m10,m60,m4,m2,p60,hx]
 exact Ac dX rfl rfl e (by kernel_rfl)
end Lk51
namespace Iv
open PySem
theorem F9{gs:List (Nat×C)}{b:Env->Res Fl}{J:List P->Env->Prop}{all:List P}(hg:∀d ρ,J d ρ->holds gs ρ=true)(turn:∀d x r,d++x::r=all->∀ρ,J d ρ->∃ρ1 ρ2 fl,DY g x ρ=some ρ1/\b ρ1= .ok fl ρ2/\(fl= .nx\/fl= .cnt)/\J (d++[x]) ρ2):
 ∀(xs d:List P) (ρ:Env),d++xs=all->J d ρ->∃ρ',J all ρ'/\forL g gs b xs ρ= .ok .nx ρ'
 | [],d,ρ,e,h=>by
   rw[append_nil]at e;subst e;refine⟨ρ,h,?_⟩;show(if holds gs ρ then _ else _)=_;rw[hg _ _ h];rfl
 | x::xs,d,ρ,e,h=>by
   obtain⟨ρ1,ρ2,fl,e1,e2,hf,h2⟩:=turn d x xs e ρ h;obtain⟨ρ',q1,q2⟩:=F9 hg turn xs (d++[x]) ρ2 (by rw[append_assoc];exact e) h2;refine⟨ρ',q1,?_⟩;show(if holds gs ρ then(Res.of (DY g x ρ) ρ).bind _ else _)=_;rw[hg _ _ h,iP rfl,e1];show((b ρ1).bind _)=_;rw[e2,Res.A3];rcases hf with rfl|rfl
   .exact q2
   .exact q2
theorem VG{s:List Nat}{i:Int}(h0:0<=i)(h1:i<=s.length)(hb:s.length<=1000):D3 (.b (.p (.str (tx s)))) none (some i)=some (.p (.str (tx (s.take i.toNat)))):=by
 show(CI (tx s) none (some i)).map _=_;unfold CI;dsimp only;rw[B6,iP ⟨h0,h1,by unfold big;lia⟩];rfl
theorem VH{s:List Nat}{i:Int}(h0:0<=i)(h1:i<=s.length)(hb:s.length<=1000):D3 (.b (.p (.str (tx s)))) (some i) none=some (.p (.str (tx (s.drop i.toNat)))):=by
 show(CI (tx s) (some i) none).map _=_;unfold CI;dsimp only;rw[B6,iP ⟨h0,h1,by unfold big;lia⟩];rfl
def lets(b:Nat):List Nat:=(List.range 26).map (b + ·)
theorem DP{b:Nat}{i:Int}(h0:0<=i)(h1:i < 26):CL (.b (.p (.str (tx (lets b))))) (.b (.p (.int i)))=some (.p (.str (tx [b + i.toNat]))):=by
 obtain⟨j,rfl⟩:=Int.eq_ofNat_of_zero_le h0;exact Tt (l:=lets b) (k:=j) (c:=b+j) (by unfold lets;rw[List.getElem?_map,List.getElem?_range (by lia)];rfl) (by unfold lets big;simp)
theorem ba{a:Int}(h: -(2 ^ 64) < a/\a < 2 ^ 64):mulC (.b (.p (.int a))) (.b (.p (.int j)))=some (.p (.int (a * j))):=by
 show(Pw a j).map _=_;unfold Pw;rw[iP (.inl h)];rfl
end Iv
namespace Lk51
open Iv PySem
variable{k:Nat}
theorem E7(c:Int):0<=c%26/\c%26 < 26:=⟨Int.emod_nonneg _ (by decide),Int.emod_lt_of_pos _ (by decide)⟩
theorem Mz(c:Int):low (97 + (c % 26).toNat)=true:=by
 have:=E7 c;unfold low;simp
 lia
theorem VL(c:Int):C7 (65 + (c % 26).toNat)=true:=by
 have:=E7 c;unfold C7;simp
 lia
noncomputable def Zv:List S:=[.asg (.nm 2) (.prim .add [.var 2,.prim .idx [.var 1,.prim .mod [.prim .fdiv [.var 0,.prim .add [.cst (.int 8),.prim .mul [.cst (.int 3),.var 3]]],.cst (.int 26)]]])]
theorem Yz:gS=[.asg (.nm 1) (.cst (.str ⟨#[97,98,99,100,101,102,103,104,105,106,107,108,109,110,111,112,113,114,115,116,117,118,119,120,121,122]⟩)),.asg (.nm 2) (.cst (.str ⟨#[]⟩)),.CV (.nm 3) .BC [.prim .mod [.var 0,.cst (.int 8)]] Zv,.asg (.nm 4) (.prim .mod [.prim .fdiv [.var 0,.cst (.int 64)],.prim .add [.prim .len [.var 2],.cst (.int 1)]]),.ret (some (.comp (.nm 1) .BC [.cst (.int 6)] [] (.prim .add [.prim .add [.prim (.D4 false true) [.var 5,.var 2],.prim .idx [.var 4,.prim .mod [.prim .add [.prim .fdiv [.var 3,.cst (.int 512)],.var 1],.cst (.int 26)]]],.prim (.D4 true false) [.var 5,.var 2]]) [none,none,some 4,some 0,some 1,some 2]))]:=rfl
variable{cf:CF}{j:Int}
theorem SQ{s:List Nat}{y4:Option C}(h0:0<=j)(h1:j < 1000)(hs:s.length<=100):execs cf mt A1 Zv [sP (.int c),sP (.str (tx (lets 97))),sP (.str (tx s)),sP (.int j),y4]= .ok .nx [sP (.int c),sP (.str (tx (lets 97))),sP (.str (tx (s++[97 + (c / (8 + 3 * j) % 26).toNat]))),sP (.int j),y4]:=by
 have hl:=E7 (c/(8+3*j));have h2:=DP (b:=97) hl.1 hl.2;have h3:=ba (a:=3) (j:=j) (by decide);have h4:=fd (i:=c) (j:=8+3*j) (by lia) (by lia);have h5:=md (i:=c/(8+3*j)) (show(0:Int) < 26 by decide);have h6:=AA (a:=s) (b:=[97+(c/(8+3*j)%26).toNat]) (by unfold big;simp;lia);generalize s++[97+(c/(8+3*j)%26).toNat]=s' at h6 ⊢;generalize tx [97+(c/(8+3*j)%26).toNat]=u at h2 h6;generalize tx (lets 97)=z at h2 ⊢;unfold Zv;simp! [h2,h3,h4,h5,h6]
noncomputable def Ki(s:List Nat)(i:Nat)(c:Int)(j:Nat):List Nat:=s.take i++[97+((c/512+j)%26).toNat]++s.drop i
theorem Lo{t:T}(ht:A9 cf mt [t] ρ= .ok [.AI (.p (.int n))] ρ)(hn:0<=n/\n<=1000):exec cf mt A1 (.CV g .BC [t] b) ρ=forL g [] (execs cf mt A1 b) (An 0 n) ρ:=by
 rw[Ju];show(if IK.BC.ok=true then(A9 cf mt [t] ρ).bind _ else _)=_;rw[iP (show IK.BC.ok=true from rfl),ht,Res.A3];unfold NN;rw[show Ai ρ [.AI (.p (.int n))]=some [.p (.int n)]from rfl];dsimp only
 have:Aw .BC [.p (.int n)]=some (An 0 n):=by
  show(if n.natAbs < 2 ^ 61 then _ else _)=_;rw[iP (by lia)]
 rw[this];rfl
theorem HS{n:Int}{B:Iv.Env->Res Fl}{E:List Nat->Option C->Iv.Env}(hn:0<=n/\n < 1000)(hset:∀s y q,DY (.nm 3) q (E s y)=some (E s (some (.p q))))(turn:∀(j:Int) (s:List Nat),0<=j->j < n->s.length<=100->∃ch,low ch=true/\B (E s (some (.p (.int j))))= .ok .nx (E (s++[ch]) (some (.p (.int j)))))(hn2:n<=100):
 ∃s y,(s.length:Int)=n/\(∀ch∈s,low ch=true)/\forL (.nm 3) [] B (An 0 n) (E [] none)= .ok .nx (E s y):=by
 obtain⟨ρ',⟨s,y,h1,h2,h3⟩,e⟩:=F9 (g:=.nm 3) (gs:=[]) (b:=B) (J:=λd ρ=>∃s y,s.length=d.length/\(∀ch∈s,low ch=true)/\ρ=E s y) (all:=An 0 n) (λ_ _ _=>rfl) (λd q r e ρ ⟨s,y,h1,h2,h3⟩=>by
  subst h3;have hq:q∈An 0 n:=by rw[<-e];simp
  have BA:d.length<=100:=by
   have:=congrArg List.length e;rw[lA,AB]at this
   lia
  unfold An at hq;obtain⟨j,hj,rfl⟩:=mem_map.mp hq;have hj:=mem_range.mp hj;obtain⟨ch,hch,ht⟩:=turn (0+(j:Int)) s (by lia) (by lia) (by lia);refine⟨_,_,.nx,hset s y _,ht,.inl rfl,s++[ch],_,by simp[h1],λx hx=>?_,rfl⟩;rcases mem_append.mp hx with z|z
  .exact h2 x z
  .rw[mE z];exact hch) (An 0 n) [] (E [] none) rfl ⟨[],none,rfl,λ_ z=>(by cases z),rfl⟩
 refine⟨s,y,by rw[h1,AB];lia,h2,?_⟩;rw[e,h3]
theorem Nv :∃s i,s.length<=7/\(∀ch∈s,low ch=true)/\i<=s.length/\A0 fns mt A1 (k + 1) 23 [.p (.int c)]= .ok (.lst (Ad ((List.range 6).map (Ki s i c)))) [sP (.int c)]:=by
 have h8:0<=c%8/\c%8 < 8:=⟨Int.emod_nonneg _ (by decide),Int.emod_lt_of_pos _ (by decide)⟩;obtain⟨s,y3,hsl,hlow,hloop⟩:=HS (n:=c%8) (B:=execs (A0 fns mt A1 k) mt A1 Zv) (E:=λs y=>[sP (.int c),sP (.str (tx (lets 97))),sP (.str (tx s)),y,none]) (by lia) (λ_ _ _=>rfl) (λj s h0 h1 hs=>⟨_,Mz _,SQ h0 (by lia) hs⟩) (by lia);have hi:0<=c/64%((s.length:Int)+1)/\c/64%((s.length:Int)+1) < (s.length:Int)+1:=⟨Int.emod_nonneg _ (by lia),Int.emod_lt_of_pos _ (by lia)⟩;refine⟨s,(c/64%((s.length:Int)+1)).toNat,by lia,hlow,by lia,?_⟩
 have hfor:exec (A0 fns mt A1 k) mt A1 (.CV (.nm 3) .BC [.prim .mod [.var 0,.cst (.int 8)]] Zv) [sP (.int c),sP (.str (tx (lets 97))),sP (.str (tx [])),none,none]= .ok .nx [sP (.int c),sP (.str (tx (lets 97))),sP (.str (tx s)),y3,none]:=
  (Lo (n:=c % 8) (by
   generalize tx (lets 97)=zz
   simp! [md (i:=c) (show(0:Int) < 8 by decide)]) (by lia)).trans hloop
 have hlen:=Ep (l:=s) (by unfold big;lia);have hf64:=fd (i:=c) (show(0:Int) < 64 by decide) (by decide);have hmd:=md (i:=c/64) (show(0:Int) < (s.length:Int)+1 by lia);have hcl:=VG hi.1 (by lia) (show s.length<=1000 by lia);have hch:=VH hi.1 (by lia) (show s.length<=1000 by lia);generalize hI:c/64%((s.length:Int)+1)=i at hi hmd hcl hch ⊢
 have hcomp:ev (A0 fns mt A1 k) mt (.comp (.nm 1) .BC [.cst (.int 6)] [] (.prim .add [.prim .add [.prim (.D4 false true) [.var 5,.var 2],.prim .idx [.var 4,.prim .mod [.prim .add [.prim .fdiv [.var 3,.cst (.int 512)],.var 1],.cst (.int 26)]]],.prim (.D4 true false) [.var 5,.var 2]]) [none,none,some 4,some 0,some 1,some 2]) [sP (.int c),sP (.str (tx (lets 97))),sP (.str (tx s)),y3,sP (.int i)]= .ok (.lst ((An 0 6).map λq=>match q with| .int j=>.str (tx (Ki s i.toNat c j.toNat))|q=>q)) [sP (.int c),sP (.str (tx (lets 97))),sP (.str (tx s)),y3,sP (.int i)]:=by
  refine DD (h:=.AI (.p (.int 6))) (c:=.p (.int 6)) (xs:=An 0 6) (r:=[sP (.int i),sP (.int c),sP (.str (tx (lets 97))),sP (.str (tx s))]) rfl rfl rfl rfl rfl rfl (by rw[AB];unfold big;lia) rfl rfl (λ_=>rfl) λq hq=>?_
  unfold An at hq;obtain⟨j,hj,rfl⟩:=mem_map.mp hq;rw[show(0:Int)+(j:Int)=(j:Int)by lia];have hl:=E7 (c/512+(j:Int));have h2:=DP (b:=97) hl.1 hl.2;have h4:=fd (i:=c) (show(0:Int) < 512 by decide) (by decide);have h5:=md (i:=c/512+(j:Int)) (show(0:Int) < 26 by decide);have h6:=AA (a:=s.take i.toNat) (b:=[97+((c/512+(j:Int))%26).toNat]) (by unfold big;simp;lia);have h7:=AA (a:=s.take i.toNat++[97+((c/512+(j:Int))%26).toNat]) (b:=s.drop i.toNat) (by unfold big;simp;lia);show _=Res.ok (C.p (.str (tx (Ki s i.toNat c j)))) _;unfold Ki;generalize s.take i.toNat++[97+((c/512+(j:Int))%26).toNat]++s.drop i.toNat=z3 at h7 ⊢;generalize tx (s.take i.toNat++[97+((c/512+(j:Int))%26).toNat])=z2 at h6 h7;generalize tx [97+((c/512+(j:Int))%26).toNat]=u at h2 h6;generalize tx (s.take i.toNat)=z0 at hcl h6;generalize tx (s.drop i.toNat)=z1 at hch h7;generalize tx (lets 97)=zz at h2 ⊢;generalize tx s=sx at hcl hch ⊢;simp! [h2,h4,h5,h6,h7,hcl,hch]
 have hmm:(An 0 6).map (λq=>match q with| .int j=>Iv.P.str (tx (Ki s i.toNat c j.toNat))|q=>q)=Ad ((List.range 6).map (Ki s i.toNat c)):=by
  show _=((List.range 6).map (Ki s i.toNat c)).map _;unfold An;rw[map_map,map_map]
  exact map_congr_left λj _=>by
   show Iv.P.str (tx (Ki s i.toNat c (0+(j:Int)).toNat))=_;rw[show(0+(j:Int)).toNat=j by lia];rfl
 rw[hmm]at hcomp;generalize Ad ((List.range 6).map (Ki s i.toNat c))=res at hcomp ⊢
 have e:execs (A0 fns mt A1 k) mt A1 gS [sP (.int c),none,none,none,none]= .ok (.ret (.lst res)) [sP (.int c),sP (.str (tx (lets 97))),sP (.str (tx s)),y3,sP (.int i)]:=by
  rw[Yz];have hz:(⟨#[97,98,99,100,101,102,103,104,105,106,107,108,109,110,111,112,113,114,115,116,117,118,119,120,121,122]⟩:Str)=tx (lets 97):=by kernel_rfl
  rw[hz];generalize tx (lets 97)=zz at hfor hcomp ⊢;generalize tx s=sx at hfor hcomp hlen ⊢;generalize s.length=m1 at hlen hmd;simp! [↓hfor,hlen,hf64,hmd,↓hcomp]
 exact Ac dY rfl rfl e (by kernel_rfl)
noncomputable def Zu:List S:=[.asg (.nm 4) (.prim .add [.var 4,.prim .idx [.var 1,.prim .mod [.prim .fdiv [.var 0,.prim .add [.cst (.int 14),.prim .mul [.cst (.int 5),.var 3]]],.cst (.int 26)]]])]
theorem QO:eN=[.asg (.nm 1) (.cst (.str ⟨#[97,98,99,100,101,102,103,104,105,106,107,108,109,110,111,112,113,114,115,116,117,118,119,120,121,122]⟩)),.asg (.nm 2) (.cst (.str ⟨#[65,66,67,68,69,70,71,72,73,74,75,76,77,78,79,80,81,82,83,84,85,86,87,88,89,90]⟩)),.ifs (.prim .eq [.prim .mod [.var 0,.cst (.int 2)],.cst (.int 0)]) [.ret (some (.comp (.nm 1) .BC [.cst (.int 6)] [] (.prim .idx [.var 3,.prim .mod [.prim .add [.prim .fdiv [.var 2,.cst (.int 2)],.var 1],.cst (.int 26)]]) [none,none,some 0,some 2]))] [],.asg (.nm 4) (.cst (.str ⟨#[]⟩)),.CV (.nm 3) .BC [.prim .mod [.prim .fdiv [.var 0,.cst (.int 2)],.cst (.int 7)]] Zu,.asg (.nm 5) (.prim .mod [.prim .fdiv [.var 0,.cst (.int 64)],.prim .add [.prim .len [.var 4],.cst (.int 1)]]),.asg (.nm 6) (.prim .add [.prim .idx [.var 2,.prim .mod [.prim .fdiv [.var 0,.cst (.int 3)],.cst (.int 26)]],.prim (.D4 false true) [.var 4,.var 5]]),.ret (some (.comp (.nm 1) .BC [.cst (.int 6)] [] (.prim .add [.prim .add [.var 4,.prim .idx [.var 5,.prim .mod [.prim .add [.prim .fdiv [.var 3,.cst (.int 512)],.var 1],.cst (.int 26)]]],.prim (.D4 true false) [.var 6,.var 2]]) [none,none,some 5,some 0,some 6,some 1,some 4]))]:=rfl
theorem TC{s:List Nat}{y5 y6:Option C}(h0:0<=j)(h1:j < 1000)(hs:s.length<=100):execs cf mt A1 Zu [sP (.int c),sP (.str (tx (lets 97))),sP (.str g),sP (.int j),sP (.str (tx s)),y5,y6]= .ok .nx [sP (.int c),sP (.str (tx (lets 97))),sP (.str g),sP (.int j),sP (.str (tx (s++[97 + (c / (14 + 5 * j) % 26).toNat]))),y5,y6]:=by
 have hl:=E7 (c/(14+5*j));have h2:=DP (b:=97) hl.1 hl.2;have h3:=ba (a:=5) (j:=j) (by decide);have h4:=fd (i:=c) (j:=14+5*j) (by lia) (by lia);have h5:=md (i:=c/(14+5*j)) (show(0:Int) < 26 by decide);have h6:=AA (a:=s) (b:=[97+(c/(14+5*j)%26).toNat]) (by unfold big;simp;lia);generalize s++[97+(c/(14+5*j)%26).toNat]=s' at h6 ⊢;generalize tx [97+(c/(14+5*j)%26).toNat]=u at h2 h6;generalize tx (lets 97)=z at h2 ⊢;unfold Zu;simp! [h2,h3,h4,h5,h6]
theorem bj{F:Nat->List Nat}:(An 0 6).map (λq=>match q with| .int j=>Iv.P.str (tx (F j.toNat))|q=>q)=Ad ((List.range 6).map F):=by
 show _=((List.range 6).map F).map _;unfold An;rw[map_map,map_map]
 exact map_congr_left λj _=>by
  show Iv.P.str (tx (F (0+(j:Int)).toNat))=_;rw[show(0+(j:Int)).toNat=j by lia];rfl
theorem NM :∃fs,fs.length=6/\(∀l∈fs,ED l=true)/\A0 fns mt A1 (k + 1) 24 [.p (.int c)]= .ok (.lst (Ad fs)) [sP (.int c)]:=by
 have hz:(⟨#[97,98,99,100,101,102,103,104,105,106,107,108,109,110,111,112,113,114,115,116,117,118,119,120,121,122]⟩:Str)=tx (lets 97):=by kernel_rfl
 have hZ:(⟨#[65,66,67,68,69,70,71,72,73,74,75,76,77,78,79,80,81,82,83,84,85,86,87,88,89,90]⟩:Str)=tx (lets 65):=by kernel_rfl
 have hm2:=md (i:=c) (show(0:Int) < 2 by decide);have hf2:=fd (i:=c) (show(0:Int) < 2 by decide) (by decide)
 by_cases h2:c%2=0
 .refine⟨(List.range 6).map λ(j:Nat)=>[65+((c/2+(j:Int))%26).toNat],by simp,λl hl=>?_,?_⟩
  .obtain⟨j,_,rfl⟩:=mem_map.mp hl;show(decide (([]:List Nat).length<=7) && C7 _ && true)=true;rw[VL];rfl
  .have hcomp:ev (A0 fns mt A1 k) mt (.comp (.nm 1) .BC [.cst (.int 6)] [] (.prim .idx [.var 3,.prim .mod [.prim .add [.prim .fdiv [.var 2,.cst (.int 2)],.var 1],.cst (.int 26)]]) [none,none,some 0,some 2]) [sP (.int c),sP (.str (tx (lets 97))),sP (.str (tx (lets 65))),none,none,none,none]= .ok (.lst ((An 0 6).map λq=>match q with| .int j=>.str (tx ((λj:Nat=>[65 + ((c / 2 + (j:Int)) % 26).toNat]) j.toNat))|q=>q)) [sP (.int c),sP (.str (tx (lets 97))),sP (.str (tx (lets 65))),none,none,none,none]:=by
    refine DD (h:=.AI (.p (.int 6))) (c:=.p (.int 6)) (xs:=An 0 6) (r:=[sP (.int c),sP (.str (tx (lets 65)))]) rfl rfl rfl rfl rfl rfl (by rw[AB];unfold big;lia) rfl rfl (λ_=>rfl) λq hq=>?_
    unfold An at hq;obtain⟨j,hj,rfl⟩:=mem_map.mp hq;rw[show(0:Int)+(j:Int)=(j:Int)by lia];have hl:=E7 (c/2+(j:Int));have g2:=DP (b:=65) hl.1 hl.2;have h5:=md (i:=c/2+(j:Int)) (show(0:Int) < 26 by decide);show _=Res.ok (C.p (.str (tx [65+((c/2+(j:Int))%26).toNat]))) _;generalize tx [65+((c/2+(j:Int))%26).toNat]=u at g2 ⊢;generalize tx (lets 65)=zz at g2 ⊢;simp! [g2,hf2,h5]
   rw[bj (F:=λj:Nat=>[65+((c/2+(j:Int))%26).toNat])]at hcomp;generalize Ad ((List.range 6).map λj:Nat=>[65+((c/2+(j:Int))%26).toNat])=res at hcomp ⊢
   suffices e:execs (A0 fns mt A1 k) mt A1 eN [sP (.int c),none,none,none,none,none,none]= .ok (.ret (.lst res)) [sP (.int c),sP (.str (tx (lets 97))),sP (.str (tx (lets 65))),none,none,none,none]from Ac cn rfl rfl e (by kernel_rfl)
   have h0:Fp (.int (c%2)) (.int 0)=some true:=by rw[eq_int];exact congrArg some (decide_eq_true h2)
   rw[QO,hz,hZ];generalize tx (lets 97)=zz at hcomp ⊢;generalize tx (lets 65)=zZ at hcomp ⊢;simp! [hm2,h0,↓hcomp]
 .have h7:0<=c/2%7/\c/2%7 < 7:=⟨Int.emod_nonneg _ (by decide),Int.emod_lt_of_pos _ (by decide)⟩;obtain⟨s,y3,hsl,hlow,hloop⟩:=HS (n:=c/2%7) (B:=execs (A0 fns mt A1 k) mt A1 Zu) (E:=λs y=>[sP (.int c),sP (.str (tx (lets 97))),sP (.str (tx (lets 65))),y,sP (.str (tx s)),none,none]) (by lia) (λ_ _ _=>rfl) (λj s h0 h1 hs=>⟨_,Mz _,TC h0 (by lia) hs⟩) (by lia);have hi:0<=c/64%((s.length:Int)+1)/\c/64%((s.length:Int)+1) < (s.length:Int)+1:=⟨Int.emod_nonneg _ (by lia),Int.emod_lt_of_pos _ (by lia)⟩;have hm7:=md (i:=c/2) (show(0:Int) < 7 by decide)
  have hfor:exec (A0 fns mt A1 k) mt A1 (.CV (.nm 3) .BC [.prim .mod [.prim .fdiv [.var 0,.cst (.int 2)],.cst (.int 7)]] Zu) [sP (.int c),sP (.str (tx (lets 97))),sP (.str (tx (lets 65))),none,sP (.str (tx [])),none,none]= .ok .nx [sP (.int c),sP (.str (tx (lets 97))),sP (.str (tx (lets 65))),y3,sP (.str (tx s)),none,none]:=
   (Lo (n:=c / 2 % 7) (by
    generalize tx (lets 97)=zz;generalize tx (lets 65)=zZ
    simp! [hf2,hm7]) (by lia)).trans hloop
  have hlen:=Ep (l:=s) (by unfold big;lia);have hf64:=fd (i:=c) (show(0:Int) < 64 by decide) (by decide);have hf3:=fd (i:=c) (show(0:Int) < 3 by decide) (by decide);have hm3:=md (i:=c/3) (show(0:Int) < 26 by decide);have hmd:=md (i:=c/64) (show(0:Int) < (s.length:Int)+1 by lia);have hcl:=VG hi.1 (by lia) (show s.length<=1000 by lia);have hch:=VH hi.1 (by lia) (show s.length<=1000 by lia);have hl3:=E7 (c/3);have g3:=DP (b:=65) hl3.1 hl3.2;have hca:=VL (c/3);generalize 65+(c/3%26).toNat=ca at g3 hca;generalize hI:c/64%((s.length:Int)+1)=i at hi hmd hcl hch;have hfi:=AA (a:=[ca]) (b:=s.take i.toNat) (by unfold big;simp;lia);refine⟨(List.range 6).map λ(j:Nat)=>[ca]++s.take i.toNat++[97+((c/512+(j:Int))%26).toNat]++s.drop i.toNat,by simp,λl hl=>?_,?_⟩
  .obtain⟨j,_,rfl⟩:=mem_map.mp hl;have e9:[ca]++s.take i.toNat++[97+((c/512+(j:Int))%26).toNat]++s.drop i.toNat=ca::(s.take i.toNat++([97+((c/512+(j:Int))%26).toNat]++s.drop i.toNat)):=by simp
   rw[e9];show(decide (_<=7) && C7 ca && List.all _ low)=true;rw[hca,bA,bA];refine⟨⟨decide_eq_true (by simp;lia),rfl⟩,all_eq_true.mpr λx hx=>?_⟩;rcases mem_append.mp hx with z|z
   .exact hlow x (List.mem_of_mem_take z)
   .rcases mem_append.mp z with z|z
    .rw[mE z];exact Mz _
    .exact hlow x (List.mem_of_mem_drop z)
  .have hcomp:ev (A0 fns mt A1 k) mt (.comp (.nm 1) .BC [.cst (.int 6)] [] (.prim .add [.prim .add [.var 4,.prim .idx [.var 5,.prim .mod [.prim .add [.prim .fdiv [.var 3,.cst (.int 512)],.var 1],.cst (.int 26)]]],.prim (.D4 true false) [.var 6,.var 2]]) [none,none,some 5,some 0,some 6,some 1,some 4]) [sP (.int c),sP (.str (tx (lets 97))),sP (.str (tx (lets 65))),y3,sP (.str (tx s)),sP (.int i),sP (.str (tx ([ca]++s.take i.toNat)))]= .ok (.lst ((An 0 6).map λq=>match q with| .int j=>.str (tx ((λj:Nat=>[ca]++s.take i.toNat++[97 + ((c / 512 + (j:Int)) % 26).toNat]++s.drop i.toNat) j.toNat))|q=>q)) [sP (.int c),sP (.str (tx (lets 97))),sP (.str (tx (lets 65))),y3,sP (.str (tx s)),sP (.int i),sP (.str (tx ([ca]++s.take i.toNat)))]:=by
    refine DD (h:=.AI (.p (.int 6))) (c:=.p (.int 6)) (xs:=An 0 6) (r:=[sP (.int i),sP (.int c),sP (.str (tx ([ca]++s.take i.toNat))),sP (.str (tx (lets 97))),sP (.str (tx s))]) rfl rfl rfl rfl rfl rfl (by rw[AB];unfold big;lia) rfl rfl (λ_=>rfl) λq hq=>?_
    unfold An at hq;obtain⟨j,hj,rfl⟩:=mem_map.mp hq;rw[show(0:Int)+(j:Int)=(j:Int)by lia];have hl:=E7 (c/512+(j:Int));have g2:=DP (b:=97) hl.1 hl.2;have h4:=fd (i:=c) (show(0:Int) < 512 by decide) (by decide);have h5:=md (i:=c/512+(j:Int)) (show(0:Int) < 26 by decide);have h6:=AA (a:=[ca]++s.take i.toNat) (b:=[97+((c/512+(j:Int))%26).toNat]) (by unfold big;simp;lia);have h7:=AA (a:=[ca]++s.take i.toNat++[97+((c/512+(j:Int))%26).toNat]) (b:=s.drop i.toNat) (by unfold big;simp;lia);show _=Res.ok (C.p (.str (tx ([ca]++s.take i.toNat++[97+((c/512+(j:Int))%26).toNat]++s.drop i.toNat)))) _;generalize [ca]++s.take i.toNat++[97+((c/512+(j:Int))%26).toNat]++s.drop i.toNat=z3 at h7 ⊢;generalize tx ([ca]++s.take i.toNat++[97+((c/512+(j:Int))%26).toNat])=z2 at h6 h7;generalize tx [97+((c/512+(j:Int))%26).toNat]=u at g2 h6;generalize tx ([ca]++s.take i.toNat)=z0 at h6 ⊢;generalize tx (s.drop i.toNat)=z1 at hch h7;generalize tx (lets 97)=zz at g2 ⊢;generalize tx s=sx at hch ⊢;simp! [g2,h4,h5,h6,h7,hch]
   rw[bj (F:=λj:Nat=>[ca]++s.take i.toNat++[97+((c/512+(j:Int))%26).toNat]++s.drop i.toNat)]at hcomp;generalize Ad ((List.range 6).map λj:Nat=>[ca]++s.take i.toNat++[97+((c/512+(j:Int))%26).toNat]++s.drop i.toNat)=res at hcomp ⊢;generalize tx ([ca]++s.take i.toNat)=z0 at hfi hcomp
   suffices e:execs (A0 fns mt A1 k) mt A1 eN [sP (.int c),none,none,none,none,none,none]= .ok (.ret (.lst res)) [sP (.int c),sP (.str (tx (lets 97))),sP (.str (tx (lets 65))),y3,sP (.str (tx s)),sP (.int i),sP (.str z0)]from Ac cn rfl rfl e (by kernel_rfl)
   have h0:Fp (.int (c%2)) (.int 0)=some false:=by rw[eq_int];exact congrArg some (dF h2)
   rw[QO,hz,hZ];generalize tx (lets 97)=zz at hfor hcomp ⊢;generalize tx (lets 65)=zZ at hfor hcomp g3 ⊢;generalize tx (s.take i.toNat)=zt at hcl hfi;generalize tx [ca]=zc at g3 hfi;generalize tx s=sx at hfor hcomp hlen hcl hch ⊢;generalize s.length=m1 at hlen hmd;simp! [hm2,h0,↓hfor,hlen,hf64,hmd,hf3,hm3,g3,hcl,hfi,↓hcomp]
end Lk51
namespace Iv
open PySem
variable{cf:CF}{mt:MT}
theorem Iw{gs:List (Nat×C)}{cond:Env->Res Bool}{elt:Env->Res C}{J:List P->Env->Prop}(hg:∀ys β,J ys β->holds gs β=true):∀(xs acc:List P) (β:Env),(∀x∈xs,∀ys β,J ys β->∃β1 y β',DY g x β=some β1/\cond β1= .ok true β1/\elt β1= .ok (.p y) β'/\J (ys++[y]) β')->J acc β->∃ys β',J ys β'/\ys.length=acc.length + xs.length/\Cc g gs cond elt xs acc β= .ok ys β'
 | [],acc,β,_,h=>⟨acc,β,h,by simp,by
   show(if holds gs β then _ else _)=_
   rw[hg _ β h];rfl⟩
 | x::xs,acc,β,hs,h=>by
   obtain⟨β1,y,β',e1,e2,e3,h'⟩:=hs x mS acc β h;obtain⟨ys,β2,q1,q2,q4⟩:=Iw hg xs (acc++[y]) β' (λz hz=>hs z (mC hz)) h';refine⟨ys,β2,q1,by rw[q2,lA,lS,lC];lia,?_⟩
   conv=>lhs;unfold Cc
   rw[iP (hg _ β h),e1,Res.Ms,Res.A3,e2,Res.A3,iP rfl,e3,Res.A3];exact q4
theorem Y3{xs:List P}{i:Int}(h:0<=i):D3 (.b (.lst xs)) (some i) none=some (.lst (xs.drop i.toNat)):=by
 show some (C.lst (cut xs (some i) none))=_;unfold cut LZ;dsimp only;rw[iN (by lia)]
 by_cases hl:i.toNat<=xs.length
 .rw[Nat.min_eq_left hl,take_of_length_le (by rw[length_drop];exact lR)]
 .rw[Nat.min_eq_right (by lia),List.drop_of_length_le (l:=xs) (i:=xs.length) (lR),List.drop_of_length_le (l:=xs) (i:=i.toNat) (by lia),List.take_nil]
theorem Y2{xs:List P}{i:Int}(h:0<=i):D3 (.b (.lst xs)) none (some i)=some (.lst (xs.take i.toNat)):=by
 show some (C.lst (cut xs none (some i)))=_;unfold cut LZ;dsimp only;rw[iN (by lia),List.drop_zero,Nat.sub_zero]
 by_cases hl:i.toNat<=xs.length
 .rw[Nat.min_eq_left hl]
 .rw[Nat.min_eq_right (by lia),take_of_length_le (lR),take_of_length_le (by lia)]
theorem Yc{f:Nat}{r:Env}(e:cf f [.lst l]= .ok z [sL l']):ev cf mt (.call f [.var 0]) (some (.lst l)::r)= .ok z (some (.lst l')::r):=by
 rw[Bp];show AH cf f [.slot 0] (some (.lst l)::r)=_;unfold AH;rw[show Ai (some (.lst l)::r) [.slot 0]=some [.lst l]from rfl];dsimp only;rw[iP ⟨by show([0]:List Nat).Nodup;decide,rfl⟩,e];rfl
theorem Yb{f:Nat}{r:Env}(ht:ev cf mt t (some (.lst l)::some (.lst n)::some (.lst m)::some (.p d)::r)= .ok (.p e) (some (.lst l)::some (.lst n)::some (.lst m)::some (.p d)::r))(hh:BA t (ev cf mt t) (some (.lst l)::some (.lst n)::some (.lst m)::some (.p d)::r)=jH (ev cf mt t (some (.lst l)::some (.lst n)::some (.lst m)::some (.p d)::r)))(he:cf f [.lst l,.lst n,.lst m,.p e]= .ok z [sL l',sL n,sL m,sP e]):
 ev cf mt (.call f [.var 0,.var 1,.var 2,t]) (some (.lst l)::some (.lst n)::some (.lst m)::some (.p d)::r)= .ok z (some (.lst l')::some (.lst n)::some (.lst m)::some (.p d)::r):=by
 rw[Bp]
 have ha:A9 cf mt [.var 0,.var 1,.var 2,t] (some (.lst l)::some (.lst n)::some (.lst m)::some (.p d)::r)= .ok [.slot 0,.slot 1,.slot 2,.AI (.p e)] (some (.lst l)::some (.lst n)::some (.lst m)::some (.p d)::r):=by
  rw[Bh,GA,Zf,Gz,JO,Bh,GA,Ze,Gz,JO,Bh,GA,iy,Gz,JO,Bh,hh,ht];rfl
 rw[ha];show AH cf f [.slot 0,.slot 1,.slot 2,.AI (.p e)] (some (.lst l)::some (.lst n)::some (.lst m)::some (.p d)::r)=_;unfold AH;rw[show Ai (some (.lst l)::some (.lst n)::some (.lst m)::some (.p d)::r) [.slot 0,.slot 1,.slot 2,.AI (.p e)]=some [.lst l,.lst n,.lst m,.p e]from rfl];dsimp only;rw[iP ⟨by show([0,1,2]:List Nat).Nodup;decide,rfl⟩,he];rfl
end Iv
namespace Lk51
open Iv PySem
variable{k:Nat}
noncomputable def Zt:List S:=[.asg (.nm 11) (.prim (.D4 false true) [.prim (.D4 true false) [.var 1,.prim .mod [.prim .fdiv [.var 4,.cst (.int 24)],.cst (.int 4)]],.prim .mod [.prim .add [.prim .fdiv [.var 4,.cst (.int 96)],.var 7],.cst (.int 4)]]),.expr (.ES .append (.var 10) [.tup [.prim .idx [.var 2,.prim .mod [.prim .add [.prim .fdiv [.var 4,.cst (.int 400)],.var 7],.cst (.int 6)]],.prim (.tuple .op) [.var 11],.call 27 [.var 0,.var 1,.var 2,.prim .sub [.var 3,.cst (.int 1)]]]])]
theorem JK:Zm=[.asg (.nm 4) (.call 25 [.var 0]),.asg (.nm 5) (.prim .mod [.var 4,.cst (.int 6)]),.ifs (.or (.prim .eq [.var 3,.cst (.int 0)]) (.prim .lt [.var 5,.cst (.int 2)])) [.ret (some (.prim .idx [.lst [.tup [.cst (.str ⟨#[110,117,109,98,101,114]⟩),.call 26 [.prim .fdiv [.var 4,.cst (.int 6)]]],.tup [.cst (.str ⟨#[110,97,109,101]⟩),.prim .idx [.var 1,.prim .mod [.prim .fdiv [.var 4,.cst (.int 6)],.cst (.int 6)]]]],.prim .mod [.prim .fdiv [.var 4,.cst (.int 36)],.cst (.int 2)]]))] [],.ifs (.prim .lt [.var 5,.cst (.int 5)]) [.asg (.nm 6) (.prim .idx [.lst [.prim .mod [.prim .fdiv [.var 4,.cst (.int 6)],.cst (.int 4)],.cst (.int 3),.cst (.int 1),.cst (.int 0)],.prim .mod [.prim .fdiv [.var 4,.cst (.int 24)],.cst (.int 4)]]),.asg (.nm 8) (.prim (.tuple .op) [.comp (.nm 1) .BC [.var 6] [] (.call 27 [.var 2,.var 5,.var 4,.prim .sub [.var 3,.cst (.int 1)]]) [none,none,some 0,some 3,some 2,some 1]]),.ifs (.prim .eq [.prim .mod [.var 5,.cst (.int 2)],.cst (.int 0)]) [.ret (some (.tup [.cst (.str ⟨#[102,111,114,109]⟩),.prim .idx [.var 2,.prim .mod [.prim .fdiv [.var 4,.cst (.int 100)],.cst (.int 6)]],.var 8]))] [],.ret (some (.tup [.cst (.str ⟨#[99,97,108,108]⟩),.prim .idx [.var 1,.prim .mod [.prim .fdiv [.var 4,.cst (.int 100)],.cst (.int 6)]],.var 8]))] [],.asg (.nm 9) (.call 27 [.var 0,.var 1,.var 2,.prim .sub [.var 3,.cst (.int 1)]]),.asg (.nm 10) (.lst []),.CV (.nm 7) .BC [.prim .add [.cst (.int 1),.prim .mod [.prim .fdiv [.var 4,.cst (.int 6)],.cst (.int 4)]]] Zt,.ret (some (.tup [.cst (.str ⟨#[99,97,115,101]⟩),.var 9,.prim (.tuple .op) [.var 10]]))]:=rfl
structure VS(ns fs:List (List Nat)):Prop where
 n6:ns.length=6
 nm:∀l∈ns,Lx l=true
 nd:ns.Nodup
 f6:fs.length=6
 fm:∀l∈fs,ED l=true
theorem Xj{s:List Nat}{i:Nat}(hs:s.length<=7)(hl:∀ch∈s,low ch=true)(hi:i<=s.length):(∀l∈(List.range 6).map (Ki s i c),Lx l=true)/\((List.range 6).map (Ki s i c)).Nodup:=by
 refine⟨λl hm=>?_,?_⟩
 .obtain⟨j,_,rfl⟩:=mem_map.mp hm;unfold Lx;rw[bA,bA];refine⟨⟨decide_eq_true (by unfold Ki;simp;lia),decide_eq_true (by unfold Ki;simp;lia)⟩,all_eq_true.mpr λx hx=>?_⟩;unfold Ki at hx;rcases mem_append.mp hx with z|z
  .rcases mem_append.mp z with z|z
   .exact hl x (List.mem_of_mem_take z)
   .rw[mE z];exact Mz _
  .exact hl x (List.mem_of_mem_drop z)
 .refine List.pairwise_map.mpr ?_;refine List.Pairwise.imp_of_mem (λ{a b} ha hb hab z=>?_) (List.nodup_range (n:=6));have ha:=mem_range.mp ha;have hb:=mem_range.mp hb;unfold Ki at z;rw[append_assoc,append_assoc]at z;have z:=List.append_cancel_left z;rw[cons_append,cons_append]at z;injection z with z _
  have h1:=E7 (c/512+(a:Int));have h2:=E7 (c/512+(b:Int));exact hab (by lia)
abbrev Ci(i:Int):Option C:=some (.p (.int i))
def L8(k d:Nat)(ns fs:List (List Nat)):Prop:=∀cells:List Int,(∀i∈cells,0<=i)->cells.length<=7->∃p cells',Ex (d + 1) p/\(∀i∈cells',0<=i)/\cells'.length<=cells.length/\sz (d + 1) p + 5 * cells'.length<=1 + 5 * cells.length/\
 A0 fns mt A1 k 27 [BK cells,.lst (Ad ns),.lst (Ad fs),.p (.int d)]= .ok (.p p) [some (BK cells'),sL (Ad ns),sL (Ad fs),Ci d]
theorem FP{ls:List (List Nat)}{i:Int}(h0:0<=i)(h1:i < ls.length):∃l∈ls,CL (.b (.lst (Ad ls))) (.b (.p (.int i)))=some (.p (.str (tx l))):=by
 obtain⟨j,rfl⟩:=Int.eq_ofNat_of_zero_le h0;have hj:j < ls.length:=by lia
 exact⟨ls[j],getElem_mem hj,Dk (l:=Ad ls) (k:=j) (by rw[List.getElem?_map,List.getElem?_eq_getElem hj];rfl)⟩
theorem m6(c:Int):0<=c%6/\c%6 < 6:=⟨Int.emod_nonneg _ (by decide),Int.emod_lt_of_pos _ (by decide)⟩
theorem m4(c:Int):0<=c%4/\c%4 < 4:=⟨Int.emod_nonneg _ (by decide),Int.emod_lt_of_pos _ (by decide)⟩
theorem Ta{ns fs:List (List Nat)}{cell:Int}(S6:VS ns fs)(h0:0<=cell):∃p,(∀n,Ex (n + 1) p/\sz (n + 1) p=1)/\ev (A0 fns mt A1 (k + 1)) mt (.prim .idx [.lst [.tup [.cst (.str ⟨#[110,117,109,98,101,114]⟩),.call 26 [.prim .fdiv [.var 4,.cst (.int 6)]]],.tup [.cst (.str ⟨#[110,97,109,101]⟩),.prim .idx [.var 1,.prim .mod [.prim .fdiv [.var 4,.cst (.int 6)],.cst (.int 6)]]]],.prim .mod [.prim .fdiv [.var 4,.cst (.int 36)],.cst (.int 2)]]) [sL l,sL (Ad ns),sL (Ad fs),Ci d,Ci cell,Ci (cell % 6),none,none,none,none,none,none]= .ok (.p p) [sL l,sL (Ad ns),sL (Ad fs),Ci d,Ci cell,Ci (cell % 6),none,none,none,none,none,none]:=by
 obtain⟨i,hi,hn⟩:=HE (c:=cell/6) (Int.ediv_nonneg h0 (by decide));have hm:=m6 (cell/6);obtain⟨x,hx,hxi⟩:=FP (ls:=ns) hm.1 (by rw[S6.n6];exact hm.2);have hf6:=fd (i:=cell) (show(0:Int) < 6 by decide) (by decide);have hf36:=fd (i:=cell) (show(0:Int) < 36 by decide) (by decide);have hm6:=md (i:=cell/6) (show(0:Int) < 6 by decide);have hm2:=md (i:=cell/36) (show(0:Int) < 2 by decide);have h2:0<=cell/36%2/\cell/36%2 < 2:=⟨Int.emod_nonneg _ (by decide),Int.emod_lt_of_pos _ (by decide)⟩;generalize Ad ns=N at hxi ⊢;generalize Ad fs=F;have hc:ev (A0 fns mt A1 (k+1)) mt (.call 26 [.prim .fdiv [.var 4,.cst (.int 6)]]) [sL l,sL N,sL F,Ci d,Ci cell,Ci (cell%6),none,none,none,none,none,none]= .ok (.p (.int i)) [sL l,sL N,sL F,Ci d,Ci cell,Ci (cell%6),none,none,none,none,none,none]:=Fh (by simp! [hf6]) (hn k);have hsel:cell/36%2=0\/cell/36%2=1:=by lia
 rcases hsel with z|z
 .refine⟨.tup [.str Dt,.int i],λn=>⟨.num i hi,rfl⟩,?_⟩;have hi0:CL (.b (.lst [.tup [.str Dt,.int i],.tup [.str Cs,.str (tx x)]])) (.b (.p (.int 0)))=some (.p (.tup [.str Dt,.int i])):=Dk (k:=0) rfl;rw[z]at hm2;generalize tx x=xx at hxi hi0;simp! [hf6,hf36,hm6,hm2,hxi,↓hc,hi0]
 .refine⟨.tup [.str Cs,.str (tx x)],λn=>⟨.O6 x (S6.nm x hx),rfl⟩,?_⟩;have hi0:CL (.b (.lst [.tup [.str Dt,.int i],.tup [.str Cs,.str (tx x)]])) (.b (.p (.int 1)))=some (.p (.tup [.str Cs,.str (tx x)])):=Dk (k:=1) rfl;rw[z]at hm2;generalize tx x=xx at hxi hi0 ⊢;simp! [hf6,hf36,hm6,hm2,hxi,↓hc,hi0]
end Lk51
namespace Iv
open PySem
variable{cf:CF}{mt:MT}
theorem Hv{kd:IK}{t elt:T}{h:Hd}{c:C}{xs:List P}{fr:List (Option Nat)}{J:List P->Env->Prop}(hk:kd.ok=true)(ha:A9 cf mt [t] ρ= .ok [h] ρ)(hc:h.cont ρ=some c)(hgf:AD [h] [c]=true)(hgu:guards [h] [c]=[])(hs:Aw kd [c]=some xs)(hl:xs.length<=big)(Ak:Fi (.nm 1) fr=true)(h0:J [] (Bv fr ρ))
 (turn:∀x∈xs,∀ys β,J ys β->∃β1 y β',DY (.nm 1) x β=some β1/\ev cf mt elt β1= .ok (.p y) β'/\J (ys++[y]) β'):
 ∃ys β,J ys β/\ys.length=xs.length/\ev cf mt (.comp (.nm 1) kd [t] [] elt fr) ρ= .ok (.lst ys) (AJ (CA fr ρ) fr β):=by
 obtain⟨ys,β,q1,q2,q3⟩:=Iw (g:=.nm 1) (gs:=[]) (cond:=Ht cf mt []) (elt:=ev cf mt elt) (J:=J) (λ_ _ _=>rfl) xs [] (Bv fr ρ) (λx hx ys β hJ=>by
  obtain⟨β1,y,β',e1,e2,e3⟩:=turn x hx ys β hJ
  exact⟨β1,y,β',e1,Hs β1,e2,e3⟩) h0
 refine⟨ys,β,q1,by rw[q2];simp,?_⟩;rw[Jv];show(if kd.ok=true then(A9 cf mt [t] ρ).bind _ else _)=_;rw[iP hk,ha,Res.A3];have hco:Ai ρ [h]=some [c]:=by show((h.cont ρ).bind λc=>_)=_;rw[hc];rfl
 unfold Iy;rw[hco];dsimp only;rw[hs];dsimp only;have hbg:BF fr [h] [c]=[]:=by unfold BF;rw[hgu];rfl
 rw[hgf,Ak,decide_eq_true hl,hbg,q3];rfl
variable{a0 a1 a2 a3 a4 a5 a6 a7 a8 a9:Option C}
theorem bL{r:Env}:A7 (a0::a1::a2::a3::a4::a5::a6::a7::a8::a9::some c::r) 10=some c:=rfl
theorem gv{a10:Option C}{r:Env}:A7 (a0::a1::a2::a3::a4::a5::a6::a7::a8::a9::a10::some c::r) 11=some c:=rfl
end Iv
namespace Lk51
open Iv PySem
variable{k:Nat}
abbrev W6(i:Nat):T:=.prim .sub [.var i,.cst (.int 1)]
variable{cf:CF}
theorem QJ{f:Nat}(he:cf f [.lst l,.lst n,.lst m,.p (.int d)]= .ok z [sL l',sL n,sL m,Ci d]):
 ev cf mt (.call f [.var 2,.var 5,.var 4,W6 3]) [none,sP x,sL l,Ci (d+1),sL m,sL n]= .ok z [none,sP x,sL l',Ci (d+1),sL m,sL n]:=by
 rw[Bp]
 have ha:A9 cf mt [.var 2,.var 5,.var 4,W6 3] [none,sP x,sL l,Ci (d + 1),sL m,sL n]= .ok [.slot 2,.slot 5,.slot 4,.AI (.p (.int d))] [none,sP x,sL l,Ci (d + 1),sL m,sL n]:=by
  simp! []
 rw[ha];show AH cf f [.slot 2,.slot 5,.slot 4,.AI (.p (.int d))] [none,sP x,sL l,Ci (d+1),sL m,sL n]=_;unfold AH;rw[show Ai [none,sP x,sL l,Ci (d+1),sL m,sL n] [.slot 2,.slot 5,.slot 4,.AI (.p (.int d))]=some [.lst l,.lst n,.lst m,.p (.int d)]from rfl];dsimp only;rw[iP ⟨by show([2,5,4]:List Nat).Nodup;decide,rfl⟩,he];rfl
theorem MC{f:Nat}{r:Iv.Env}(he:cf f [.lst l,.lst n,.lst m,.p (.int d)]= .ok z [sL l',sL n,sL m,Ci d]):
 ev cf mt (.call f [.var 0,.var 1,.var 2,W6 3]) (some (.lst l)::some (.lst n)::some (.lst m)::Ci (d+1)::r)= .ok z (some (.lst l')::some (.lst n)::some (.lst m)::Ci (d+1)::r):=
 Yb (by simp! []) rfl he
theorem Ot(f:Iv.P->Nat)(ys:List Iv.P)(y:Iv.P):((ys++[y]).map f).sum=(ys.map f).sum+f y:=by simp
variable{ns:List (List Nat)}{y4 y5:Option C}
theorem QX{fs:List (List Nat)}{d:Nat}{cells:List Int}{many:Int}(ih:L8 k d ns fs)(h0:∀i∈cells,0<=i)(hl:cells.length<=7)(hm:0<=many/\many<=3):
 ∃ ys cells',(∀q∈ys,Ex (d + 1) q)/\ys.length<=3/\(∀i∈cells',0<=i)/\cells'.length<=cells.length/\(ys.map (sz (d + 1))).sum + 5 * cells'.length<=ys.length + 5 * cells.length/\
   ev (A0 fns mt A1 k) mt (.comp (.nm 1) .BC [.var 6] [] (.call 27 [.var 2,.var 5,.var 4,.prim .sub [.var 3,.cst (.int 1)]]) [none,none,some 0,some 3,some 2,some 1]) [some (BK cells),sL (Ad ns),sL (Ad fs),Ci (d+1),y4,y5,Ci many,none,none,none,none,none]= .ok (.lst ys) [some (BK cells'),sL (Ad ns),sL (Ad fs),Ci (d+1),y4,y5,Ci many,none,none,none,none,none]:=by
 generalize hρ:([some (BK cells),sL (Ad ns),sL (Ad fs),Ci (d+1),y4,y5,Ci many,none,none,none,none,none]:Iv.Env)=ρ
 obtain⟨ys,β,⟨c',y,q1,q2,q3,q4,rfl⟩,hlen,e⟩:=Hv (cf:=A0 fns mt A1 k) (mt:=mt) (kd:=.BC) (t:=.var 6) (elt:=.call 27 [.var 2,.var 5,.var 4,.prim .sub [.var 3,.cst (.int 1)]]) (h:=.slot 6) (c:=.p (.int many)) (xs:=An 0 many) (ρ:=ρ) (fr:=[none,none,some 0,some 3,some 2,some 1])
  (J:=λys β=>∃c' y,(∀q∈ys,Ex (d+1) q)/\(∀i∈c',(0:Int)<=i)/\c'.length<=cells.length/\(ys.map (sz (d+1))).sum+5*c'.length<=ys.length+5*cells.length/\β=[none,y,some (BK c'),Ci (d+1),sL (Ad fs),sL (Ad ns)])
  rfl (by subst hρ;rfl) (by subst hρ;rfl) rfl rfl (by show(if many.natAbs < 2 ^ 61 then _ else _)=_;rw[iP (by lia)]) (by rw[AB];unfold big;lia) rfl (by
   subst hρ;exact⟨cells,none,λq hq=>(by cases hq),h0,lR,by simp,rfl⟩) (by
   intro x hx ys β hJ;obtain⟨c',y,q1,q2,q3,q4,rfl⟩:=hJ;obtain⟨p,c2,r1,r2,r3,r4,r5⟩:=ih c' q2 (by lia);refine⟨_,p,_,rfl,QJ r5,c2,_,?_,r2,by lia,?_,rfl⟩
   .intro q hq;rcases mem_append.mp hq with z|z
    .exact q1 q z
    .rw[mE z];exact r1
   .rw[Ot,lA,lS];lia)
 refine⟨ys,c',q1,by rw[hlen,AB];lia,q2,q3,q4,?_⟩;rw[e,<-hρ];rfl
abbrev V8:T:=.or (.prim .eq [.var 3,.cst (.int 0)]) (.prim .lt [.var 5,.cst (.int 2)])
variable{cell way:Int}
theorem fU{d:Int}(h:d=0\/way < 2):tv cf mt V8 [sL l,sL n,sL m,Ci d,Ci cell,Ci way,none,none,none,none,none,none]= .ok true [sL l,sL n,sL m,Ci d,Ci cell,Ci way,none,none,none,none,none,none]:=by
 by_cases hd:d=0
 .have h1:Fp (.int d) (.int 0)=some true:=by rw[eq_int];exact congrArg some (decide_eq_true hd)
  simp! [h1]
 .have h1:Fp (.int d) (.int 0)=some false:=by rw[eq_int];exact congrArg some (dF hd)
  have h2:way < 2:=h.resolve_left hd;simp! [h1,h2]
theorem aM{d:Int}(hd:d≠0)(h2:¬way < 2):tv cf mt V8 [sL l,sL n,sL m,Ci d,Ci cell,Ci way,none,none,none,none,none,none]= .ok false [sL l,sL n,sL m,Ci d,Ci cell,Ci way,none,none,none,none,none,none]:=by
 have h1:Fp (.int d) (.int 0)=some false:=by rw[eq_int];exact congrArg some (dF hd)
 simp! [h1,h2]
theorem L0{fs:List (List Nat)}{d:Int}(S6:VS ns fs)(h0:0<=cell)(hn:A0 fns mt A1 (k + 1) 25 [BK l]= .ok (.p (.int cell)) [some (BK l')])(h:d=0\/cell % 6 < 2):
 ∃p,(∀n,Ex (n+1) p/\sz (n+1) p=1)/\A0 fns mt A1 (k+2) 27 [BK l,.lst (Ad ns),.lst (Ad fs),.p (.int d)]= .ok (.p p) [some (BK l'),sL (Ad ns),sL (Ad fs),Ci d]:=by
 obtain⟨p,hp,hv⟩:=Ta (k:=k) (d:=d) (l:=l'.map .int) S6 h0;refine⟨p,hp,?_⟩;have h25:ev (A0 fns mt A1 (k+1)) mt (.call 25 [.var 0]) [some (BK l),sL (Ad ns),sL (Ad fs),Ci d,none,none,none,none,none,none,none,none]= .ok (.p (.int cell)) [some (BK l'),sL (Ad ns),sL (Ad fs),Ci d,none,none,none,none,none,none,none,none]:=Yc hn;have hor:=fU (cf:=A0 fns mt A1 (k+1)) (l:=l'.map .int) (n:=Ad ns) (m:=Ad fs) (d:=d) (cell:=cell) (way:=cell%6) h;have hm:=md (i:=cell) (show(0:Int) < 6 by decide);unfold BK at h25 ⊢;generalize Ad ns=N at h25 hor hv ⊢;generalize Ad fs=F at h25 hor hv ⊢;generalize l.map Iv.P.int=L at h25 ⊢;generalize l'.map Iv.P.int=L' at h25 hor hv ⊢
 have e:execs (A0 fns mt A1 (k + 1)) mt A1 Zm [sL L,sL N,sL F,Ci d,none,none,none,none,none,none,none,none]= .ok (.ret (.p p)) [sL L',sL N,sL F,Ci d,Ci cell,Ci (cell % 6),none,none,none,none,none,none]:=by
  rw[JK];simp! [↓h25,hm,↓hor,↓hv]
 exact Ac XI rfl rfl e (by kernel_rfl)
variable{l':List Int}
theorem Ur{fs:List (List Nat)}{d:Nat}(S6:VS ns fs)(ih:L8 (k + 1) d ns fs)(h0:0<=cell)(hl:∀i∈l',0<=i)(h7:l'.length<=7)(hn:A0 fns mt A1 (k + 1) 25 [BK l]= .ok (.p (.int cell)) [some (BK l')])(h2:¬cell % 6 < 2)(h5:cell % 6 < 5):
 ∃p cells',Ex (d+2) p/\(∀i∈cells',0<=i)/\cells'.length<=l'.length/\sz (d+2) p+5*cells'.length<=4+5*l'.length/\A0 fns mt A1 (k+2) 27 [BK l,.lst (Ad ns),.lst (Ad fs),.p (.int ((d:Int)+1))]= .ok (.p p) [some (BK cells'),sL (Ad ns),sL (Ad fs),Ci ((d:Int)+1)]:=by
 obtain⟨many,hmany,hmi⟩:∃many:Int,(0<=many/\many<=3)/\CL (.b (.lst [.int (cell / 6 % 4),.int 3,.int 1,.int 0])) (.b (.p (.int (cell / 24 % 4))))=some (.p (.int many)):=by
  have a1:=m4 (cell/6);have a2:=m4 (cell/24);have:cell/24%4=0\/cell/24%4=1\/cell/24%4=2\/cell/24%4=3:=by lia
  rcases this with z|z|z|z
  .exact⟨cell/6%4,by lia,by rw[z];exact Dk (k:=0) rfl⟩
  .exact⟨3,by lia,by rw[z];exact Dk (k:=1) rfl⟩
  .exact⟨1,by lia,by rw[z];exact Dk (k:=2) rfl⟩
  .exact⟨0,by lia,by rw[z];exact Dk (k:=3) rfl⟩
 obtain⟨ys,c',q1,q2,q3,q4,q5,hcmp⟩:=QX (y4:=Ci cell) (y5:=Ci (cell%6)) ih hl h7 hmany;have h25:ev (A0 fns mt A1 (k+1)) mt (.call 25 [.var 0]) [some (BK l),sL (Ad ns),sL (Ad fs),Ci ((d:Int)+1),none,none,none,none,none,none,none,none]= .ok (.p (.int cell)) [some (BK l'),sL (Ad ns),sL (Ad fs),Ci ((d:Int)+1),none,none,none,none,none,none,none,none]:=Yc hn;have hor:=aM (cf:=A0 fns mt A1 (k+1)) (l:=l'.map .int) (n:=Ad ns) (m:=Ad fs) (d:=(d:Int)+1) (cell:=cell) (way:=cell%6) (by lia) h2;have hm:=md (i:=cell) (show(0:Int) < 6 by decide);have hf6:=fd (i:=cell) (show(0:Int) < 6 by decide) (by decide);have hf24:=fd (i:=cell) (show(0:Int) < 24 by decide) (by decide);have hf100:=fd (i:=cell) (show(0:Int) < 100 by decide) (by decide);have hm64:=md (i:=cell/6) (show(0:Int) < 4 by decide);have hm244:=md (i:=cell/24) (show(0:Int) < 4 by decide);have hm1006:=md (i:=cell/100) (show(0:Int) < 6 by decide);have hmw:=md (i:=cell%6) (show(0:Int) < 2 by decide);have a3:=m6 (cell/100);obtain⟨x,hx,hxi⟩:=FP (ls:=ns) a3.1 (by rw[S6.n6];exact a3.2);obtain⟨g,hg,hgi⟩:=FP (ls:=fs) a3.1 (by rw[S6.f6];exact a3.2);have hsz:∀s:Str,sz (d+2) (.tup [.str s,.str (tx x),.tup ys])=1+(ys.map (sz (d+1))).sum:=λs=>rfl
 have hsz':∀s:Str,sz (d+2) (.tup [.str s,.str (tx g),.tup ys])=1+(ys.map (sz (d+1))).sum:=λs=>rfl
 by_cases hw:cell%6%2=0
 .refine⟨.tup [.str CQ,.str (tx g),.tup ys],c',.Hm g ys (S6.fm g hg) q2 q1,q3,q4,by rw[hsz'];lia,?_⟩;have he:Fp (.int (cell%2)) (.int 0)=some true:=by rw[eq_int];exact congrArg some (decide_eq_true (by lia))
  unfold BK at h25 hcmp ⊢;generalize Ad ns=N at h25 hor hcmp hxi ⊢;generalize Ad fs=F at h25 hor hcmp hgi ⊢;generalize l.map Iv.P.int=L at h25 ⊢;generalize l'.map Iv.P.int=L' at h25 hor hcmp ⊢;generalize c'.map Iv.P.int=L2 at hcmp ⊢;generalize tx g=gg at hgi ⊢
  have e:execs (A0 fns mt A1 (k + 1)) mt A1 Zm [sL L,sL N,sL F,Ci ((d:Int) + 1),none,none,none,none,none,none,none,none]= .ok (.ret (.p (.tup [.str CQ,.str gg,.tup ys]))) [sL L2,sL N,sL F,Ci ((d:Int) + 1),Ci cell,Ci (cell % 6),Ci many,none,sP (.tup ys),none,none,none]:=by
   rw[JK];simp! [↓h25,hm,↓hor,h5,hf6,hf24,hf100,hm64,hm244,hm1006,hmw,hmi,↓hcmp,he,hgi]
  exact Ac XI rfl rfl e (by kernel_rfl)
 .refine⟨.tup [.str Bz,.str (tx x),.tup ys],c',.call x ys (S6.nm x hx) q2 q1,q3,q4,by rw[hsz];lia,?_⟩;have he:Fp (.int (cell%2)) (.int 0)=some false:=by rw[eq_int];exact congrArg some (dF (by lia))
  unfold BK at h25 hcmp ⊢;generalize Ad ns=N at h25 hor hcmp hxi ⊢;generalize Ad fs=F at h25 hor hcmp hgi ⊢;generalize l.map Iv.P.int=L at h25 ⊢;generalize l'.map Iv.P.int=L' at h25 hor hcmp ⊢;generalize c'.map Iv.P.int=L2 at hcmp ⊢;generalize tx x=gg at hxi ⊢
  have e:execs (A0 fns mt A1 (k + 1)) mt A1 Zm [sL L,sL N,sL F,Ci ((d:Int) + 1),none,none,none,none,none,none,none,none]= .ok (.ret (.p (.tup [.str Bz,.str gg,.tup ys]))) [sL L2,sL N,sL F,Ci ((d:Int) + 1),Ci cell,Ci (cell % 6),Ci many,none,sP (.tup ys),none,none,none]:=by
   rw[JK];simp! [↓h25,hm,↓hor,h5,hf6,hf24,hf100,hm64,hm244,hm1006,hmw,hmi,↓hcmp,he,hxi]
  exact Ac XI rfl rfl e (by kernel_rfl)
theorem Xi{i m:Nat}(h:∀l∈ns,Lx l=true)(hd:ns.Nodup)(hm:m<=3):Ld ((ns.drop i).take m) where
 len:=by rw[length_take];lia
 nm:=λl hl=>by
   have:=h l (List.mem_of_mem_drop (List.mem_of_mem_take hl));obtain⟨h1,h2,h3,h4⟩:=AZ this;exact⟨this,h4,h2⟩
 nd:=hd.sublist ((List.take_sublist _ _).trans (List.drop_sublist _ _))
abbrev Z9:=List Nat×List (List Nat)×Iv.P
abbrev E1(a:Z9):Iv.P:=AW a.1 a.2.1 a.2.2
abbrev ic:T:=.call 27 [.var 0,.var 1,.var 2,.prim .sub [.var 3,.cst (.int 1)]]
variable{lz:List Iv.P}
theorem QS{fs:List (List Nat)}{as:List Z9}{y11:Option C}(S6:VS ns fs)(hin:∀r,ev (A0 fns mt A1 k) mt ic (some (.lst l)::some (.lst (Ad ns))::some (.lst (Ad fs))::Ci d::r)= .ok (.p p) (some (.lst lz)::some (.lst (Ad ns))::some (.lst (Ad fs))::Ci d::r))(hb:as.length < 1000):
 ∃g ls,ED g=true/\Ld ls/\execs (A0 fns mt A1 k) mt A1 Zt [sL l,sL (Ad ns),sL (Ad fs),Ci d,Ci cell,y5,none,Ci j,none,sP q0,sL (as.map E1),y11]= .ok .nx [sL lz,sL (Ad ns),sL (Ad fs),Ci d,Ci cell,y5,none,Ci j,none,sP q0,sL ((as++[(g,ls,p)]).map E1),sL (Ad ls)]:=by
 have a1:=m4 (cell/24);have a2:=m4 (cell/96+j);have a3:=m6 (cell/400+j);obtain⟨g,hg,hgi⟩:=FP (ls:=fs) a3.1 (by rw[S6.f6];exact a3.2);refine⟨g,(ns.drop (cell/24%4).toNat).take ((cell/96+j)%4).toNat,S6.fm g hg,Xi S6.nm S6.nd (by lia),?_⟩;have hc1:=Y3 (xs:=Ad ns) a1.1;have hc2:=Y2 (xs:=(Ad ns).drop (cell/24%4).toNat) a2.1
 have he:((Ad ns).drop (cell / 24 % 4).toNat).take ((cell / 96 + j) % 4).toNat=Ad ((ns.drop (cell / 24 % 4).toNat).take ((cell / 96 + j) % 4).toNat):=by
  show List.take _ (List.drop _ (ns.map _))=List.map _ _;rw[List.map_take,List.map_drop]
 rw[he]at hc2;have hf24:=fd (i:=cell) (show(0:Int) < 24 by decide) (by decide);have hf96:=fd (i:=cell) (show(0:Int) < 96 by decide) (by decide);have hf400:=fd (i:=cell) (show(0:Int) < 400 by decide) (by decide);have hm24:=md (i:=cell/24) (show(0:Int) < 4 by decide);have hm96:=md (i:=cell/96+j) (show(0:Int) < 4 by decide);have hm400:=md (i:=cell/400+j) (show(0:Int) < 6 by decide);rw[map_append,List.map_singleton];show _=Res.ok Fl.nx [_,_,_,_,_,_,_,_,_,_,sL (as.map E1++[.tup [.str (tx g),.tup (Ad _),p]]),_];have hb':(as.map E1).length < big:=by rw[lM];unfold big;lia
 generalize as.map E1=A at hb' ⊢;generalize Ad (List.take ((cell/96+j)%4).toNat (List.drop (cell/24%4).toNat ns))=M at hc2 ⊢;generalize (Ad ns).drop (cell/24%4).toNat=M0 at hc1 hc2;generalize Ad ns=N at hc1 hin ⊢;generalize Ad fs=F at hgi hin ⊢;generalize tx g=gg at hgi ⊢;have hin':=hin [Ci cell,y5,none,Ci j,none,sP q0,sL A,sL M];unfold Zt;simp! [hf24,hf96,hf400,hm24,hm96,hm400,hc1,hc2,hgi,↓hin',Cf,hb',bL,gv]
theorem QV{fs:List (List Nat)}{d:Nat}(S6:VS ns fs)(ih:L8 (k + 1) d ns fs)(h0:0<=cell)(hl:∀i∈l',0<=i)(h7:l'.length<=7)(hn:A0 fns mt A1 (k + 1) 25 [BK l]= .ok (.p (.int cell)) [some (BK l')])(h2:¬cell % 6 < 2)(h5:¬cell % 6 < 5):
 ∃p cells',Ex (d+2) p/\(∀i∈cells',0<=i)/\cells'.length<=l'.length/\sz (d+2) p+5*cells'.length<=6+5*l'.length/\A0 fns mt A1 (k+2) 27 [BK l,.lst (Ad ns),.lst (Ad fs),.p (.int ((d:Int)+1))]= .ok (.p p) [some (BK cells'),sL (Ad ns),sL (Ad fs),Ci ((d:Int)+1)]:=by
 obtain⟨q0,c1,hq0,hc1,hc1l,hsz0,hin0⟩:=ih l' hl h7;have h25:ev (A0 fns mt A1 (k+1)) mt (.call 25 [.var 0]) [some (BK l),sL (Ad ns),sL (Ad fs),Ci ((d:Int)+1),none,none,none,none,none,none,none,none]= .ok (.p (.int cell)) [some (BK l'),sL (Ad ns),sL (Ad fs),Ci ((d:Int)+1),none,none,none,none,none,none,none,none]:=Yc hn;have hor:=aM (cf:=A0 fns mt A1 (k+1)) (l:=l'.map .int) (n:=Ad ns) (m:=Ad fs) (d:=(d:Int)+1) (cell:=cell) (way:=cell%6) (by lia) h2;have hin:ev (A0 fns mt A1 (k+1)) mt ic [some (BK l'),sL (Ad ns),sL (Ad fs),Ci ((d:Int)+1),Ci cell,Ci (cell%6),none,none,none,none,none,none]= .ok (.p q0) [some (BK c1),sL (Ad ns),sL (Ad fs),Ci ((d:Int)+1),Ci cell,Ci (cell%6),none,none,none,none,none,none]:=MC hin0;have hm:=md (i:=cell) (show(0:Int) < 6 by decide);have hf6:=fd (i:=cell) (show(0:Int) < 6 by decide) (by decide);have hm64:=md (i:=cell/6) (show(0:Int) < 4 by decide);have a1:=m4 (cell/6)
 obtain⟨ρ',⟨as,c',y7,y11,q1,q2,q3,q4,q5,rfl⟩,hloop⟩:=F9 (g:=.nm 7) (gs:=[]) (b:=execs (A0 fns mt A1 (k + 1)) mt A1 Zt) (all:=An 0 (1 + cell / 6 % 4))
  (J:=λdn ρ=>∃(as:List Z9) (c':List Int) (y7 y11:Option C),as.length=dn.length/\(∀a∈as,(ED a.1=true/\Ld a.2.1)/\Ex (d+1) a.2.2)/\(∀i∈c',(0:Int)<=i)/\c'.length<=c1.length/\(as.map λa=>sz (d+1) a.2.2).sum+5*c'.length<=as.length+5*c1.length/\ρ=[some (BK c'),sL (Ad ns),sL (Ad fs),Ci ((d:Int)+1),Ci cell,Ci (cell%6),none,y7,none,sP q0,sL (as.map E1),y11])
  (λ_ _ _=>rfl) (by
    intro dn x r hall ρ hJ;obtain⟨as,c',y7,y11,q1,q2,q3,q4,q5,rfl⟩:=hJ;have hx:x∈An 0 (1+cell/6%4):=by rw[<-hall];simp
    have hdn:dn.length<=4:=by
     have:=congrArg List.length hall;rw[AB,lA,lC]at this
     lia
    unfold An at hx;obtain⟨j,_,rfl⟩:=mem_map.mp hx;obtain⟨p,c2,r1,r2,r3,r4,r5⟩:=ih c' q3 (by lia);obtain⟨g,ls,hg,hls,e⟩:=QS (k:=k+1) (l:=c'.map .int) (lz:=c2.map .int) (cell:=cell) (j:=0+(j:Int)) (d:=(d:Int)+1) (q0:=q0) (p:=p) (as:=as) (y5:=Ci (cell%6)) (y11:=y11) S6 (λr=>MC r5) (by lia);refine⟨_,_,.nx,rfl,e,.inl rfl,as++[(g,ls,p)],c2,_,_,by simp[q1],?_,r2,by lia,?_,rfl⟩
    .intro a ha;rcases mem_append.mp ha with z|z
     .exact q2 a z
     .rw[mE z];exact⟨⟨hg,hls⟩,r1⟩
    .rw[map_append,List.sum_append,lA,List.map_singleton,List.sum_singleton,lS];dsimp only;lia) (An 0 (1+cell/6%4)) [] [some (BK c1),sL (Ad ns),sL (Ad fs),Ci ((d:Int)+1),Ci cell,Ci (cell%6),none,none,none,sP q0,sL [],none] rfl ⟨[],c1,none,none,rfl,λa ha=>(by cases ha),hc1,lR,by simp,rfl⟩
 have hfor:exec (A0 fns mt A1 (k + 1)) mt A1 (.CV (.nm 7) .BC [.prim .add [.cst (.int 1),.prim .mod [.prim .fdiv [.var 4,.cst (.int 6)],.cst (.int 4)]]] Zt) [some (BK c1),sL (Ad ns),sL (Ad fs),Ci ((d:Int) + 1),Ci cell,Ci (cell % 6),none,none,none,sP q0,sL [],none]= .ok .nx [some (BK c'),sL (Ad ns),sL (Ad fs),Ci ((d:Int) + 1),Ci cell,Ci (cell % 6),none,y7,none,sP q0,sL (as.map E1),y11]:=
  (Lo (n:=1 + cell / 6 % 4) (by
   generalize Ad ns=N;generalize Ad fs=F;unfold BK;generalize c1.map Iv.P.int=L
   simp! [hf6,hm64]) (by lia)).trans hloop
 have hlen:as.length=(1+cell/6%4).toNat:=by rw[q1,AB];lia
 have hex:Ex (d+2) (.tup [.str As,q0,.tup (as.map E1)]):=.case q0 as hq0 (by lia) (by lia) (λa ha=>(q2 a ha).1) (λa ha=>(q2 a ha).2)
 have hsz:sz (d + 2) (.tup [.str As,q0,.tup (as.map E1)])=1 + (sz (d + 1) q0 + (as.map λa=>sz (d + 1) a.2.2).sum):=by
  show 1+((B7 _).map (sz (d+1))).sum=_;rw[D6 hq0.SO,map_cons,sum_cons,map_map];rfl
 refine⟨.tup [.str As,q0,.tup (as.map E1)],c',hex,q3,by lia,by rw[hsz];lia,?_⟩;generalize as.map E1=A at hfor ⊢;unfold BK at h25 hin hfor ⊢;generalize Ad ns=N at h25 hor hin hfor ⊢;generalize Ad fs=F at h25 hor hin hfor ⊢;generalize l.map Iv.P.int=L at h25 ⊢;generalize l'.map Iv.P.int=L' at h25 hor hin ⊢;generalize c'.map Iv.P.int=L2 at hfor ⊢;generalize c1.map Iv.P.int=L1 at hfor hin ⊢
 have e:execs (A0 fns mt A1 (k + 1)) mt A1 Zm [sL L,sL N,sL F,Ci ((d:Int) + 1),none,none,none,none,none,none,none,none]= .ok (.ret (.p (.tup [.str As,q0,.tup A]))) [sL L2,sL N,sL F,Ci ((d:Int) + 1),Ci cell,Ci (cell % 6),none,y7,none,sP q0,sL A,y11]:=by
  rw[JK];simp! [↓h25,hm,↓hor,h5,↓hin,↓hfor,bL]
 exact Ac XI rfl rfl e (by kernel_rfl)
theorem QU{fs:List (List Nat)}(S6:VS ns fs):∀(d k:Nat),L8 (k + d + 2) d ns fs
 | 0,k=>λcells h0 hl=>by
   obtain⟨i,l',a1,a2,a3,a4,a5⟩:=Mt h0;obtain⟨p,hp,e⟩:=L0 (k:=k) (d:=0) S6 a1 (a5 k) (.inl rfl);exact⟨p,l',(hp 0).1,a2,a4,by rw[(hp 0).2];lia,e⟩
 | d + 1,k=>λcells h0 hl=>by
   obtain⟨i,l',a1,a2,a3,a4,a5⟩:=Mt h0;have ih:L8 (k+d+1+1) d ns fs:=QU S6 d k
   by_cases h2:i%6 < 2
   .obtain⟨p,hp,e⟩:=L0 (k:=k+d+1) (d:=(d:Int)+1) S6 a1 (a5 _) (.inr h2);exact⟨p,l',(hp (d+1)).1,a2,a4,by rw[(hp (d+1)).2];lia,e⟩
   .have hne:i≠0:=λz=>h2 (by rw[z];decide)
    have:=a3 hne
    by_cases h5:i%6 < 5
    .obtain⟨p,c',b1,b2,b3,b4,e⟩:=Ur (k:=k+d+1) S6 ih a1 a2 (by lia) (a5 _) h2 h5;exact⟨p,c',b1,b2,by lia,by show sz (d+2) p+_<=_;lia,e⟩
    .obtain⟨p,c',b1,b2,b3,b4,e⟩:=QV (k:=k+d+1) S6 ih a1 a2 (by lia) (a5 _) h2 h5;exact⟨p,c',b1,b2,by lia,by show sz (d+2) p+_<=_;lia,e⟩
noncomputable def dr:List S:=[.asg (.nm 4) (.comp (.nm 1) .BC [.cst (.int 7)] [] (.call 22 [.var 3,.prim .add [.var 2,.var 1]]) [none,none,some 3,some 0]),.asg (.nm 5) (.call 27 [.var 4,.var 1,.var 2,.cst (.int 3)]),.ifs (.not (.call 30 [.var 5])) [.ret (some (.cst (.bl false)))] [],.asg (.nm 6) (.tup [.cst (.str ⟨#[99,97,115,101]⟩),.var 5,.tup [.tup [.prim .idx [.var 2,.cst (.int 0)],.tup [.prim .idx [.var 1,.cst (.int 0)]],.tup [.cst (.str ⟨#[99,97,108,108]⟩),.prim .idx [.var 1,.cst (.int 1)],.tup [.tup [.cst (.str ⟨#[110,97,109,101]⟩),.prim .idx [.var 1,.cst (.int 2)]]]]]]]),.ifs (.or (.not (.call 30 [.var 6])) (.not (.call 30 [.var 5]))) [.ret (some (.cst (.bl false)))] []]
noncomputable def fj:S:=.CV (.nm 3) .BC [.cst (.int 2),.prim .add [.cst (.int 3),.prim .min [.prim .len [.var 0],.cst (.int 40)]],.cst (.int 10)] dr
theorem Yy:gO=[.asg (.nm 1) (.call 23 [.call 22 [.var 0,.cst (.int 0)]]),.asg (.nm 2) (.call 24 [.call 22 [.var 0,.cst (.int 1)]]),fj,.ret (some (.cst (.bl true)))]:=rfl
variable{y6:Option C}
theorem QW{y0 y3:Option C}(he:cf 27 [.lst l,.lst n,.lst m,.p (.int 3)]= .ok z [sL lz,sL n,sL m,Ci 3]):
 ev cf mt (.call 27 [.var 4,.var 1,.var 2,.cst (.int 3)]) [y0,sL n,sL m,y3,sL l,y5,y6]= .ok z [y0,sL n,sL m,y3,sL lz,y5,y6]:=by
 rw[Bp]
 have ha:A9 cf mt [.var 4,.var 1,.var 2,.cst (.int 3)] [y0,sL n,sL m,y3,sL l,y5,y6]= .ok [.slot 4,.slot 1,.slot 2,.AI (.p (.int 3))] [y0,sL n,sL m,y3,sL l,y5,y6]:=by
  simp! []
 rw[ha];show AH cf 27 [.slot 4,.slot 1,.slot 2,.AI (.p (.int 3))] [y0,sL n,sL m,y3,sL l,y5,y6]=_;unfold AH;rw[show Ai [y0,sL n,sL m,y3,sL l,y5,y6] [.slot 4,.slot 1,.slot 2,.AI (.p (.int 3))]=some [.lst l,.lst n,.lst m,.p (.int 3)]from rfl];dsimp only;rw[iP ⟨by show([4,1,2]:List Nat).Nodup;decide,rfl⟩,he];rfl
theorem Qy{ns:List Int}{a:Nat}:
 ev (A0 fns mt A1 (k+1)) mt (.comp (.nm 1) .BC [.cst (.int 7)] [] (.call 22 [.var 3,.prim .add [.var 2,.var 1]]) [none,none,some 3,some 0]) [some (.b (.ro (ns.map .int))),sL n,sL m,Ci (a:Int),y4,y5,y6]= .ok (BK ((List.range 7).map λj=>cellAt ns (a+j))) [some (.b (.ro (ns.map .int))),sL n,sL m,Ci (a:Int),y4,y5,y6]:=by
 have h:=DD (cf:=A0 fns mt A1 (k + 1)) (mt:=mt) (kd:=.BC) (t:=.cst (.int 7)) (elt:=.call 22 [.var 3,.prim .add [.var 2,.var 1]]) (fr:=[none,none,some 3,some 0]) (h:=.AI (.p (.int 7))) (c:=.p (.int 7)) (xs:=An 0 7) (F:=λq=>match q with| .int j=>.int (cellAt ns (a + j.toNat))|q=>q) (ρ:=[some (.b (.ro (ns.map .int))),sL n,sL m,Ci (a:Int),y4,y5,y6]) (r:=[Ci (a:Int),some (.b (.ro (ns.map .int)))]) rfl rfl rfl rfl rfl rfl (by rw[AB];unfold big;lia) rfl rfl (λ_=>rfl) (λq hq=>by
  unfold An at hq;obtain⟨j,hj,rfl⟩:=mem_map.mp hq;rw[show(0:Int)+(j:Int)=(j:Int)by lia];show _=Res.ok (C.p (.int (cellAt ns (a+j)))) _;rw[Bp]
  have ha:A9 (A0 fns mt A1 (k + 1)) mt [.var 3,.prim .add [.var 2,.var 1]] [none,Ci (j:Int),Ci (a:Int),some (.b (.ro (ns.map .int)))]= .ok [.slot 3,.AI (.p (.int ((a:Int) + (j:Int))))] [none,Ci (j:Int),Ci (a:Int),some (.b (.ro (ns.map .int)))]:=by
   generalize ns.map Iv.P.int=l;simp! []
  rw[ha];rw[Res.A3]
  exact C2 (hs:=[.slot 3,.AI (.p (.int ((a:Int)+(j:Int))))]) (ρ:=[none,Ci (j:Int),Ci (a:Int),some (.b (.ro (ns.map .int)))]) (cs:=[.b (.ro (ns.map .int)),.p (.int ((a:Int)+(j:Int)))]) rfl (λc hc=>by rcases mK hc with z|z;(· rw[z];rfl);(· rw[mE z];rfl)) (Gv (k:=k) (ns:=ns) (j:=a+j)) rfl)
 rw[h];refine congrArg (λz=>Res.ok (C.lst z) _) ?_;unfold An;rw[map_map,map_map]
 exact map_congr_left λj _=>by
  show Iv.P.int (cellAt ns (a+(0+(j:Int)).toNat))=_;rw[show(0+(j:Int)).toNat=j by lia];rfl
theorem PL{ns:List Int}{a:Nat}{xs fs:List (List Nat)}(S6:VS xs fs):
 ∃z4 z5 z6,execs (A0 fns mt A1 (k+32)) mt A1 dr [some (.b (.ro (ns.map .int))),sL (Ad xs),sL (Ad fs),Ci (a:Int),y4,y5,y6]= .ok .nx [some (.b (.ro (ns.map .int))),sL (Ad xs),sL (Ad fs),Ci (a:Int),z4,z5,z6]:=by
 obtain⟨p,c',r1,r2,r3,r4,r5⟩:=QU S6 3 (k+27) ((List.range 7).map λj=>cellAt ns (a+j)) (λi hi=>by obtain⟨j,_,rfl⟩:=mem_map.mp hi;exact Y7 _ _) (by simp);have r5:A0 fns mt A1 (k+32) 27 [BK ((List.range 7).map λj=>cellAt ns (a+j)),.lst (Ad xs),.lst (Ad fs),.p (.int 3)]= .ok (.p p) [some (BK c'),sL (Ad xs),sL (Ad fs),Ci 3]:=r5;have r1:Ex 4 p:=r1;have hsz:sz 4 p<=36:=by simp at r4;lia
 obtain⟨n0,hn0,i0⟩:=FP (ls:=xs) (i:=0) (by decide) (by rw[S6.n6];decide);obtain⟨n1,hn1,i1⟩:=FP (ls:=xs) (i:=1) (by decide) (by rw[S6.n6];decide);obtain⟨n2,hn2,i2⟩:=FP (ls:=xs) (i:=2) (by decide) (by rw[S6.n6];decide);obtain⟨g0,hg0,j0⟩:=FP (ls:=fs) (i:=0) (by decide) (by rw[S6.f6];decide);have hcl:=Qy (k:=k+31) (ns:=ns) (a:=a) (n:=Ad xs) (m:=Ad fs) (y4:=y4) (y5:=y5) (y6:=y6);have hany:=QW (cf:=A0 fns mt A1 (k+32)) (y0:=some (.b (.ro (ns.map .int)))) (y3:=Ci (a:Int)) (y5:=y5) (y6:=y6) r5;have hq:=Ka (k:=k) r1 (by lia) (by lia)
 have hex:Ex 5 (.tup [.str As,p,.tup ([(g0,[n0],Iv.P.tup [.str Bz,.str (tx n1),.tup [.tup [.str Cs,.str (tx n2)]]])].map E1)]):=.case p [(g0,[n0],.tup [.str Bz,.str (tx n1),.tup [.tup [.str Cs,.str (tx n2)]]])] r1 (Nat.le_refl 1) (by show 1<=4;decide) (λx hx=>by
  rw[mE hx];obtain⟨_,h2,_,h4⟩:=AZ (S6.nm n0 hn0);exact⟨S6.fm g0 hg0,⟨by show 1<=3;decide,λl hl=>by rw[mE hl];exact⟨S6.nm n0 hn0,h4,h2⟩,by simp⟩⟩) (λx hx=>by
  rw[mE hx]
  exact .call n1 _ (S6.nm n1 hn1) (by show 1<=3;decide) (λq hq=>by rw[mE hq];exact .O6 n2 (S6.nm n2 hn2)))
 have hsz2:sz 5 (.tup [.str As,p,.tup ([(g0,[n0],Iv.P.tup [.str Bz,.str (tx n1),.tup [.tup [.str Cs,.str (tx n2)]]])].map E1)])=1 + (sz 4 p + 2):=by
  show 1+((B7 _).map (sz 4)).sum=_;rw[D6 r1.SO];rfl
 have hr:=Ka (k:=k) hex (by lia) (by lia);refine⟨some (BK c'),sP p,sP (.tup [.str As,p,.tup ([(g0,[n0],Iv.P.tup [.str Bz,.str (tx n1),.tup [.tup [.str Cs,.str (tx n2)]]])].map E1)]),?_⟩;have hR:(.tup [.str As,p,.tup ([(g0,[n0],Iv.P.tup [.str Bz,.str (tx n1),.tup [.tup [.str Cs,.str (tx n2)]]])].map E1)]:Iv.P)= .tup [.str As,p,.tup [.tup [.str (tx g0),.tup [.str (tx n0)],.tup [.str Bz,.str (tx n1),.tup [.tup [.str Cs,.str (tx n2)]]]]]]:=rfl;generalize hT:(.tup [.str As,p,.tup ([(g0,[n0],Iv.P.tup [.str Bz,.str (tx n1),.tup [.tup [.str Cs,.str (tx n2)]]])].map E1)]:Iv.P)=R at hr hR ⊢;have c5:∀y6,ev (A0 fns mt A1 (k+32)) mt (.call 30 [.var 5]) [some (.b (.ro (ns.map .int))),sL (Ad xs),sL (Ad fs),Ci (a:Int),some (BK c'),sP p,y6]= .ok (.p (.bl true)) [some (.b (.ro (ns.map .int))),sL (Ad xs),sL (Ad fs),Ci (a:Int),some (BK c'),sP p,y6]:=λy6=>Gf (h:=.slot 5) rfl rfl hq
 have c6:ev (A0 fns mt A1 (k+32)) mt (.call 30 [.var 6]) [some (.b (.ro (ns.map .int))),sL (Ad xs),sL (Ad fs),Ci (a:Int),some (BK c'),sP p,sP R]= .ok (.p (.bl true)) [some (.b (.ro (ns.map .int))),sL (Ad xs),sL (Ad fs),Ci (a:Int),some (BK c'),sP p,sP R]:=Gf (h:=.slot 6) rfl rfl hr
 have hmk:ev (A0 fns mt A1 (k + 32)) mt (.tup [.cst (.str ⟨#[99,97,115,101]⟩),.var 5,.tup [.tup [.prim .idx [.var 2,.cst (.int 0)],.tup [.prim .idx [.var 1,.cst (.int 0)]],.tup [.cst (.str ⟨#[99,97,108,108]⟩),.prim .idx [.var 1,.cst (.int 1)],.tup [.tup [.cst (.str ⟨#[110,97,109,101]⟩),.prim .idx [.var 1,.cst (.int 2)]]]]]]]) [some (.b (.ro (ns.map .int))),sL (Ad xs),sL (Ad fs),Ci (a:Int),some (BK c'),sP p,y6]= .ok (.p R) [some (.b (.ro (ns.map .int))),sL (Ad xs),sL (Ad fs),Ci (a:Int),some (BK c'),sP p,y6]:=by
  rw[hR];unfold BK;generalize ns.map Iv.P.int=l;generalize c'.map Iv.P.int=L2;generalize Ad xs=N at i0 i1 i2 ⊢;generalize Ad fs=F at j0 ⊢;generalize tx n0=x0 at i0 ⊢;generalize tx n1=x1 at i1 ⊢;generalize tx n2=x2 at i2 ⊢;generalize tx g0=x3 at j0 ⊢;simp! [i0,i1,i2,j0]
 clear hT hR hex hsz2 hr hq r4 r5;unfold BK at hcl hany c5 c6 hmk ⊢;generalize ns.map Iv.P.int=l at hcl hany c5 c6 hmk ⊢;generalize c'.map Iv.P.int=L2 at hany c5 c6 hmk ⊢;generalize ((List.range 7).map λj=>cellAt ns (a+j)).map Iv.P.int=L1 at hcl hany;generalize Ad xs=N at hcl hany c5 c6 hmk ⊢;generalize Ad fs=F at hcl hany c5 c6 hmk ⊢;have c5a:=c5 y6;have c5b:=c5 (some (.p R));unfold dr;simp! [↓hcl,↓hany,↓c5a,↓c5b,↓c6,↓hmk]
theorem Xt(ns:List Int)(h:ns.length<=63):∃outs,A0 fns mt A1 (k + 33) 31 [.b (.ro (ns.map .int))]= .ok (.p (.bl true)) outs:=by
 obtain⟨s,i,s1,s2,s3,s4⟩:=Nv (k:=k+31) (c:=cellAt ns 0);obtain⟨fs,f1,f2,f3⟩:=NM (k:=k+31) (c:=cellAt ns 1);obtain⟨n1,n2⟩:=Xj (c:=cellAt ns 0) s1 s2 s3;have S6:VS ((List.range 6).map (Ki s i (cellAt ns 0))) fs:=⟨by simp,n1,n2,f1,f2⟩;generalize (List.range 6).map (Ki s i (cellAt ns 0))=xs at s4 S6;have c0:=Gv (k:=k+31) (ns:=ns) (j:=0);have c1:=Gv (k:=k+31) (ns:=ns) (j:=1)
 have hc:∀(j:Nat) (r:Iv.Env),ev (A0 fns mt A1 (k + 32)) mt (.call 22 [.var 0,.cst (.int j)]) (some (.b (.ro (ns.map .int)))::r)= .ok (.p (.int (cellAt ns j))) (some (.b (.ro (ns.map .int)))::r):=λj r=>by
  rw[Bp]
  have ha:A9 (A0 fns mt A1 (k + 32)) mt [.var 0,.cst (.int j)] (some (.b (.ro (ns.map .int)))::r)= .ok [.slot 0,.AI (.p (.int j))] (some (.b (.ro (ns.map .int)))::r):=by
   generalize ns.map Iv.P.int=l;simp! []
  rw[ha,Res.A3];exact C2 (hs:=[.slot 0,.AI (.p (.int j))]) (ρ:=some (.b (.ro (ns.map .int)))::r) (cs:=[.b (.ro (ns.map .int)),.p (.int j)]) rfl (λc hc=>by rcases mK hc with z|z;(· rw[z];rfl);(· rw[mE z];rfl)) (Gv (k:=k+31) (ns:=ns) (j:=j)) rfl
 have e23:ev (A0 fns mt A1 (k + 32)) mt (.call 23 [.call 22 [.var 0,.cst (.int 0)]]) [some (.b (.ro (ns.map .int))),none,none,none,none,none,none]= .ok (.lst (Ad xs)) [some (.b (.ro (ns.map .int))),none,none,none,none,none,none]:=
  Gf (h:=.AI (.p (.int (cellAt ns 0)))) (by rw[Bh,HA,show(T.cst (.int 0))=T.cst (.int (0:Nat))from rfl,hc 0];rfl) rfl s4
 have e24:ev (A0 fns mt A1 (k + 32)) mt (.call 24 [.call 22 [.var 0,.cst (.int 1)]]) [some (.b (.ro (ns.map .int))),sL (Ad xs),none,none,none,none,none]= .ok (.lst (Ad fs)) [some (.b (.ro (ns.map .int))),sL (Ad xs),none,none,none,none,none]:=
  Gf (h:=.AI (.p (.int (cellAt ns 1)))) (by rw[Bh,HA,show(T.cst (.int 1))=T.cst (.int (1:Nat))from rfl,hc 1];rfl) rfl f3
 obtain⟨m,hm,hmin⟩:∃m:Int,(0<=m/\m<=40)/\(if(40:Int) < (ns.length:Int)then(40:Int)else(ns.length:Int))=m:=⟨_,by split<;>lia,rfl⟩
 have hden:A9 (A0 fns mt A1 (k + 32)) mt [.cst (.int 2),.prim .add [.cst (.int 3),.prim .min [.prim .len [.var 0],.cst (.int 40)]],.cst (.int 10)] [some (.b (.ro (ns.map .int))),sL (Ad xs),sL (Ad fs),none,none,none,none]= .ok [.AI (.p (.int 2)),.AI (.p (.int (3 + m))),.AI (.p (.int 10))] [some (.b (.ro (ns.map .int))),sL (Ad xs),sL (Ad fs),none,none,none,none]:=by
  have hl:=OM ns;generalize ns.length=L at hl hmin;generalize ns.map Iv.P.int=l at hl ⊢;generalize Ad xs=N;generalize Ad fs=F;simp! [hl,hmin]
 obtain⟨ρ',⟨y3,y4,y5,y6,rfl⟩,hloop⟩:=F9 (g:=.nm 3) (gs:=[]) (b:=execs (A0 fns mt A1 (k + 32)) mt A1 dr) (all:=(List.range ((3 + m - 2 + 10 - 1) / 10).toNat).map λk=>Iv.P.int (2 + 10 * (k:Nat)))
  (J:=λ_ ρ=>∃y3 y4 y5 y6:Option C,ρ=[some (.b (.ro (ns.map .int))),sL (Ad xs),sL (Ad fs),y3,y4,y5,y6])
  (λ_ _ _=>rfl) (by
    intro dn x r hall ρ hJ;obtain⟨y3,y4,y5,y6,rfl⟩:=hJ;have hx:x∈(List.range ((3+m-2+10-1)/10).toNat).map λk=>Iv.P.int (2+10*(k:Nat)):=by rw[<-hall];simp
    obtain⟨j,_,rfl⟩:=mem_map.mp hx;obtain⟨z4,z5,z6,e⟩:=PL (k:=k) (ns:=ns) (a:=2+10*j) (y4:=y4) (y5:=y5) (y6:=y6) S6
    exact⟨_,_,.nx,rfl,e,.inl rfl,_,_,_,_,rfl⟩) _ [] [some (.b (.ro (ns.map .int))),sL (Ad xs),sL (Ad fs),none,none,none,none] rfl ⟨_,_,_,_,rfl⟩
 have hfor:exec (A0 fns mt A1 (k + 32)) mt A1 fj [some (.b (.ro (ns.map .int))),sL (Ad xs),sL (Ad fs),none,none,none,none]= .ok .nx [some (.b (.ro (ns.map .int))),sL (Ad xs),sL (Ad fs),y3,y4,y5,y6]:=by
  unfold fj;rw[Ju];show(if IK.BC.ok=true then(A9 _ mt _ _).bind _ else _)=_;rw[iP (show IK.BC.ok=true from rfl),hden,Res.A3];unfold NN;rw[show Ai [some (.b (.ro (ns.map .int))),sL (Ad xs),sL (Ad fs),none,none,none,none] [.AI (.p (.int 2)),.AI (.p (.int (3+m))),.AI (.p (.int 10))]=some [.p (.int 2),.p (.int (3+m)),.p (.int 10)]from rfl];dsimp only
  rw[show Aw .BC [.p (.int 2),.p (.int (3 + m)),.p (.int 10)]=some ((List.range ((3 + m - 2 + 10 - 1) / 10).toNat).map λk=>Iv.P.int (2 + 10 * (k:Nat)))by
    show(if _ then _ else _)=_
    rw[iP ⟨by decide,by decide,by decide,by lia⟩]]
  exact hloop
 generalize ns.map Iv.P.int=l at e23 e24 hfor ⊢;generalize Ad xs=N at e23 e24 hfor;generalize Ad fs=F at e24 hfor
 have e:execs (A0 fns mt A1 (k + 32)) mt A1 gO [some (.b (.ro l)),none,none,none,none,none,none]= .ok (.ret (.p (.bl true))) [some (.b (.ro l)),sL N,sL F,y3,y4,y5,y6]:=by
  rw[Yy];simp! [↓e23,↓e24,↓hfor]
 exact⟨_,Ac ck rfl rfl e rfl⟩
theorem Tb(ns:List Int)(h:ns.length<=63):∃outs,A0 fns mt A1 100 31 [.b (.ro (ns.map .int))]= .ok (.p (.bl true)) outs:=Xt (k:=67) ns h
end Lk51
open PySem PySem.W PyProof.Rows
set_option maxRecDepth 100000 in
set_option maxHeartbeats 0 in
theorem PySem.Challenge.cw_kinddeeds_k51_expressions_written_holds : PySem.Challenge.rw_kinddeeds_k51_expressions_written.Holds := by
  w_on; o_law; k_head; (case hw => w_witness2)
  k_fill
  refine Iv.walk (l := PySem.Challenge.rw_kinddeeds_k51_expressions_written) 63 200 [(257, 253), (271, 267)] rfl (by decide) rfl ⟨rfl, by decide, by decide⟩ (fun w h Y => PySem.W.km_in_of Y) (fun w h Y p hp => PySem.W.km_tabs_of Y p (by simp only [List.map_cons, List.map_nil, List.mem_cons, List.not_mem_nil, or_false] at hp ⊢; exact hp.symm)) ?F
  case F =>
    intro w mg fa h KX G hmg
    refine' Lk51.all_mk (by decide) Lk51.Tb KX G hmg ?_ ?_ ?_ ?_ ?_ ?_ ?_ ?_ ?_ ?_ ?_ ?_ ?_ ?_ ?_ ?_ ?_ ?_ ?_ ?_ ?_ ?_ ?_ ?_ ?_ ?_ ?_ ?_ ?_ ?_ ?_ ?_ ?_ ?_ ?_ ?_ ?_ ?_ ?_ ?_ ?_ ?_ ?_ ?_ ?_ ?_ ?_ ?_ ?_ ?_ ?_ ?_ ?_ ?_ ?_ ?_ ?_ ?_ ?_ ?_ ?_ ?_ ?_ ?_ ?_ ?_ ?_ ?_ ?_ ?_ ?_ ?_ ?_ ?_ ?_ ?_ ?_ ?_ ?_ ?_ ?_ ?_ ?_ ?_ ?_ ?_ ?_ ?_ ?_ ?_ ?_ ?_ ?_ ?_ ?_ ?_ ?_ ?_ ?_ ?_ ?_ ?_ ?_ ?_ ?_ ?_ ?_ ?_ ?_ ?_ ?_ ?_ ?_ ?_ ?_ ?_ ?_ ?_ ?_ ?_ ?_ ?_ ?_ ?_ ?_ ?_ ?_ ?_ ?_ ?_ ?_ ?_ ?_ ?_ ?_ ?_
    all_goals first
      | k_is
      | exact ⟨⟨_, _, _, _, _, _, _, _, _, rfl, by k_is, by k_is⟩, by k_is⟩
      | exact ⟨by k_is, by k_is, by k_is, by k_is⟩
      | rfl
      | kernel_rfl
      | (repeat first | exact .nil | refine .cons (by k_is) ?_)
