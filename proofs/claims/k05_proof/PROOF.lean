import PyProof.Rows.All
import Wide.All
import OpenK.AllK
import Wide.FinOn
import Lean
import PyProof.EqAt
import PyProof.EqKinds
import PyProof.TupleCall
import PySem.Challenge.RW_kinddeeds_k05_no_fit
set_option Elab.async false
set_option linter.all false
set_option compiler.extract_closed false
set_option genSizeOf false
set_option maxRecDepth 100000
set_option maxHeartbeats 4000000
noncomputable section
namespace PySem.W.Fast
theorem tw9220580871048649671:True:=⟨⟩
theorem tw856451478142759385:True:=⟨⟩
theorem tw18011831877038209285:True:=⟨⟩
theorem tw1860165324483939298:True:=⟨⟩
theorem tw16168531872988833068:True:=⟨⟩
theorem tw8962759475913360552:True:=⟨⟩
theorem tw6372895128061408038:True:=⟨⟩
theorem tw1943154864308854033:True:=⟨⟩
theorem tw9191183500001215150:True:=⟨⟩
theorem tw15916195392485567153:True:=⟨⟩
theorem tw5397383544694477884:True:=⟨⟩
theorem tw13870375378802441440:True:=⟨⟩
theorem tw17410159354581572003:True:=⟨⟩
theorem tw18261070109389321010:True:=⟨⟩
theorem tw11679196160267367672:True:=⟨⟩
theorem tw3859089071196146368:True:=⟨⟩
theorem tw1263728598518741429:True:=⟨⟩
theorem tw2706369882176645850:True:=⟨⟩
theorem tw15465450231702126591:True:=⟨⟩
theorem tw7636163318136627210:True:=⟨⟩
theorem tw4351992060447681831:True:=⟨⟩
theorem tw16413344843920495167:True:=⟨⟩
theorem tw211477516834667713:True:=⟨⟩
theorem tw13464052275199118359:True:=⟨⟩
theorem tw15090234525694207278:True:=⟨⟩
theorem tw14876320063585652227:True:=⟨⟩
theorem tw16392557505165533386:True:=⟨⟩
theorem tw2838412590312695778:True:=⟨⟩
theorem tw2071281547794922857:True:=⟨⟩
theorem tw8489658676533959064:True:=⟨⟩
theorem tw14125997603523248024:True:=⟨⟩
theorem tw10937060249594219997:True:=⟨⟩
theorem tw11569973139707883:True:=⟨⟩
theorem tw9583745982477964105:True:=⟨⟩
theorem tw1982093060976545798:True:=⟨⟩
theorem tw14712351970325235581:True:=⟨⟩
theorem tw15773195365696673108:True:=⟨⟩
theorem tw689086974138426761:True:=⟨⟩
theorem tw4205750531691031441:True:=⟨⟩
theorem tw834428041289021734:True:=⟨⟩
theorem tw14013618081040648435:True:=⟨⟩
theorem tw4251850337637435580:True:=⟨⟩
theorem tw17881698206535290919:True:=⟨⟩
theorem tw6447950682735393624:True:=⟨⟩
theorem tw5913201999097633586:True:=⟨⟩
theorem tw3121287440102748016:True:=⟨⟩
theorem tw8677034987632615754:True:=⟨⟩
theorem tw8311715901517659514:True:=⟨⟩
theorem tw9479433823681848341:True:=⟨⟩
theorem tw10830127191554298484:True:=⟨⟩
theorem tw11824179328509987362:True:=⟨⟩
theorem tw9578674330409844815:True:=⟨⟩
theorem tw14743196932227152439:True:=⟨⟩
theorem tw6767759723140823475:True:=⟨⟩
theorem tw12570730480319628621:True:=⟨⟩
theorem tw16490581604579169178:True:=⟨⟩
theorem tw11697885892406218875:True:=⟨⟩
theorem tw5685590745604598251:True:=⟨⟩
theorem tw11035426984496520696:True:=⟨⟩
theorem tw10702573219164026277:True:=⟨⟩
theorem tw3891294843361126921:True:=⟨⟩
theorem tw13128378996844358022:True:=⟨⟩
theorem tw13000241555081610982:True:=⟨⟩
theorem tw6551231491618331628:True:=⟨⟩
theorem tw11093917185902885762:True:=⟨⟩
theorem tw4868454438480265883:True:=⟨⟩
theorem tw17924045407754251255:True:=⟨⟩
theorem tw12027467500580230358:True:=⟨⟩
theorem tw15164398514968154706:True:=⟨⟩
theorem tw6405501754358704293:True:=⟨⟩
theorem tw2719583236554518519:True:=⟨⟩
theorem tw6524620861835364960:True:=⟨⟩
theorem tw13604830107640908220:True:=⟨⟩
theorem tw9513188137743216621:True:=⟨⟩
theorem tw9609361610456556565:True:=⟨⟩
theorem tw1162641122499143707:True:=⟨⟩
theorem tw6303271886855738593:True:=⟨⟩
theorem tw17730911627796296629:True:=⟨⟩
theorem tw8616863790367900859:True:=⟨⟩
theorem tw4036590735795137490:True:=⟨⟩
theorem tw5273262524254216237:True:=⟨⟩
theorem tw17338411840727591314:True:=⟨⟩
theorem tw4043462459791969609:True:=⟨⟩
theorem tw11499174591786849578:True:=⟨⟩
theorem tw7518477532518809291:True:=⟨⟩
theorem tw11375628785811744108:True:=⟨⟩
theorem tw4644134979510009729:True:=⟨⟩
theorem tw15694487638699425501:True:=⟨⟩
theorem tw7908924153486827810:True:=⟨⟩
theorem tw12459756899363542963:True:=⟨⟩
theorem tw1543350010708114810:True:=⟨⟩
theorem tw5805413309981412271:True:=⟨⟩
theorem tw13431913053162393158:True:=⟨⟩
theorem tw17526724912953781563:True:=⟨⟩
theorem tw1184814343094897048:True:=⟨⟩
theorem tw12393162716128084444:True:=⟨⟩
theorem tw13128737299254216933:True:=⟨⟩
theorem tw11115164047298987729:True:=⟨⟩
theorem tw16130540848092646947:True:=⟨⟩
theorem tw690822744555589124:True:=⟨⟩
theorem tw2191591811331086088:True:=⟨⟩
theorem tw1329776081471510190:True:=⟨⟩
theorem tw9057560923006283408:True:=⟨⟩
theorem tw16949319315135478770:True:=⟨⟩
theorem tw8821351984438161464:True:=⟨⟩
theorem tw12616513305607993567:True:=⟨⟩
theorem tw16799898535010484208:True:=⟨⟩
theorem tw7055938725511922470:True:=⟨⟩
theorem tw15244735763459574636:True:=⟨⟩
theorem tw8938671858254228112:True:=⟨⟩
theorem tw10848616127868332963:True:=⟨⟩
theorem tw4776637518531745232:True:=⟨⟩
theorem tw3568707611153682092:True:=⟨⟩
theorem tw9041533168565884337:True:=⟨⟩
theorem tw13557818042910058799:True:=⟨⟩
theorem tw13107760696488872439:True:=⟨⟩
theorem tw13444509862552902647:True:=⟨⟩
theorem tw1166057194897358610:True:=⟨⟩
theorem tw9094088381105055514:True:=⟨⟩
theorem tw1858578016413254835:True:=⟨⟩
theorem tw12959593510856749852:True:=⟨⟩
theorem tw1839806268854876287:True:=⟨⟩
theorem tw2697672735848481737:True:=⟨⟩
theorem tw15808139900889503811:True:=⟨⟩
theorem tw10052437277782565319:True:=⟨⟩
theorem tw15385078065205561917:True:=⟨⟩
end PySem.W.Fast
open List (mem_singleton mem_cons nodup_append mem_filter mem_range filterMap_cons mem_append mem_filterMap size_toArray map_cons append_nil nodup_cons of_mem_zip length_take mem_of_getElem? length_drop map_nil reverse_cons length_reverse forIn_cons lookup_cons all_eq_true not_mem_nil ext_getElem? getElem_mem take_length append_assoc perm_append_comm set_set length_eq_zero_iff all_cons all_map getElem_map map_map map_congr_left map_append mem_map any_eq_true length_set zip_cons_cons foldl_cons nil_append length_range foldl_append pairwise_cons forIn_nil nodup_nil length_zip cons_append any_cons countP_cons countP_le_length mem_map_of_mem mem_reverse reverse_reverse set_cons_zero mem_flatMap tail_cons set_cons_succ length_pos_iff map_take)
open PySem.W (instObj methodObj lookIn InstAt plainGet hasDictIn findIn handedIn plainGet_of isFn plainOver takerIn Looks makesIn typeIn emptyDict keepIn methodCall_KW callWith_K callWith_K0 cellsFrom_some codeIn keq_eq keq_ne kia_one kitx_list KdlSrc nsIn mg_of)
theorem mS{α:Type}{a:α}{l:List α}:a∈a::l:=List.mem_cons_self
theorem mC{α:Type}{a b:α}{l:List α}(h:b∈l):b∈a::l:=List.mem_cons_of_mem a h
theorem mL{α:Type}{a:α}{l m:List α}(h:a∈l):a∈l++m:=List.mem_append_left m h
theorem mR{α:Type}{a:α}{l m:List α}(h:a∈m):a∈l++m:=List.mem_append_right l h
theorem mE{α:Type}{a b:α}(h:a∈[b]):a=b:=mem_singleton.mp h
theorem mK{α:Type}{a b:α}{l:List α}(h:a∈b::l):a=b\/a∈l:=mem_cons.mp h
theorem dF{p:Prop}[Decidable p](h:¬p):decide p=false:=decide_eq_false h
theorem oB{α β:Type}{x:Option α}{f:α->Option β}{b:β}(h:x.bind f=some b):∃a,x=some a/\f a=some b:=Option.bind_eq_some_iff.mp h
theorem oM{α β:Type}{x:Option α}{f:α->β}{b:β}(h:x.map f=some b):∃a,x=some a/\f a=b:=Option.map_eq_some_iff.mp h
theorem lR{n:Nat}:n<=n:=Nat.le_refl n
theorem lA{α:Type}{a b:List α}:(a++b).length=a.length+b.length:=List.length_append
theorem lS{α:Type}{a:α}:[a].length=1:=rfl
theorem lC{α:Type}{a:α}{l:List α}:(a::l).length=l.length+1:=rfl
theorem lM{α β:Type}{f:α->β}{l:List α}:(l.map f).length=l.length:=List.length_map f
theorem bA(a b:Bool):((a&&b)=true)=(a=true/\b=true):=Bool.and_eq_true a b
theorem PySem.wB{α β:Type}{M:PySem.Model}{A:PySem.Around}{E:PySem.Value->PySem.Shared->Prop}{s:PySem.Shared}{m:PySem.Sem α}{f:α->PySem.Sem β}{Q:β->PySem.Shared->Prop}(h:PySem.wpAny M A m (λa s'=>PySem.wpAny M A (f a) Q E s') E s):PySem.wpAny M A (m>>=f) Q E s:=PySem.wpAny_bind h
theorem PySem.wP{α:Type}{M:PySem.Model}{A:PySem.Around}{E:PySem.Value->PySem.Shared->Prop}{s:PySem.Shared}{a:α}{Q:α->PySem.Shared->Prop}(h:Q a s):PySem.wpAny M A (pure a) Q E s:=PySem.wpAny_pure h
theorem PySem.gP{h:PySem.Heap}{b:PySem.Addr}{o u:PySem.Obj}(e:h.get? b=some u):(h.push o).get? b=some u:=PySem.Heap.get?_push_of_some o e
theorem iP{c:Prop}{i:Decidable c}(h:c){α:Type}{t e:α}:(@ite α c i t e)=t:=if_pos h
theorem iN{c:Prop}{i:Decidable c}(h:¬c){α:Type}{t e:α}:(@ite α c i t e)=e:=if_neg h
theorem nA{α:Type}{l m:List α}(h:(l++m).Nodup):l.Nodup/\m.Nodup/\∀a∈l,∀b∈m,a≠b:=nodup_append.mp h
namespace L2
open PySem PySem.Spec PyProof.Rows
abbrev Key:=Sum Int Str
def UP:Key->Value->Bool
 | .inl k,v=>Value.isInt k v
 | .inr x,v=>Value.isStrOf x v
def aV(w:World):Key->Int
 | .inl k=>hashInt k
 | .inr x=>hashStr w x
theorem Bi:∀{k:Key} {v:Value},UP k v=true->(∃i t,k=Sum.inl i/\v=Value.int i t)\/(∃x t,k=Sum.inr x/\v=Value.str x t)
 | .inl i,v,h=>by
   obtain⟨t,e⟩:=Value.isInt_shape (k:=i) (v:=v) h;exact .inl ⟨i,t,rfl,e⟩
 | .inr x,v,h=>by
   obtain⟨t,e⟩:=Value.isStrOf_shape (x:=x) (v:=v) h;exact .inr ⟨x,t,rfl,e⟩
theorem Wl(a b:Int):decide ((Sum.inl a:Key)=Sum.inl b)=(a == b):=by
 by_cases e:a=b
 . subst e;simp
 . have h:¬(Sum.inl a:Key)=Sum.inl b:=λq=>e (Sum.inl.inj q)
   rw[dF h];exact(beq_eq_false_iff_ne.mpr e).symm
theorem Wi(a b:Str):decide ((Sum.inr a:Key)=Sum.inr b)=decide (a=b):=by
 by_cases e:a=b
 . subst e;simp
 . have h:¬(Sum.inr a:Key)=Sum.inr b:=λq=>e (Sum.inr.inj q)
   rw[dF h,dF e]
theorem Wk(a:Int)(b:Str):decide ((Sum.inl a:Key)=Sum.inr b)=false:=dF (λq=>nomatch q)
theorem Wj(a:Str)(b:Int):decide ((Sum.inr a:Key)=Sum.inl b)=false:=dF (λq=>nomatch q)
noncomputable def Gy(prog:Program)(w:World):PySem.KeyKind prog w Key where
 is:=UP
 hash:=aV w
 inj :=λv a b ha hb=>by
  rcases Bi ha with⟨i,t,rfl,rfl⟩|⟨x,t,rfl,rfl⟩
  . rcases Bi hb with⟨j,u,rfl,e⟩|⟨y,u,rfl,e⟩
    . injection e with e1 _;rw[e1]
    . exact nomatch e
  . rcases Bi hb with⟨j,u,rfl,e⟩|⟨y,u,rfl,e⟩
    . exact nomatch e
    . injection e with e1 _;rw[e1]
 byValue:=λk v h=>by
  rcases Bi h with⟨i,t,rfl,rfl⟩|⟨x,t,rfl,rfl⟩<;>rfl
 pyHash:=λhv h=>by
  rcases Bi hv with⟨i,t,rfl,rfl⟩|⟨x,t,rfl,rfl⟩
  . exact wpAny_pyHash_int h
  . exact wpAny_pyHash_str h
 eqBool:=λhu hv h=>by
  rcases Bi hu with⟨i,t,rfl,rfl⟩|⟨x,t,rfl,rfl⟩
  . rcases Bi hv with⟨j,u,rfl,rfl⟩|⟨y,u,rfl,rfl⟩
    . rw[Wl]at h;exact wpAny_eqBool_int h
    . rw[Wk]at h;exact SeqAt.EqAt.int_str i t y u _ _ _ _ h
  . rcases Bi hv with⟨j,u,rfl,rfl⟩|⟨y,u,rfl,rfl⟩
    . rw[Wj]at h;exact SeqAt.EqAt.str_int x t j u _ _ _ _ h
    . rw[Wi]at h;exact wpAny_eqBool_str h
 «strs»:=λk x t v h=>by
  rcases Bi h with⟨i,u,rfl,e⟩|⟨y,u,rfl,e⟩
  . exact nomatch e
  . injection e with e1 _
    subst e1;cases v<;>rfl
inductive V where
 |AG|bl (b:Bool)|int (i:Int)|str (x:Str)|UY (b:Array UInt8)|ZE (b:UInt64)|ref (a:Addr)|ty (n:String)
 deriving DecidableEq
noncomputable def RelV:V->Value->Prop
 | .AG,u=>u=Value.none
 | .bl b,u=>u=Value.bool b
 | .int i,u=>∃t,u=Value.int i t
 | .str x,u=>∃t,u=Value.str x t
 | .UY b,u=>∃t,u=Value.bytes b t
 | .ZE b,u=>∃t,u=Value.float b t
 | .ref a,u=>u=Value.ref a
 | .ty n,u=>u=Value.type n
abbrev Vals:List V->List Value->Prop:=Paired RelV
variable{us:List Value}
theorem Vals.length{xs:List V}(r:Vals xs us):xs.length=us.length:=Paired.length r
theorem Vals.get:∀{xs:List V} {us:List Value} {i:Nat} {x:V},Vals xs us->xs[i]? =some x->∃u,us[i]? =some u/\RelV x u
 |_,_,_,_,.nil,e=>by simp at e
 |_,_,0,_,.cons r _,e=>by simp at e;subst e;exact⟨_,rfl,r⟩
 | _,_,i + 1,x,.cons _ t,e=>by
   obtain⟨u,h1,h2⟩:=Vals.get (i:=i) (x:=x) t (by simpa using e);exact⟨u,by simpa using h1,h2⟩
theorem Vals.append:∀{xs ys:List V} {us ws:List Value},Vals xs us->Vals ys ws->Vals (xs++ys) (us++ws)
 |_,_,_,_,.nil,s=>s
 |_,_,_,_,.cons r t,s=>.cons r (Vals.append t s)
theorem Vals.take:∀{xs:List V} {us:List Value} (n:Nat),Vals xs us->Vals (xs.take n) (us.take n)
 |_,_,0,_=>.nil
 |_,_,_ + 1,.nil=>.nil
 |_,_,n + 1,.cons r t=>.cons r (Vals.take n t)
theorem Vals.drop:∀{xs:List V} {us:List Value} (n:Nat),Vals xs us->Vals (xs.drop n) (us.drop n)
 |_,_,0,r=>r
 |_,_,_ + 1,.nil=>.nil
 |_,_,n + 1,.cons _ t=>Vals.drop n t
def HX:Option V->Option Value->Prop
 |some v,some u=>RelV v u
 |none,none=>True
 |_,_=>False
def KV{κ:Type}:List (κ×V)->List (κ×Value)->Prop:=Paired λ(p:κ×V) (q:κ×Value)=>p.1=q.1/\RelV p.2 q.2
def kV:Key->V
 | .inl i=>.int i
 | .inr x=>.str x
inductive HO where
 |lst (xs:List V)
 |tup (xs:List V)
 |dK (kvs:List (Key×V))|dT (kvs:List (List Key×V))
 |set (S:Int->Bool)(n:Nat)
 |ins (C dx:Addr)(fs:List (Str×V))
 |own (x:Addr)
 |xd (fs:List (Str×V))
 |met (f x:Addr)
 |Et (lo hi:Int)
 |N9 (o:Obj)(u:HO)
 |Vi (ps:Array Value)
 |ext (φ:Heap->Prop)
abbrev Hp:=Addr->Option HO
def upd(H:Hp)(a:Addr)(o:HO):Hp:=λb=>if b=a then some o else H b
variable{H:Hp}
theorem AH:upd H a o a=some o:=by unfold upd;rw[iP rfl]
theorem Au{a b:Addr}(h:b≠a):upd H a o b=H b:=by unfold upd;rw[iN h]
theorem B1{o:HO}(h:H a=some o)(h':H b=none):a≠b:=by
 intro e;subst e;rw[h]at h';cases h'
section
variable (P:Program)(w:World)
noncomputable def C8(H:Hp)(h:Heap)(a:Addr):HO->Prop
 | .lst xs=>xs.length<=sizeLine/\∃(its:List Value) (n:Nat),Vals xs its/\h.get? a=some {cls:=.type "list",data:=.seq its.toArray n}
 | .tup xs=>xs.length<=sizeLine/\∃its:List Value,Vals xs its/\IsTup h a its.toArray
 | .dK kvs=>kvs.length<=sizeLine/\(a == sysModules)=false/\∃vs,KV kvs vs/\h.DictOf (Gy P w) a vs
 | .dT kvs=>kvs.length<=sizeLine/\(a == sysModules)=false/\∃xs:List (List Key×Addr×Value),
  Paired (λ(p:List Key×V) (q:List Key×Addr×Value)=>p.1=q.1/\H q.2.1=some (.tup (p.1.map kV))/\RelV p.2 q.2.2) kvs xs/\
  ∃o es ep,h.get? a=some o/\o.ExactDict/\o.data= .dict es ep/\es.toList=xs.map (entryOfKey (tupleKind (Gy P w)))/\(xs.map (·.1)).Nodup
 | .set S n=>h.SetOf (intKind P w) a S n
 | .ins C dx fs=>H dx=some (.own a)/\fs.length<=1000/\dx≠a/\h.get? a=some (instObj C dx)/\
  ∃mA,h.Ns1 dx mA/\(∀f,HX (fs.lookup f) (mA f))/\PySem.Within mA (fs.map (·.1))
 | .own _=>∃o,h.get? a=some o
 | .xd fs=>∃mA,h.Ns1 a mA/\∀f,HX (fs.lookup f) (mA f)
 | .Et lo hi=>∃t u v,h.get? a=some {cls:=.type "range",data:=.fields #[.int lo t,.int hi u,.int 1 v]}
 | .N9 o u=>h.get? a=some o/\C8 H h a u
 | .Vi ps=>h.get? a=some {cls:=.none,data:=.fields ps}
 | .met f x=>h.get? a=some (methodObj (.ref f) (.ref x))
 | .ext φ=>φ h/\(∃o,h.get? a=some o)/\∀h1 h2:Heap,φ h1->(∀o,h1.get? a=some o->h2.get? a=some o)->φ h2
def Dg(H:Hp)(h:Heap):Prop:=∀a o,H a=some o->C8 P w H h a o
end
section
variable{P:Program}{w:World}{H H':Hp}{h h':Heap}{a:Addr}{o:HO}
theorem C8.lt(x:C8 P w H h a o):a < h.objs.size:=by
 cases o with
 |lst xs=>obtain⟨_,_,_,_,e⟩:=x;exact Heap.lt_size e
 |tup xs=>obtain⟨_,_,_,p⟩:=x;exact p.lt
 |dK kvs=>obtain⟨_,_,_,_,o,_,_,e,_⟩:=x;exact Heap.lt_size e
 |dT kvs=>obtain⟨_,_,_,_,o,_,_,e,_⟩:=x;exact Heap.lt_size e
 |set S n=>obtain⟨o,_,_,_,e,_⟩:=x;exact Heap.lt_size e
 |ins C dx fs=>obtain⟨_,_,_,e,_⟩:=x;exact Heap.lt_size e
 |own y=>obtain⟨_,e⟩:=x;exact Heap.lt_size e
 |xd fs=>obtain⟨_,⟨_,_,_,e,_⟩,_⟩:=x;exact Heap.lt_size e
 |Et lo hi=>obtain⟨_,_,_,e⟩:=x;exact Heap.lt_size e
 |N9 ob u=>obtain⟨e,_⟩:=x;exact Heap.lt_size e
 |Vi ps=>exact Heap.lt_size (show h.get? a=some _ from x)
 |met f y=>exact Heap.lt_size (show h.get? a=some _ from x)
 |ext φ=>obtain⟨_,⟨_,e⟩,_⟩:=x;exact Heap.lt_size e
theorem Paired.Qf{α β:Type}{F G:α->β->Prop}:∀{l₁:List α} {l₂:List β},Paired F l₁ l₂->(∀a b,F a b->G a b)->Paired G l₁ l₂
 |_,_,.nil,_=>.nil
 |_,_,.cons r t,f=>.cons (f _ _ r) (Paired.Qf t f)
theorem C8.Lx(x:C8 P w H h a o)(k:∀b u,(b=a\/H b=some (.own a))->h.get? b=some u->h'.get? b=some u)
 (ho:∀b,H b=some (.own a)->H' b=some (.own a))(ht:∀b xs,H b=some (.tup xs)->H' b=some (.tup xs)):C8 P w H' h' a o:=by
 induction o with
 |lst xs=>obtain⟨z,its,n,r,e⟩:=x;exact⟨z,its,n,r,k _ _ (.inl rfl) e⟩
 |tup xs=>obtain⟨z,its,r,ob,e,c⟩:=x;exact⟨z,its,r,ob,k _ _ (.inl rfl) e,c⟩
 |dK kvs=>obtain⟨z,y,vs,r,ob,es,ep,e,c⟩:=x;exact⟨z,y,vs,r,ob,es,ep,k _ _ (.inl rfl) e,c⟩
 | dT kvs=>
   obtain⟨z,y,xs,r,ob,es,ep,e,c⟩:=x;exact⟨z,y,xs,Paired.Qf r λp q z=>⟨z.1,ht _ _ z.2.1,z.2.2⟩,ob,es,ep,k _ _ (.inl rfl) e,c⟩
 |set S n=>obtain⟨ob,es,ep,t,e,c⟩:=x;exact⟨ob,es,ep,t,k _ _ (.inl rfl) e,c⟩
 | ins C dx fs=>
   obtain⟨d,z,ne,e,mA,⟨od,es,ep,e2,c⟩,r⟩:=x;exact⟨ho _ d,z,ne,k _ _ (.inl rfl) e,mA,⟨od,es,ep,k _ _ (.inr d) e2,c⟩,r⟩
 |own y=>obtain⟨ob,e⟩:=x;exact⟨ob,k _ _ (.inl rfl) e⟩
 |xd fs=>obtain⟨mA,⟨od,es,ep,e,c⟩,r⟩:=x;exact⟨mA,⟨od,es,ep,k _ _ (.inl rfl) e,c⟩,r⟩
 |Et lo hi=>obtain⟨t,u,v,e⟩:=x;exact⟨t,u,v,k _ _ (.inl rfl) e⟩
 |N9 ob u ih=>obtain⟨e,q⟩:=x;exact⟨k _ _ (.inl rfl) e,ih q⟩
 | Vi ps=>
   have e:h.get? a=some {cls:=.none,data:=.fields ps}:=x;show h'.get? a=some {cls:=.none,data:=.fields ps};exact k a _ (.inl rfl) e
 | met f y=>
   have e:h.get? a=some (methodObj (.ref f) (.ref y)):=x;show h'.get? a=some (methodObj (.ref f) (.ref y));exact k a _ (.inl rfl) e
 |ext φ=>obtain⟨p,⟨o,e⟩,st⟩:=x;exact⟨st _ _ p λo q=>k _ _ (.inl rfl) q,⟨o,k _ _ (.inl rfl) e⟩,st⟩
theorem Dg.lt(x:Dg P w H h)(e:H a=some o):a < h.objs.size:=(x a o e).lt
theorem Dg.fresh(x:Dg P w H h)(e:h.objs.size<=a):H a=none:=by
 cases q:H a with
 |none=>rfl
 |some u=>exact absurd (Nat.lt_of_lt_of_le (x.lt q) e) (Nat.lt_irrefl _)
theorem Dg.kept(x:Dg P w H h)(k:∀b u,h.get? b=some u->h'.get? b=some u):Dg P w H h':=λa o e=>
 (x a o e).Lx (λb u _ q=>k b u q) (λ_ q=>q) λ_ _ q=>q
theorem Dg.laid(x:Dg P w H h)(k:∀b u,h.get? b=some u->h'.get? b=some u)(hp:h.objs.size<=a)(new:C8 P w (upd H a o) h' a o):Dg P w (upd H a o) h':=λb u e=>by
 have hn:=x.fresh hp
 by_cases hb:b=a
 . subst hb;rw[AH]at e;cases e;exact new
 . rw[Au hb]at e;exact(x b u e).Lx (λc v _ q=>k c v q) (λc q=>by rw[Au (B1 q hn)];exact q) λc xs q=>by rw[Au (B1 q hn)];exact q
end
def Rd(H:Hp)(a:Addr)(u:HO):Prop:=H a=some u\/∃o,H a=some (.N9 o u)
variable{w:World}{h:Heap}
theorem Rd.ok{P:Program}(r:Rd H a u)(x:Dg P w H h):C8 P w H h a u:=by
 rcases r with r|⟨o,r⟩
 . exact x a u r
 . obtain⟨_,q⟩:=x a _ r;exact q
noncomputable def Zm:Option HO->Prop
 |some (.lst _)=>True
 |some (.dK _)=>True
 |some (.dT _)=>True
 |some (.set _ _)=>True
 |some (.ins _ _ _)=>True
 |some (.ext _)=>True
 |_=>False
section
variable{P:Program}{w:World}{H:Hp}{h h':Heap}{x e:Addr}{o':HO}
theorem Dg.write(ok:Dg P w H h)(mu:Zm (H x))(he:e=x\/H e=some (.own x))(k:∀b u,b≠e->h.get? b=some u->h'.get? b=some u)(heo:∃u,h'.get? e=some u)
 (new:C8 P w (upd H x o') h' x o'):Dg P w (upd H x o') h':=λb u q=>by
 have nown:∀c y,H c=some (.own y)->c≠x:=λc y r z=>by subst z;rw[r]at mu;exact mu
 have ntup:∀c xs,H c=some (.tup xs)->c≠x:=λc xs r z=>by subst z;rw[r]at mu;exact mu
 by_cases hb:b=x
 . subst hb;rw[AH]at q;cases q;exact new
 . rw [Au hb]at q
   by_cases hbe:b=e
   . have q':H b=some (.own x):=by
      rcases he with z|z
      . exact absurd (hbe.trans z) hb
      . rw[hbe];exact z
     rw[q]at q';cases q';obtain⟨v,hv⟩:=heo;exact⟨v,by rw[hbe];exact hv⟩
   . refine(ok b u q).Lx (λc v hc r=>k c v ?_ r) (λc r=>by rw[Au (nown c b r)];exact r) λc xs r=>by rw[Au (ntup c xs r)];exact r
     rcases hc with rfl|hc
     . exact hbe
     . rintro rfl
       rcases he with z|z
       . exact nown c b hc z
       . rw[hc]at z;cases z;exact hb rfl
end
structure Un(fs ex:List Addr)(H H':Hp)(h h':Heap):Prop where
 keep:∀b o,h.get? b=some o->H b=none->b∉fs->b∉ex->h'.get? b=some o
 slot:∀b o,h.get? b=some o->H b=none->b∈fs->b∉ex->∃sl,h'.get? b=some {o with slots:=sl}
 free:∀b o,h.get? b=some o->H b=none->b∉ex->H' b=none
 there:∀b o,h.get? b=some o->b∉ex->∃o',h'.get? b=some o'
 K6:∀b xs,H b=some (.tup xs)->H' b=some (.tup xs)
 JB:∀b o u,H b=some (.N9 o u)->H' b=some (.N9 o u)
 K8:∀b ps,H b=some (.Vi ps)->∃more,H' b=some (.Vi (ps++more))
section
variable{fs fs' ex ex':List Addr}{H H1 H2:Hp}{h h1 h2 h':Heap}{a x e:Addr}{o:HO}
theorem Un.any(u:Un fs ex H H1 h h1){ob:Obj}(q:h.get? b=some ob)(n:H b=none)(hx:b∉ex):∃sl,h1.get? b=some {ob with slots:=sl}:=by
 by_cases hb:b∈fs
 . exact u.slot b ob q n hb hx
 . exact⟨ob.slots,u.keep b ob q n hb hx⟩
theorem Un.kept(k:∀b u,h.get? b=some u->h'.get? b=some u):Un fs ex H H h h':=
 ⟨λb ob q _ _ _=>k b ob q,λb ob q _ _ _=>⟨ob.slots,k b ob q⟩,λ_ _ _ n _=>n,λb ob q _=>⟨ob,k b ob q⟩,λ_ _ q=>q,λ_ _ _ q=>q,λ_ ps q=>⟨#[],by rw[q];simp⟩⟩
theorem Un.refl:Un fs ex H H h h:=Un.kept λ_ _ q=>q
theorem Un.laid(k:∀b u,h.get? b=some u->h'.get? b=some u)(hp:h.objs.size<=a)(hn:H a=none):Un fs ex H (upd H a o) h h' where
 keep:=λb u q _ _ _=>k b u q
 slot:=λb u q _ _ _=>⟨u.slots,k b u q⟩
 free:=λb u q n _=>by rw[Au (Nat.ne_of_lt (Nat.lt_of_lt_of_le (Heap.lt_size q) hp))];exact n
 there:=λb u q _=>⟨u,k b u q⟩
 K6:=λb xs q=>by rw[Au (B1 q hn)];exact q
 JB:=λb u xs q=>by rw[Au (B1 q hn)];exact q
 K8:=λb ps q=>⟨#[],by rw[Au (B1 q hn),q];simp⟩
theorem Un.write(mu:Zm (H x))(he:e=x\/H e=some (.own x))(k:∀b u,b≠e->h.get? b=some u->h'.get? b=some u)(heo:∃u,h'.get? e=some u):Un fs ex H (upd H x o) h h':=by
 have hx:∀b,H b=none->b≠x:=λb n z=>by subst z;rw[n]at mu;exact mu
 have hb:∀b,H b=none->b≠e:=λb n z=>by
  subst z;rcases he with r|r
  . exact hx b n r
  . rw[n]at r;cases r
 have hm:∀b u,H b=some u->¬Zm (some u)->b≠x:=λb u q nm z=>by subst z;rw[q]at mu;exact nm mu
 refine⟨λb u q n _ _=>k b u (hb b n) q,λb u q n _ _=>⟨u.slots,k b u (hb b n) q⟩,λb u q n _=>by rw[Au (hx b n)];exact n,λb u q _=>?_,
  λb xs q=>by rw[Au (hm b _ q λz=>z)];exact q,λb u xs q=>by rw[Au (hm b _ q λz=>z)];exact q,λb ps q=>⟨#[],by rw[Au (hm b _ q λz=>z),q];simp⟩⟩
 by_cases hbe:b=e
 . subst hbe;exact heo
 . exact⟨u,k b u hbe q⟩
end
def Zp(h:Heap)(H:Hp):List Addr:=(List.range h.objs.size).filter λa=>(H a).isSome
def Jy(h:Heap)(H:Hp):Heap:=PySem.W.hideAll h (Zp h H)
theorem Oh(h:Heap)(H:Hp):(Jy h H).objs.size=h.objs.size:=PySem.W.hideAll_size _ _
theorem QC{o:Obj}(e:h.get? b=some o)(n:H b=none):(Jy h H).get? b=some o:=
 PySem.W.hideAll_get _ e λhm=>by
  have q:(H b).isSome=true:=(mem_filter.mp hm).2;rw[n]at q;simp at q
theorem T3{o:Obj}(e:(Jy h H).get? b=some o):h.get? b=some o/\H b=none:=by
 have e':h.get? b=some o:=PySem.W.of_hideAll (Zp h H) e;refine⟨e',?_⟩;cases q:H b with
 |none=>rfl
 | some x=>
   have hm:b∈Zp h H:=mem_filter.mpr ⟨mem_range.mpr (Heap.lt_size e'),by simp[q]⟩;have z:(Jy h H).get? b=none:=PySem.W.hideAll_none (Zp h H) hm;rw[z]at e;cases e
noncomputable def Ur(g h:Heap)(L:Addr):List (Addr×Obj):=(List.range h.objs.size).filterMap λa=>if a=L\/(g.get? a).isSome=true then none else(h.get? a).map λo=>(a,o)
def rest(g h:Heap)(L d:Addr):List (Addr×Obj):=(Ur g h L).filter λp=>decide (p.1≠d)
structure Mod(K:PySem.W.Frag)(mg:Str->Option Value)(base:Heap):Prop where
 Bq:K.In base
 glob:base.Ns mainGlobals mg
 blt:∃mb,base.Ns builtinsNs mb/\∀x:Str,x≠"__name__"->mb x=bootBuiltins x
 nolimit:base.NoLimit
structure Cx where
 prog:Program
 w:World
 K:PySem.W.Frag
 mg:Str->Option Value
 base:Heap
 A:Around
 N:List Str
 s₀:Shared
 H₀:Hp
 env:Env
 outer:List Env
 stack:List Env
 ex:List Addr
 fn:Str->Bool
 calm:Bool
 pn:List (Addr×Obj)
 xe:Value->Shared->Prop
def QN(l:List Env):List Addr:=l.filterMap (·.frame)
abbrev Cx.fs(X:Cx):List Addr:=QN X.outer
def Zh(sc:Scope)(x:Str):Prop:=sc.names.lookup x=some .local\/sc.names.lookup x=some .cell\/sc.names.lookup x=some .free
def Loc(sc:Scope)(x:Str):Prop:=sc.names.lookup x=some .local\/sc.names.lookup x=some .cell
def Look(env:Env)(h:Heap)(m:Str->Option Value)(x:Str)(u:Value):Prop:=
 (env.kindOf x=some .local/\m x=some u)\/((env.kindOf x=some .cell\/env.kindOf x=some .free)/\∃c,env.cells.lookup x=some c/\h.IsCell c (some u))
structure Cx.Ok(X:Cx):Prop where
 mod:Mod X.K X.mg X.base
 kind:X.env.scope.kind= .function
 glob:X.env.globals=mainGlobals
 blt:X.env.builtins=builtinsNs
 above:X.s₀.heap.objs.size<=X.env.locals
 inj:∀x y c,X.env.cells.lookup x=some c->X.env.cells.lookup y=some c->x=y
 has:∀x,(X.env.kindOf x=some .cell\/X.env.kindOf x=some .free)->∃c,X.env.cells.lookup x=some c
 YY:∀x c,X.fn x=true->X.env.cells.lookup x=some c->X.s₀.heap.objs.size<=c
 hd:X.calm=true->X.A.handled=none
 frames:X.A.frames=some X.stack
 Dl:X.stack=X.outer\/(X.stack=X.env::X.outer/\X.env.frame=some X.env.locals)
 ZI:∀b∈X.ex,b≠X.env.locals/\∀x c,X.env.cells.lookup x=some c->c≠b
 bs:∀b o,X.base.get? b=some o->X.s₀.heap.get? b=some o/\X.H₀ b=none
 Ul:X.base.objs.size<=X.s₀.heap.objs.size
 Qb:∀b o,X.base.get? b=some o->b∉X.ex
 QS:∀b∈X.ex,b∉X.fs
 Gq:X.s₀.heap.FunFrames X.base X.outer
 Wt:∀b∈X.fs,X.H₀ b=none
structure Inv(X:Cx)(pins:List (Addr×Obj))(σ:List (Option V))(H:Hp)(s:Shared):Prop where
 ok:X.Ok
 os:s.os=X.s₀.os
 bare:AllBare s.gens
 base:Un X.fs X.ex X.H₀ H X.s₀.heap s.heap
 loc:∃m,s.heap.Ns X.env.locals m/\∀(i:Nat) (x:Str) (v:V),X.N[i]? =some x->σ[i]? =some (some v)->Zh X.env.scope x->∃u,RelV v u/\Look X.env s.heap m x u
 cell:∀x c,X.env.cells.lookup x=some c->∃v,s.heap.IsCell c v
 free:H X.env.locals=none
 EL:∀x c,X.env.cells.lookup x=some c->H c=none
 pin:∀p∈X.pn++pins,s.heap.get? p.1=some p.2/\H p.1=none/\p.1≠X.env.locals/\p.1∉X.fs/\∀v,p.2.data≠.cell v
 Aj:Dg X.prog X.w H s.heap
 len:σ.length=X.N.length
variable{X:Cx}{pins:List (Addr×Obj)}{σ:List (Option V)}{H H':Hp}{s:Shared}{h':Heap}
theorem Cx.Ok.aK(ok:X.Ok){o:Obj}(e:X.base.get? b=some o):b∉X.fs:=λhb=>by
 have:=(ok.Gq.mem hb).1;rw[e]at this;cases this
theorem Inv.bs(I:Inv X pins σ H s):∀b o,X.base.get? b=some o->s.heap.get? b=some o/\H b=none:=λb o e=>
 ⟨I.base.keep b o (I.ok.bs b o e).1 (I.ok.bs b o e).2 (I.ok.aK e) (I.ok.Qb b o e),I.base.free b o (I.ok.bs b o e).1 (I.ok.bs b o e).2 (I.ok.Qb b o e)⟩
theorem Inv.bk(I:Inv X pins σ H s):∀b o,X.base.get? b=some o->s.heap.get? b=some o:=λb o e=>(I.bs b o e).1
theorem Inv.mod(I:Inv X pins σ H s):Mod X.K X.mg X.base:=I.ok.mod
theorem Inv.EG(I:Inv X pins σ H s):X.K.In s.heap:=I.ok.mod.Bq.keeps I.bk
theorem Inv.lt(I:Inv X pins σ H s):X.env.locals < s.heap.objs.size:=let⟨_,hn,_⟩:=I.loc;hn.lt
theorem Inv.sz(I:Inv X pins σ H s):X.s₀.heap.objs.size<=s.heap.objs.size:=Nat.le_trans I.ok.above (Nat.le_of_lt I.lt)
theorem Inv.Yw(I:Inv X pins σ H s){a:Addr}(h:s.heap.objs.size<=a):a∉X.fs:=λhb=>by
 obtain⟨_,o,ho,_⟩:=I.ok.Gq.mem hb;exact absurd (Nat.lt_of_lt_of_le (Heap.lt_size ho) (Nat.le_trans I.sz h)) (Nat.lt_irrefl _)
theorem Inv.WD(I:Inv X pins σ H s):∀x c,X.env.cells.lookup x=some c->c≠X.env.locals:=λx c e z=>by
 obtain⟨v,o,ho,hd⟩:=I.cell x c e;obtain⟨m,⟨o',es,ep,ho',hd',_⟩,_⟩:=I.loc;rw[z,ho']at ho;cases ho;rw[hd']at hd;cases hd
theorem Inv.Gq(I:Inv X pins σ H s):s.heap.FunFrames X.base X.outer:=by
 have all:∀(l:List Env),(∀b∈QN l,b∈X.fs)->X.s₀.heap.FunFrames X.base l->s.heap.FunFrames X.base l:=by
  intro l
  induction l with
  |nil=>intro _ _;trivial
  | cons env r ih=>
    intro hs hl;obtain⟨hk,⟨L,o,hf,hn,ho,hd⟩,hr⟩:=hl;have hL:L∈X.fs:=hs L (by unfold QN;rw[filterMap_cons,hf];exact mS);obtain⟨sl,e⟩:=I.base.slot L o ho (I.ok.Wt L hL) hL λz=>I.ok.QS L z hL
    exact⟨hk,⟨L,_,hf,hn,e,hd⟩,ih (λb hb=>hs b (by unfold QN;rw[filterMap_cons,hf];exact mC hb)) hr⟩
 exact all X.outer (λ_ hb=>hb) I.ok.Gq
theorem Inv.stack(I:Inv X pins σ H s):s.heap.FunFrames X.base X.stack:=by
 rcases I.ok.Dl with e|⟨e,hf⟩
 . rw[e];exact I.Gq
 . rw[e];obtain⟨m,hn,_⟩:=I.loc;refine .cons (by rw[I.ok.kind];decide) hf hn ?_ I.Gq;exact Heap.get?_none_of_le (Nat.le_trans I.ok.Ul I.ok.above)
theorem Inv.IZ(I:Inv X pins σ H s):∀b∈QN X.stack,b∈X.env.locals::X.fs:=λb hb=>by
 rcases I.ok.Dl with e|⟨e,hf⟩
 . rw[e]at hb;exact mC hb
 . rw[e]at hb;unfold QN at hb;rw[filterMap_cons,hf]at hb;exact hb
theorem Inv.MB(I:Inv X pins σ H s):∀b∈QN X.stack,H b=none:=λb hb=>by
 rcases mK (I.IZ b hb)with e|hb
 . rw[e];exact I.free
 . obtain⟨_,o,ho,_⟩:=I.ok.Gq.mem hb;exact I.base.free b o ho (I.ok.Wt b hb) λz=>I.ok.QS b z hb
variable{g':Array GenState}{t':Nat}{d':Drawn}
theorem Inv.step{ch:List Addr}(I:Inv X pins σ H s)
 (hch:∀b∈ch,(b∈X.ex\/X.s₀.heap.objs.size<=b)/\b≠X.env.locals/\(∀x c,X.env.cells.lookup x=some c->c≠b)/\∀p∈X.pn++pins,p.1≠b)
 (keep:∀b o,b≠X.env.locals->b∉X.fs->b∉ch->s.heap.get? b=some o->H b=none->h'.get? b=some o)
 (slot:∀b o,b≠X.env.locals->b∈X.fs->b∉ch->s.heap.get? b=some o->H b=none->∃sl,h'.get? b=some {o with slots:=sl})(free:∀b o,b∉ch->s.heap.get? b=some o->H b=none->H' b=none)
 (there:∀b o,b∉ch->s.heap.get? b=some o->∃o',h'.get? b=some o')
 (K6:∀b xs,H b=some (.tup xs)->H' b=some (.tup xs))(JB:∀b o u,H b=some (.N9 o u)->H' b=some (.N9 o u))(K8:∀b ps,H b=some (.Vi ps)->∃more,H' b=some (.Vi (ps++more)))
 (ns:∀m,s.heap.Ns X.env.locals m->h'.Ns X.env.locals m)(Aj:Dg X.prog X.w H' h')(hg:AllBare g'):
 Inv X pins σ H' {s with heap:=h',gens:=g',drawn:=d',toks:=t'}:=by
 have neL:∀b o,X.s₀.heap.get? b=some o->b≠X.env.locals:=λb o e=>Nat.ne_of_lt (Nat.lt_of_lt_of_le (Heap.lt_size e) I.ok.above)
 have neC:∀b o,X.s₀.heap.get? b=some o->b∉X.ex->b∉ch:=λb o e hx hb=>by
  rcases(hch b hb).1 with z|z
  . exact hx z
  . exact absurd (Nat.lt_of_lt_of_le (Heap.lt_size e) z) (Nat.lt_irrefl _)
 have cellK:∀x c,X.env.cells.lookup x=some c->∀v,s.heap.IsCell c v->h'.IsCell c v:=λx c e v ⟨o,ho,hd⟩=>by
  have nch:c∉ch:=λz=>(hch c z).2.2.1 x c e rfl
  by_cases hc:c∈X.fs
  . obtain⟨sl,q⟩:=slot c o (I.WD x c e) hc nch ho (I.EL x c e);exact⟨_,q,hd⟩
  . exact⟨o,keep c o (I.WD x c e) hc nch ho (I.EL x c e),hd⟩
 refine⟨I.ok,I.os,hg,⟨λb o e n hb hx=>?_,λb o e n hb hx=>?_,λb o e n hx=>?_,λb o e hx=>?_,λb xs e=>K6 b xs (I.base.K6 b xs e),λb o xs e=>JB b o xs (I.base.JB b o xs e),λb ps e=>?_⟩,?_,λx c e=>?_,?_,λx c e=>?_,λp hp=>?_,Aj,I.len⟩
 . exact keep b o (neL b o e) hb (neC b o e hx) (I.base.keep b o e n hb hx) (I.base.free b o e n hx)
 . obtain⟨sl,e1⟩:=I.base.slot b o e n hb hx;obtain⟨sl',e2⟩:=slot b _ (neL b o e) hb (neC b o e hx) e1 (I.base.free b o e n hx);exact⟨sl',e2⟩
 . obtain⟨o',e1⟩:=I.base.there b o e hx;exact free b o' (neC b o e hx) e1 (I.base.free b o e n hx)
 . obtain⟨o',e1⟩:=I.base.there b o e hx;exact there b o' (neC b o e hx) e1
 . obtain⟨m1,e1⟩:=I.base.K8 b ps e;obtain⟨m2,e2⟩:=K8 b _ e1;exact⟨m1++m2,by rw[e2,Array.append_assoc]⟩
 . obtain⟨m,hn,hl⟩:=I.loc;refine⟨m,ns m hn,λi x v e1 e2 e3=>?_⟩;obtain⟨u,r,l⟩:=hl i x v e1 e2 e3;refine⟨u,r,?_⟩;rcases l with l|⟨k,c,e,z⟩
   . exact .inl l
   . exact .inr ⟨k,c,e,cellK x c e _ z⟩
 . obtain⟨v,z⟩:=I.cell x c e;exact⟨v,cellK x c e v z⟩
 . obtain⟨m,⟨o,_,_,ho,_⟩,_⟩:=I.loc;exact free _ o (λz=>(hch _ z).2.1 rfl) ho I.free
 . obtain⟨v,o,ho,hd⟩:=I.cell x c e;exact free c o (λz=>(hch c z).2.2.1 x c e rfl) ho (I.EL x c e)
 . obtain⟨e,n,ne,nf,d⟩:=I.pin p hp;have nch:p.1∉ch:=λz=>(hch p.1 z).2.2.2 p hp rfl
   exact⟨keep p.1 p.2 ne nf nch e n,free p.1 p.2 nch e n,ne,nf,d⟩
theorem Inv.un(I:Inv X pins σ H s)(u:Un X.fs [] H H' s.heap h')(Aj:Dg X.prog X.w H' h'):Inv X pins σ H' {s with heap:=h',toks:=t'}:=by
 obtain⟨m,⟨o,es,ep,ho,r⟩,_⟩:=id I.loc;obtain⟨sl,hL⟩:=u.any ho I.free (by simp)
 exact I.step (g':=s.gens) (d':=s.drawn) (ch:=[]) (λ_ z=>nomatch z) (λb o _ hb _ e n=>u.keep b o e n hb (by simp)) (λb o _ hb _ e n=>u.slot b o e n hb (by simp)) (λb o _ e n=>u.free b o e n (by simp)) (λb o _ e=>u.there b o e (by simp)) u.K6 u.JB u.K8 (λm' hm=>by
  obtain⟨o',es',ep',ho',r'⟩:=hm;rw[ho]at ho';cases ho'
  exact⟨_,es',ep',hL,r'⟩) Aj I.bare
theorem Inv.call{ch:List Addr}(I:Inv X pins σ H s)(u:Un (QN X.stack) ch H H' s.heap h')(Aj:Dg X.prog X.w H' h')(hg:AllBare g')
 (hch:∀b∈ch,(b∈X.ex\/X.s₀.heap.objs.size<=b)/\b≠X.env.locals/\(∀x c,X.env.cells.lookup x=some c->c≠b)/\∀p∈X.pn++pins,p.1≠b):
 Inv X pins σ H' {s with heap:=h',gens:=g',drawn:=d',toks:=t'}:=by
 obtain⟨m,⟨o,es,ep,ho,r⟩,_⟩:=id I.loc;obtain⟨sl,hL⟩:=u.any ho I.free λz=>(hch _ z).2.1 rfl
 exact I.step (ch:=ch) hch (λb o hL hb hc e n=>u.keep b o e n (λz=>(mK (I.IZ b z)).elim hL hb) hc) (λb o _ _ hc e n=>u.any e n hc) (λb o hc e n=>u.free b o e n hc) (λb o hc e=>u.there b o e hc) u.K6 u.JB u.K8 (λm' hm=>by
  obtain⟨o',es',ep',ho',r'⟩:=hm;rw[ho]at ho';cases ho'
  exact⟨_,es',ep',hL,r'⟩) Aj hg
variable{it:Addr}
theorem Inv.turned(I:Inv X pins σ H s)(k:∀b o,b≠it->s.heap.get? b=some o->h'.get? b=some o)(hn:H it=none)(hL:it≠X.env.locals)
 (h1:it∈X.ex\/X.s₀.heap.objs.size<=it)(h2:∀x c,X.env.cells.lookup x=some c->c≠it)(h3:∀p∈X.pn++pins,p.1≠it):Inv X pins σ H {s with heap:=h',toks:=t'}:=by
 have nit:∀b u,H b=some u->b≠it:=λb u e z=>by rw[z,hn]at e;cases e
 refine I.step (g':=s.gens) (d':=s.drawn) (ch:=[it]) (λb hb=>?_) (λb o _ _ hc e _=>k b o (λz=>hc (by simp[z])) e) (λb o _ _ hc e _=>⟨o.slots,k b o (λz=>hc (by simp[z])) e⟩) (λ_ _ _ _ n=>n)
  (λb o hc e=>⟨o,k b o (λz=>hc (by simp[z])) e⟩) (λ_ _ e=>e) (λ_ _ _ e=>e) (λb ps e=>⟨#[],by rw[e];simp⟩) (λm hm=>?_) (λb u e=>?_) I.bare
 . have e:b=it:=by simpa using hb
   subst e;exact⟨h1,hL,h2,h3⟩
 . obtain⟨o,es,ep,ho,r⟩:=hm;exact⟨o,es,ep,k _ o (Ne.symm hL) ho,r⟩
 . refine(I.Aj b u e).Lx (λc v hc q=>k c v ?_ q) (λ_ q=>q) λ_ _ q=>q
   rcases hc with z|z
   . rw[z];exact nit b u e
   . exact nit c _ z
theorem Inv.tok(I:Inv X pins σ H s)(t:Nat):Inv X pins σ H {s with toks:=t}:=I.un (h':=s.heap) (t':=t) Un.refl I.Aj
theorem Inv.kept(I:Inv X pins σ H s)(k:∀b u,s.heap.get? b=some u->h'.get? b=some u):Inv X pins σ H {s with heap:=h',toks:=t'}:=I.un (Un.kept k) (I.Aj.kept k)
theorem Inv.laid{a:Addr}(I:Inv X pins σ H s)(k:∀b u,s.heap.get? b=some u->h'.get? b=some u)(hp:s.heap.objs.size<=a)(new:C8 X.prog X.w (upd H a o) h' a o):
 Inv X pins σ (upd H a o) {s with heap:=h',toks:=t'}:=I.un (Un.laid k hp (I.Aj.fresh hp)) (I.Aj.laid k hp new)
theorem Inv.write{e:Addr}(I:Inv X pins σ H s)(mu:Zm (H x))(he:e=x\/H e=some (.own x))(k:∀b u,b≠e->s.heap.get? b=some u->h'.get? b=some u)(heo:∃u,h'.get? e=some u)
 (new:C8 X.prog X.w (upd H x o) h' x o):Inv X pins σ (upd H x o) {s with heap:=h',toks:=t'}:=I.un (Un.write mu he k heo) (I.Aj.write mu he k heo new)
theorem Inv.DR{pins':List (Addr×Obj)}(I:Inv X pins σ H s)(h:∀p∈pins',s.heap.get? p.1=some p.2/\H p.1=none/\p.1≠X.env.locals/\p.1∉X.fs/\∀v,p.2.data≠.cell v):Inv X pins' σ H s:=
 ⟨I.ok,I.os,I.bare,I.base,I.loc,I.cell,I.free,I.EL,λp hp=>(mem_append.mp hp).elim (λz=>I.pin p (mL z)) (h p),I.Aj,I.len⟩
variable{N:List Str}{j:Nat}
theorem Kx(hN:N.Nodup){i:Nat}{x:Str}(a:N[i]? =some x)(b:N[j]? =some x):i=j:=by
 obtain⟨h1,e1⟩:=List.getElem?_eq_some_iff.mp a;obtain⟨h2,e2⟩:=List.getElem?_eq_some_iff.mp b;exact(List.getElem_inj hN).mp (e1.trans e2.symm)
variable{M:Model}{A:Around}
theorem I8{E:Value->Shared->Prop}{i:Nat}{x:Str}{Q:Unit->Shared->Prop}(I:Inv X pins σ H s)(hN:X.N.Nodup)(hi:X.N[i]? =some x)(hx:Loc X.env.scope x)(r:RelV v u)
 (h:∀s',Inv X pins (σ.set i (some v)) H s'->(∃a,Heap.SameBut a s.heap s'.heap/\(a=X.env.locals\/X.env.cells.lookup x=some a))->Q () s')(hf:X.fn x=true\/X.env.scope.names.lookup x=some .local:=by first|exact .inl rfl|exact .inr rfl|assumption):wpAny M A (storeName X.env x u) Q E s:=by
 obtain⟨m,hn,hl⟩:=id I.loc;have hcls:(X.env.scope.kind == .class || (X.env.scope.kind == .module && X.env.locals != X.env.globals))=false:=by rw[I.ok.kind];rfl
 have hiσ:i < σ.length:=by rw[I.len];exact(List.getElem?_eq_some_iff.mp hi).1
 have WD:=I.WD
 have tracked:∀{a:Addr} {h':Heap},(∃o,s.heap.get? a=some o/\H a=none)->Heap.SameBut a s.heap h'->Dg X.prog X.w H h':=λ{a h'} ha hs b ob e=>by
  obtain⟨_,_,hfree⟩:=ha;refine(I.Aj b ob e).Lx (λc w' hc q=>(hs.2 c ?_).trans q) (λ_ q=>q) λ_ _ q=>q
  rintro rfl
  rcases hc with rfl|hc
  . rw[hfree]at e;cases e
  . rw[hfree]at hc;cases hc
 rcases hx with hk|hk
 . refine wpAny_storeName_local hk hn (λh' hn' hs=>?_) hcls;obtain⟨oL,_,_,hoL,_⟩:=id hn;refine h _ ⟨I.ok,I.os,I.bare,⟨λb o e n hb hx=>?_,λb o e n hb hx=>?_,I.base.free,λb o e hx=>?_,I.base.K6,I.base.JB,I.base.K8⟩,⟨_,hn',λj y v' e1 e2 e3=>?_⟩,λy c e=>?_,I.free,I.EL,λp hp=>?_,tracked ⟨oL,hoL,I.free⟩ hs,by simpa using I.len⟩ ⟨_,hs,.inl rfl⟩
   . exact(hs.2 b (Nat.ne_of_lt (Nat.lt_of_lt_of_le (Heap.lt_size e) I.ok.above))).trans (I.base.keep b o e n hb hx)
   . obtain⟨sl,e1⟩:=I.base.slot b o e n hb hx;exact⟨sl,(hs.2 b (Nat.ne_of_lt (Nat.lt_of_lt_of_le (Heap.lt_size e) I.ok.above))).trans e1⟩
   . obtain⟨o',e1⟩:=I.base.there b o e hx;exact⟨o',(hs.2 b (Nat.ne_of_lt (Nat.lt_of_lt_of_le (Heap.lt_size e) I.ok.above))).trans e1⟩
   . by_cases hj:j=i
     . subst hj;rw[hi]at e1;cases e1;rw[List.getElem?_set_self hiσ]at e2;cases e2;exact⟨u,r,.inl ⟨hk,by simp⟩⟩
     . rw[List.getElem?_set_ne (Ne.symm hj)]at e2;obtain⟨u',r',q⟩:=hl j y v' e1 e2 e3;refine⟨u',r',?_⟩;rcases q with⟨k,e⟩|⟨k,c,e,z⟩
       . refine .inl ⟨k,?_⟩;have:y≠x:=λe=>hj (Kx hN e1 (e▸hi))
         simp[this,e]
       . exact .inr ⟨k,c,e,z.sameBut hs (WD y c e)⟩
   . obtain⟨w',z⟩:=I.cell y c e;exact⟨w',z.sameBut hs (WD y c e)⟩
   . obtain⟨e,n,ne,nf,d⟩:=I.pin p hp;exact⟨(hs.2 p.1 ne).trans e,n,ne,nf,d⟩
 . have hfn:X.fn x=true:=by
    rcases hf with z|z
    . exact z
    . rw[z]at hk;cases hk
   obtain⟨c,hc⟩:=I.ok.has x (.inl hk);obtain⟨w',z⟩:=I.cell x c hc;refine wpAny_storeName_cell I.ok.kind hk hc z (λh' hc' hs=>?_);obtain⟨oc,hoc,hocd⟩:=id z;refine h {s with heap:=h'} ⟨I.ok,I.os,I.bare,⟨λb o e n hb hx=>?_,λb o e n hb hx=>?_,I.base.free,λb o e hx=>?_,I.base.K6,I.base.JB,I.base.K8⟩,⟨m,hn.sameBut hs (Ne.symm (WD x c hc)),λj y v' e1 e2 e3=>?_⟩,λy c' e=>?_,I.free,I.EL,λp hp=>?_,tracked ⟨oc,hoc,I.EL x c hc⟩ hs,by simpa using I.len⟩ ⟨c,hs,.inr hc⟩
   . exact(hs.2 b (Nat.ne_of_lt (Nat.lt_of_lt_of_le (Heap.lt_size e) (I.ok.YY x c hfn hc)))).trans (I.base.keep b o e n hb hx)
   . obtain⟨sl,e1⟩:=I.base.slot b o e n hb hx;exact⟨sl,(hs.2 b (Nat.ne_of_lt (Nat.lt_of_lt_of_le (Heap.lt_size e) (I.ok.YY x c hfn hc)))).trans e1⟩
   . obtain⟨o',e1⟩:=I.base.there b o e hx;exact⟨o',(hs.2 b (Nat.ne_of_lt (Nat.lt_of_lt_of_le (Heap.lt_size e) (I.ok.YY x c hfn hc)))).trans e1⟩
   . by_cases hj:j=i
     . subst hj;rw[hi]at e1;cases e1;rw[List.getElem?_set_self hiσ]at e2;cases e2;exact⟨u,r,.inr ⟨.inl hk,c,hc,hc'⟩⟩
     . rw[List.getElem?_set_ne (Ne.symm hj)]at e2;obtain⟨u',r',q⟩:=hl j y v' e1 e2 e3;refine⟨u',r',?_⟩;rcases q with q|⟨k,c',e,z'⟩
       . exact .inl q
       . refine .inr ⟨k,c',e,z'.sameBut hs ?_⟩
         rintro rfl
         exact hj (Kx hN e1 (I.ok.inj _ _ _ e hc▸hi))
   . by_cases hcc:c'=c
     . subst hcc;exact⟨_,hc'⟩
     . obtain⟨w2,z2⟩:=I.cell y c' e;exact⟨w2,z2.sameBut hs hcc⟩
   . obtain⟨e,n,ne,nf,d⟩:=I.pin p hp;refine⟨(hs.2 p.1 ?_).trans e,n,ne,nf,d⟩;intro q;rw[q,hoc]at e;have q':oc=p.2:=Option.some.inj e;exact d w' (by rw[<-q'];exact hocd)
theorem Kc{E:Value->Shared->Prop}{i:Nat}{x:Str}{Q:Unit->Shared->Prop}(I:Inv X pins σ H s)(hN:X.N.Nodup)(hi:X.N[i]? =some x)(hx:Loc X.env.scope x)(r:RelV v u)
 (h:∀s',Inv X pins (σ.set i (some v)) H s'->Q () s')(hf:X.fn x=true\/X.env.scope.names.lookup x=some .local:=by first|exact .inl rfl|exact .inr rfl|assumption):wpAny M A (storeName X.env x u) Q E s:=
 I8 I hN hi hx r (λs' I' _=>h s' I') hf
theorem Inv.YX{s':Shared}{ch:List Addr}(I:Inv X pins σ H s)(ho:s'.os=s.os)(u:Un (QN X.stack) ch H H' s.heap s'.heap)(Aj:Dg X.prog X.w H' s'.heap)(hg:AllBare s'.gens)
 (hch:∀b∈ch,(b∈X.ex\/X.s₀.heap.objs.size<=b)/\b≠X.env.locals/\(∀x c,X.env.cells.lookup x=some c->c≠b)/\∀p∈X.pn++pins,p.1≠b):Inv X pins σ H' s':=by
 obtain⟨h',g',d',t',o'⟩:=s';have e:o'=s.os:=ho;subst e;exact I.call (g':=g') (t':=t') (d':=d') u Aj hg hch
abbrev XK:=Value->Option Addr->Hp->Prop
abbrev St:=List (Option V)
abbrev VK:=V->Hp->Prop
abbrev TE:=St->Hp->VK->Prop
abbrev TT:=St->Hp->(Bool->Hp->Prop)->Prop
abbrev TA:=St->Hp->(List V->Hp->Prop)->Prop
structure Ends where
 nx:St->Hp->Prop
 rt:VK
 bk:St->Hp->Prop:=λ_ _=>False
 ct:St->Hp->Prop:=λ_ _=>False
abbrev TS:=Ends->St->Hp->Prop
def EP(X:Cx)(pins:List (Addr×Obj))(σ:St)(Q:VK)(u:Value)(s':Shared):Prop:=∃v H',Inv X pins σ H' s'/\RelV v u/\Q v H'
def TP(X:Cx)(pins:List (Addr×Obj))(σ:St)(Q:Bool->Hp->Prop)(b:Bool)(s':Shared):Prop:=∃H',Inv X pins σ H' s'/\Q b H'
def AP(X:Cx)(pins:List (Addr×Obj))(σ:St)(Q:List V->Hp->Prop)(us:List Value)(s':Shared):Prop:=∃vs H',Inv X pins σ H' s'/\Vals vs us/\Q vs H'
def SP(X:Cx)(pins:List (Addr×Obj))(D:Ends)(f:Flow)(s':Shared):Prop:=
 match f with
 | .next=>∃σ' H',Inv X pins σ' H' s'/\D.nx σ' H'
 | .brk=>∃σ' H',Inv X pins σ' H' s'/\D.bk σ' H'
 | .cont=>∃σ' H',Inv X pins σ' H' s'/\D.ct σ' H'
 | .ret u=>∃v σ' H',Inv X pins σ' H' s'/\RelV v u/\D.rt v H'
def PE(X:Cx)(e:Expr)(t:TE):Prop:=
 ∀(pins:List (Addr×Obj)) (s:Shared) (σ:St) (H:Hp) (Q:VK),Inv X pins σ H s->t σ H Q->wpAny (model X.prog X.w) X.A (eval e X.env) (EP X pins σ Q) X.xe s
def PT(X:Cx)(e:Expr)(t:TT):Prop:=
 ∀(pins:List (Addr×Obj)) (s:Shared) (σ:St) (H:Hp) (Q:Bool->Hp->Prop),Inv X pins σ H s->t σ H Q->wpAny (model X.prog X.w) X.A (isTrue e X.env (eval e X.env)) (TP X pins σ Q) X.xe s
def PW(X:Cx)(e:Expr)(t:TT):Prop:=
 ∀(whole:Sem Value) (pins:List (Addr×Obj)) (s:Shared) (σ:St) (H:Hp) (Q:Bool->Hp->Prop),Inv X pins σ H s->t σ H Q->wpAny (model X.prog X.w) X.A (isTrue e X.env whole) (TP X pins σ Q) X.xe s
variable{X:Cx}
theorem PW.pt{t:TT}(h:PW X e t):PT X e t:=h _
def PA(X:Cx)(es:List Expr)(t:TA):Prop:=
 ∀(pos:Pos) (pins:List (Addr×Obj)) (s:Shared) (σ:St) (H:Hp) (Q:List V->Hp->Prop),Inv X pins σ H s->t σ H Q->wpAny (model X.prog X.w) X.A (spliced (backTo pos (starEach es X.env))) (AP X pins σ Q) X.xe s
def PS(X:Cx)(st:Stmt)(t:TS):Prop:=
 ∀(pins:List (Addr×Obj)) (s:Shared) (σ:St) (H:Hp) (D:Ends),Inv X pins σ H s->t D σ H->wpAny (model X.prog X.w) X.A (exec st X.env) (SP X pins D) X.xe s
def Lm(X:Cx)(st:List Stmt)(t:TS):Prop:=
 ∀(pins:List (Addr×Obj)) (s:Shared) (σ:St) (H:Hp) (D:Ends),Inv X pins σ H s->t D σ H->wpAny (model X.prog X.w) X.A (execs st X.env) (SP X pins D) X.xe s
variable{s:Shared}
theorem BB{α:Type}{t:Sem α}{Q Q':α->Shared->Prop}{E:Value->Shared->Prop}(h:wpAny M A t Q E s)(hQ:∀a s,Q a s->Q' a s):wpAny M A t Q' E s:=wpAny_mono h hQ λ_ _ x=>x
section
variable{pins:List (Addr×Obj)}{s:Shared}{H:Hp}
theorem bin{ta tb:TE}(ha:PE X a ta)(hb:PE X b tb){σ:St}{R:V->V->Hp->Prop}(I:Inv X pins σ H s)(h:ta σ H λx H1=>tb σ H1 λy H2=>R x y H2)
 {α:Type}{Q:α->Shared->Prop}{f:Value->Value->Sem α}
 (hf:∀v u s2 x y H2,Inv X pins σ H2 s2->RelV x v->RelV y u->R x y H2->wpAny (model X.prog X.w) X.A (f v u) Q X.xe s2):
 wpAny (model X.prog X.w) X.A (eval a X.env) (λv s₁=>wpAny (model X.prog X.w) X.A (eval b X.env) (λu s₂=>wpAny (model X.prog X.w) X.A (f v u) Q X.xe s₂) X.xe s₁) X.xe s:=by
 refine BB (ha pins s σ H _ I h) λv s1 ⟨x,H1,I1,r1,q1⟩=>?_
 refine BB (hb pins s1 σ H1 _ I1 q1) λu s2 ⟨y,H2,I2,r2,q2⟩=>?_
 exact hf v u s2 x y H2 I2 r1 r2 q2
def K9(i:Nat):TE:=λσ H Q=>∃v,σ[i]? =some (some v)/\Q v H
def tC(v:V):TE:=λ_ H Q=>Q v H
variable{pos:Pos}
theorem LH{i:Nat}{x:Str}(hN:X.N[i]? =some x)(hv:Zh X.env.scope x)(hd:(x == ("__debug__":Str))=false:=by decide)(hcd:(x == ("__classdict__":Str))=false:=by decide):PE X (.Name x pos) (K9 i):=by
 intro pins s σ H Q I h;obtain⟨v,e,h⟩:=h;obtain⟨m,hn,hl⟩:=I.loc;obtain⟨u,r,l⟩:=hl i x v hN e hv;have fin:EP X pins σ Q u s:=⟨v,H,I,r,h⟩;rcases l with⟨hk,hm⟩|⟨hk,c,hc,hcell⟩
 . exact wpAny_Name (wpAny_loadName_local I.ok.kind hk hn hm fin) hd
 . rcases hk with hk|hk
   . exact wpAny_Name (wpAny_loadName_cell I.ok.kind hk hc hcell fin) hd
   . exact wpAny_Name (wpAny_loadName_free I.ok.kind hk hc hcell fin hcd) hd
theorem VP{i j pos}:PE X (.Constant (.int i) j pos) (tC (.int i)):=λ_ _ _ H _ I h=>wpAny_Constant_int ⟨.int i,H,I.tok _,⟨_,rfl⟩,h⟩
theorem Yd{b j pos}:PE X (.Constant (.bool b) j pos) (tC (.bl b)):=λ_ _ _ H _ I h=>Constant_bool ⟨.bl b,H,I,rfl,h⟩
theorem VN{j pos}:PE X (.Constant .none j pos) (tC .AG):=λ_ _ _ H _ I h=>Constant_none ⟨.AG,H,I,rfl,h⟩
theorem VJ{x j pos}:PE X (.Constant (.str x) j pos) (tC (.str x)):=λ_ _ _ H _ I h=>Calls.Constant_str ⟨.str x,H,I.tok _,⟨_,rfl⟩,h⟩
def Gl(X:Cx)(x:Str):Prop:=X.env.kindOf x=some .globalImplicit
theorem Fu{E:Value->Shared->Prop}{σ:St}{u:Value}{Q:Value->Shared->Prop}(I:Inv X pins σ H s)(hg:Gl X x)(hm:X.mg x=some u)(h:Q u s)
 (hd:(x == ("__debug__":Str))=false:=by decide):wpAny (model X.prog X.w) X.A (eval (.Name x pos) X.env) Q E s:=
 Calls.Name_function_global I.ok.kind hg (Calls.loadGlobal_global (by rw[I.ok.glob];exact I.mod.glob.keeps I.bk) hm h) hd
theorem CT{E:Value->Shared->Prop}{σ:St}{u:Value}{Q:Value->Shared->Prop}(I:Inv X pins σ H s)(hg:Gl X x)(hm:X.mg x=none)(hv:bootBuiltins x=some u)(h:Q u s)
 (hn:x≠"__name__":=by decide)(hd:(x == ("__debug__":Str))=false:=by decide):wpAny (model X.prog X.w) X.A (eval (.Name x pos) X.env) Q E s:=by
 obtain⟨mb,h1,h2⟩:=I.mod.blt;exact Calls.Name_function_global I.ok.kind hg (Calls.loadGlobal_builtin (by rw[I.ok.glob];exact I.mod.glob.keeps I.bk) hm (by rw[I.ok.blt];exact h1.keeps I.bk) ((h2 x hn).trans hv) h) hd
theorem SQ{u:Value}(hg:Gl X x)(hm:X.mg x=some u)(r:RelV v u)(hd:(x == ("__debug__":Str))=false:=by decide):PE X (.Name x pos) (tC v):=
 λ_ _ _ H _ I h=>Fu I hg hm ⟨v,H,I,r,h⟩ hd
theorem SV{u:Value}(hg:Gl X x)(hm:X.mg x=none)(hv:bootBuiltins x=some u)(r:RelV v u)(hn:x≠"__name__":=by decide)(hd:(x == ("__debug__":Str))=false:=by decide):PE X (.Name x pos) (tC v):=
 λ_ _ _ H _ I h=>CT I hg hm hv ⟨v,H,I,r,h⟩ hn hd
variable{a b:Expr}{ta tb:TE}{pos:Pos}
variable{tA tB':TT}{rest:List Expr}
def XJ(t u:TT):TT:=λσ H Q=>t σ H λc H1=>if c=true then u σ H1 Q else Q false H1
def bI(t u:TT):TT:=λσ H Q=>t σ H λc H1=>if c=true then Q true H1 else u σ H1 Q
def ZX(t:TT):TT:=λσ H Q=>t σ H λc H1=>Q (!c) H1
theorem Sq(ha:PT X a tA):PW X (.BoolOp .And [a] pos) tA:=by
 intro wh pins s σ H Q I h;refine isTrue_and (BB (ha pins s σ H Q I h) λc s1 e=>?_);cases c with
 |true=>exact isTrue_and_nil e
 |false=>exact e
theorem Vy(ha:PT X a tA):PW X (.BoolOp .Or [a] pos) tA:=by
 intro wh pins s σ H Q I h;refine isTrue_or (BB (ha pins s σ H Q I h) λc s1 e=>?_);cases c with
 |false=>exact isTrue_or_nil e
 |true=>exact e
theorem Vz(ha:PT X a tA)(hb:PW X (.BoolOp .And (b::rest) pos) tB'):PW X (.BoolOp .And (a::b::rest) pos) (XJ tA tB'):=by
 intro wh pins s σ H Q I h;refine isTrue_and (BB (ha pins s σ H _ I h) λc s1 ⟨H1,I1,q1⟩=>?_);cases c with
 |true=>exact hb wh pins s1 σ H1 Q I1 q1
 |false=>exact⟨H1,I1,q1⟩
theorem Y5(ha:PT X a tA)(hb:PW X (.BoolOp .Or (b::rest) pos) tB'):PW X (.BoolOp .Or (a::b::rest) pos) (bI tA tB'):=by
 intro wh pins s σ H Q I h;refine isTrue_or (BB (ha pins s σ H _ I h) λc s1 ⟨H1,I1,q1⟩=>?_);cases c with
 |true=>exact⟨H1,I1,q1⟩
 |false=>exact hb wh pins s1 σ H1 Q I1 q1
theorem VB(ha:PT X a tA):PT X (.UnaryOp .Not a pos) (ZX tA):=by
 intro pins s σ H Q I h;exact isTrue_not (ha pins s σ H (λc H1=>Q (!c) H1) I h)
noncomputable def UG(ta tb:TE):TE:=λσ H Q=>ta σ H λx H1=>∃c,x= .bl c/\if c=true then tb σ H1 Q else Q (.bl false) H1
noncomputable def XF(ta tb:TE):TE:=λσ H Q=>ta σ H λx H1=>∃c,x= .bl c/\if c=true then Q (.bl true) H1 else tb σ H1 Q
def XG(ta:TE):TE:=λσ H Q=>ta σ H λx H1=>∃c,x= .bl c/\Q (.bl (!c)) H1
theorem VL{op}{t:TE}(h:PE X a t):PE X (.BoolOp op [a] pos) t:=λpins s σ H Q I hw=>BoolOp_one (h pins s σ H Q I hw)
theorem VS(ha:PE X a ta)(hb:PE X (.BoolOp .And (b::rest) pos) tb):PE X (.BoolOp .And (a::b::rest) pos) (UG ta tb):=by
 intro pins s σ H Q I h;refine BoolOp_and (BB (ha pins s σ H _ I h) λv s1 ⟨x,H1,I1,r1,q1⟩=>?_);obtain⟨c,rfl,q1⟩:=q1;cases r1;refine wpAny_truthy_bool ?_;cases c with
 |true=>exact hb pins s1 σ H1 Q I1 q1
 |false=>exact⟨.bl false,H1,I1,rfl,q1⟩
theorem Y9(ha:PE X a ta)(hb:PE X (.BoolOp .Or (b::rest) pos) tb):PE X (.BoolOp .Or (a::b::rest) pos) (XF ta tb):=by
 intro pins s σ H Q I h;refine BoolOp_or (BB (ha pins s σ H _ I h) λv s1 ⟨x,H1,I1,r1,q1⟩=>?_);obtain⟨c,rfl,q1⟩:=q1;cases r1;refine wpAny_truthy_bool ?_;cases c with
 |false=>exact hb pins s1 σ H1 Q I1 q1
 |true=>exact⟨.bl true,H1,I1,rfl,q1⟩
theorem VM(ha:PE X a ta):PE X (.UnaryOp .Not a pos) (XG ta):=by
 intro pins s σ H Q I h;refine UnaryOp_ (BB (ha pins s σ H _ I h) λv s1 ⟨x,H1,I1,r1,q1⟩=>?_);obtain⟨c,rfl,q1⟩:=q1;cases r1;exact not_of (wpAny_truthy_bool ⟨.bl (!c),H1,I1,rfl,q1⟩)
end
def Dt(K:PySem.W.Frag)(H:Hp)(a:Addr)(xs:List V):Prop:=
 Rd H a (.lst xs)\/
  ∃(o:Obj) (its:Array Value) (n:Nat),K.lookup a=some o/\o.cls= .type "list"/\o.dict=none/\o.data= .seq its n/\its.size<=sizeLine/\Vals xs its.toList
def En(K:PySem.W.Frag)(H:Hp)(a:Addr)(xs:List V):Prop:=
 Rd H a (.tup xs)\/
  ∃(o:Obj) (its:Array Value) (n:Nat),K.lookup a=some o/\o.cls= .type "tuple"/\o.data= .seq its n/\its.size<=sizeLine/\Vals xs its.toList
noncomputable def bw:Value->Option V
 | .none=>some .AG
 | .bool b=>some (.bl b)
 | .int i _=>some (.int i)
 | .str x _=>some (.str x)
 | .bytes b _=>some (.UY b)
 | .float b _=>some (.ZE b)
 | .ref a=>some (.ref a)
 | .type n=>some (.ty n)
 |_=>none
theorem RelV.abs(r:RelV x u):bw u=some x:=by
 cases x with
 |AG=>cases r;rfl
 |bl _=>cases r;rfl
 |int _=>obtain⟨t,rfl⟩:=r;rfl
 |str _=>obtain⟨t,rfl⟩:=r;rfl
 |UY _=>obtain⟨t,rfl⟩:=r;rfl
 |ZE _=>obtain⟨t,rfl⟩:=r;rfl
 |ref _=>cases r;rfl
 |ty _=>cases r;rfl
theorem RelV.inj(r:RelV x u)(q:RelV y u):x=y:=Option.some.inj (r.abs.symm.trans q.abs)
theorem Vals.inj:∀{xs ys:List V} {us:List Value},Vals xs us->Vals ys us->xs=ys
 |_,_,_,.nil,.nil=>rfl
 |_,_,_,.cons r t,.cons r' t'=>by rw[r.inj r',Vals.inj t t']
section
variable{σ:St}{a:Addr}{xs ys:List V}
theorem Dt.of{K:PySem.W.Frag}(h:H a=some (.lst xs)):Dt K H a xs:=.inl (.inl h)
theorem En.of{K:PySem.W.Frag}(h:H a=some (.tup xs)):En K H a xs:=.inl (.inl h)
theorem Inv.list(I:Inv X pins σ H s)(h:Dt X.K H a xs):∃its:List Value,Vals xs its/\PlainL s.heap a its.toArray/\xs.length<=sizeLine:=by
 rcases h with h|⟨o,its,n,hk,hc,hd,hs,hz,r⟩
 . obtain⟨z,its,n,r,e⟩:=h.ok I.Aj;exact⟨its,r,⟨_,n,e,rfl,rfl,rfl⟩,z⟩
 . refine⟨its.toList,r,⟨o,n,I.EG a o hk,hc,hd,by simpa using hs⟩,?_⟩;have e:=r.length;simp only[Array.length_toList]at e
   lia
theorem Inv.tuple(I:Inv X pins σ H s)(h:En X.K H a xs):∃its:List Value,Vals xs its/\IsTup s.heap a its.toArray/\xs.length<=sizeLine:=by
 rcases h with h|⟨o,its,n,hk,hc,hs,hz,r⟩
 . obtain⟨z,its,r,p⟩:=h.ok I.Aj;exact⟨its,r,p,z⟩
 . refine⟨its.toList,r,⟨o,I.EG a o hk,hc,n,by simpa using hs⟩,?_⟩;have e:=r.length;simp only[Array.length_toList]at e
   lia
theorem Inv.KI(I:Inv X pins σ H s)(h:Dt X.K H a xs)(h':Dt X.K H a ys):xs=ys:=by
 obtain⟨its,r,⟨o,n,e,_,_,d⟩,_⟩:=I.list h;obtain⟨its',r',⟨o',n',e',_,_,d'⟩,_⟩:=I.list h';rw[e]at e';cases e';rw[d]at d';injection d' with d1 _
 have:its=its':=by simpa using congrArg Array.toList d1
 subst this;exact r.inj r'
theorem Inv.NM(I:Inv X pins σ H s)(h:En X.K H a xs)(h':En X.K H a ys):xs=ys:=by
 obtain⟨its,r,⟨o,e,_,n,d⟩,_⟩:=I.tuple h;obtain⟨its',r',⟨o',e',_,n',d'⟩,_⟩:=I.tuple h';rw[e]at e';cases e';rw[d]at d';injection d' with d1 _
 have:its=its':=by simpa using congrArg Array.toList d1
 subst this;exact r.inj r'
end
abbrev Cx.HQ(X:Cx)(E:Value->Shared->Prop):Cx:={X with xe:=E}
abbrev Cx.Xg(X:Cx):Cx:=X.HQ λ_ _=>False
theorem Cx.Ok.HQ(ok:X.Ok)(E:Value->Shared->Prop):(X.HQ E).Ok:=
 ⟨ok.mod,ok.kind,ok.glob,ok.blt,ok.above,ok.inj,ok.has,ok.YY,ok.hd,ok.frames,ok.Dl,ok.ZI,ok.bs,ok.Ul,ok.Qb,ok.QS,ok.Gq,ok.Wt⟩
theorem Cx.Ok.Ec{E:Value->Shared->Prop}(ok:(X.HQ E).Ok):X.Ok:=
 ⟨ok.mod,ok.kind,ok.glob,ok.blt,ok.above,ok.inj,ok.has,ok.YY,ok.hd,ok.frames,ok.Dl,ok.ZI,ok.bs,ok.Ul,ok.Qb,ok.QS,ok.Gq,ok.Wt⟩
section
variable{σ:St}{E:Value->Shared->Prop}
theorem Inv.HQ(I:Inv X pins σ H s)(E:Value->Shared->Prop):Inv (X.HQ E) pins σ H s:=⟨I.ok.HQ E,I.os,I.bare,I.base,I.loc,I.cell,I.free,I.EL,I.pin,I.Aj,I.len⟩
theorem Inv.Ec(I:Inv (X.HQ E) pins σ H s):Inv X pins σ H s:=⟨I.ok.Ec,I.os,I.bare,I.base,I.loc,I.cell,I.free,I.EL,I.pin,I.Aj,I.len⟩
theorem SP.Ec{D:Ends}{f:Flow}{s':Shared}(h:SP (X.HQ E) pins D f s'):SP X pins D f s':=by
 cases f with
 |next=>obtain⟨σ',H',I,q⟩:=h;exact⟨σ',H',I.Ec,q⟩
 |brk=>obtain⟨σ',H',I,q⟩:=h;exact⟨σ',H',I.Ec,q⟩
 |cont=>obtain⟨σ',H',I,q⟩:=h;exact⟨σ',H',I.Ec,q⟩
 |ret u=>obtain⟨v,σ',H',I,r,q⟩:=h;exact⟨v,σ',H',I.Ec,r,q⟩
theorem Lm.Xg{st:List Stmt}{t:TS}(h:Lm X.Xg st t):Lm X st t:=λpins s σ H D I hw=>
 wpAny_mono (h pins s σ H D (I.HQ _) hw) (λ_ _ q=>q.Ec) λ_ _ z=>False.elim z
end
section
variable{st:Stmt}{rest:List Stmt}{t u:TS}{e:Expr}{te:TE}{pos:Pos}
def MA:TS:=λD σ H=>D.nx σ H
def XD(t u:TS):TS:=λD σ H=>t {D with nx:=u D} σ H
theorem Su:Lm X [] MA:=λ_ _ σ H _ I h=>wpAny_execs_nil ⟨σ,H,I,h⟩
theorem Py(h1:PS X st t)(h2:Lm X rest u):Lm X (st::rest) (XD t u):=by
 intro pins s σ H D I h;refine wpAny_execs_cons (BB (h1 pins s σ H {D with nx:=u D} I h) λf s1 q=>?_);cases f with
 | next=>
   obtain⟨σ',H',I',q⟩:=q;exact h2 pins s1 σ' H' D I' q
 |ret v=>exact q
 |brk=>exact q
 |cont=>exact q
def P2:TS:=λD σ H=>D.bk σ H
def UE:TS:=λD σ H=>D.ct σ H
theorem Sx:PS X (.Pass pos) MA:=λ_ _ σ H _ I h=>wpAny_Pass ⟨σ,H,I,h⟩
theorem PC:PS X (.Break pos) P2:=λ_ _ σ H _ I h=>wpAny_Break ⟨σ,H,I,h⟩
theorem Kp:PS X (.Continue pos) UE:=λ_ _ σ H _ I h=>wpAny_Continue ⟨σ,H,I,h⟩
theorem Inv.quiet{pins:List (Addr×Obj)}{σ:St}{H:Hp}{s:Shared}(I:Inv X pins σ H s):interactive X.env=false:=by simp[interactive,I.ok.kind]
theorem VF{x j pos pos'}:PS X (.Expr (.Constant (.str x) j pos) pos') MA:=λ_ s σ H _ I h=>wpAny_Expr (Calls.Constant_str (show SP X _ _ .next {s with toks:=s.toks + 1}from⟨σ,H,I.tok _,h⟩)) I.quiet
def UD(te:TE):TS:=λD σ H=>te σ H λ_ H1=>D.nx σ H1
theorem Sy(he:PE X e te)(hs:swapsWith e none pos.line X.env=pure false:=by rfl):PS X (.Expr e pos) (UD te):=by
 intro pins s σ H D I h;exact wpAny_Expr_any (BB (he pins s σ H _ I h) λv s1 ⟨x,H1,I1,r1,q1⟩=>⟨σ,H1,I1,q1⟩) I.quiet hs
def XE(te:TE):TS:=λD σ H=>te σ H D.rt
theorem VC(he:PE X e te):PS X (.Return (some e) pos) (XE te):=by
 intro pins s σ H D I h;exact wpAny_Return_some (BB (he pins s σ H _ I h) λv s1 ⟨x,H1,I1,r1,q1⟩=>⟨x,σ,H1,I1,r1,q1⟩)
def UB:TS:=λD _ H=>D.rt .AG H
theorem Sw:PS X (.Return none pos) UB:=λ_ _ σ H _ I h=>wpAny_Return_none ⟨.AG,σ,H,I,rfl,h⟩
def XH(c:TT)(t u:TS):TS:=λD σ H=>c σ H λb H1=>if b=true then t D σ H1 else u D σ H1
theorem Y6{a b:List Stmt}{tc:TT}(hc:PT X c tc)(ha:Lm X a t)(hb:Lm X b u):PS X (.If c a b pos) (XH tc t u):=by
 intro pins s σ H D I h;refine wpAny_If (BB (hc pins s σ H _ I h) λd s1 ⟨H1,I1,q1⟩=>?_);cases d with
 |true=>exact ha pins s1 σ H1 D I1 q1
 |false=>exact hb pins s1 σ H1 D I1 q1
end
abbrev TG:=V->St->Hp->(St->Hp->Prop)->Prop
abbrev V1:=List V->St->Hp->(St->Hp->Prop)->Prop
def PG(X:Cx)(target:Expr)(t:TG):Prop:=
 ∀ (pins:List (Addr×Obj)) (s:Shared) (σ:St) (H:Hp) (v:V) (u:Value) (Q:St->Hp->Prop),Inv X pins σ H s->RelV v u->t v σ H Q->
   wpAny (model X.prog X.w) X.A (assign target X.env u) (λ_ s'=>∃σ' H',Inv X pins σ' H' s'/\Q σ' H') X.xe s
def Zl(X:Cx)(ts:List Expr)(t:V1):Prop:=
 ∀ (pins:List (Addr×Obj)) (s:Shared) (σ:St) (H:Hp) (vs:List V) (us:List Value) (Q:St->Hp->Prop),Inv X pins σ H s->Vals vs us->t vs σ H Q->
   wpAny (model X.prog X.w) X.A (assignInOrder ((assignEach ts X.env).map (·.2)) us) (λ_ s'=>∃σ' H',Inv X pins σ' H' s'/\Q σ' H') X.xe s
abbrev Us:=V->V->V->Hp->(Hp->Prop)->Prop
def Zk(X:Cx)(t:Us):Prop:=
 ∀ (pins:List (Addr×Obj)) (s:Shared) (σ:St) (H:Hp) (o i v:V) (ov iv u:Value) (Q:Hp->Prop),Inv X pins σ H s->RelV o ov->RelV i iv->RelV v u->t o i v H Q->
   wpAny (model X.prog X.w) X.A (setItem ov iv u) (λ_ s'=>∃H',Inv X pins σ H' s'/\Q H') X.xe s
variable{pos:Pos}
def Hn(i:Nat):TG:=λv σ H Q=>Q (σ.set i (some v)) H
theorem MW{i:Nat}{x:Str}(hN:X.N.Nodup)(hi:X.N[i]? =some x)(hx:Loc X.env.scope x)(hf:X.fn x=true\/X.env.scope.names.lookup x=some .local:=by first|exact .inl rfl|exact .inr rfl|assumption):PG X (.Name x pos) (Hn i):=by
 intro pins s σ H v u Q I r h;exact wpAny_assign_Name (Kc I hN hi hx r (λs' I'=>⟨_,H,I',h⟩) hf)
def YJ:V1:=λvs σ H Q=>vs=[]/\Q σ H
def UT(t:TG)(u:V1):V1:=λvs σ H Q=>∃v r,vs=v::r/\t v σ H λσ' H'=>u r σ' H' Q
theorem SM:Zl X [] YJ:=by
 intro pins s σ H vs us Q I r h;obtain⟨e,h⟩:=h;subst e;cases r;exact assignInOrder_nil ⟨σ,H,I,h⟩
theorem PN{es:List Expr}{t:TG}{u:V1}(h1:PG X e t)(h2:Zl X es u)
 (hs:(assignEach (e::es) X.env).map (·.2)=assign e X.env::(assignEach es X.env).map (·.2):=by rfl):Zl X (e::es) (UT t u):=by
 intro pins s σ H vs us Q I r h;obtain⟨v,vr,e1,h⟩:=h;subst e1;cases r with
 | cons r rr=>
   rw[hs];refine assignInOrder_cons (BB (h1 pins s σ H _ _ _ I r h) λ_ s1 ⟨σ1,H1,I1,q1⟩=>?_);exact h2 pins s1 σ1 H1 _ _ Q I1 rr q1
noncomputable def Ws(K:PySem.W.Frag)(n:Nat)(t:V1):TG:=λv σ H Q=>∃a xs,v= .ref a/\En K H a xs/\xs.length=n/\t xs σ H Q
theorem VH{es:List Expr}{k:Nat}{t:V1}{n:Nat}(hc:X.calm=true)(h:Zl X es t)
 (hn:(assignEach es X.env).length=n:=by rfl)(hst:(assignEach es X.env).findIdx? (·.1)=none:=by rfl):PG X (.Tuple es k pos) (Ws X.K n t):=by
 intro pins s σ H v u Q I r hw;obtain⟨a,xs,e1,hq,hl,hw⟩:=hw;subst e1;cases r;obtain⟨its,rv,ht,hz⟩:=I.tuple hq;refine assign_Tuple_tuple (I.ok.hd hc) ht (by simp[hn,<-hl,rv.length]) hst λh' hx=>?_
 have I1:Inv X pins σ H {s with heap:=h'}:=I.kept (t':=s.toks) λb o e=>hx b o (Nat.ne_of_lt (Heap.lt_size e)) e
 exact h pins _ σ H xs _ Q I1 (by simpa using rv) hw
def b8(to ti:TE)(t:Us):TG:=λv σ H Q=>to σ H λo H1=>ti σ H1 λi H2=>t o i v H2 λH3=>Q σ H3
theorem PO{to ti:TE}{t:Us}(ho:PE X o to)(hi:PE X i ti)(hs:Zk X t)
 (ha:∀v,assign (.Subscript o i pos) X.env v=(do
  let ov <-holding [v] (eval o X.env)
  let iv <-holding [v,ov] (eval i X.env)
  standAt pos
  holding [v,ov,iv] (setItem ov iv v)
  release [v,ov,iv] []):=by intro _;rfl):PG X (.Subscript o i pos) (b8 to ti t):=by
 intro pins s σ H v u Q I r h;rw[ha];refine wB (wpAny_holding (BB (ho pins s σ H _ I h) λov s1 ⟨x,H1,I1,r1,q1⟩=>?_));refine wB (wpAny_holding (BB (hi pins s1 σ H1 _ I1 q1) λiv s2 ⟨y,H2,I2,r2,q2⟩=>?_));refine wB (wpAny_standAt (wB (wpAny_holding (BB (hs pins s2 σ H2 x y v ov iv u _ I2 r1 r2 r q2) λ_ s3 ⟨H3,I3,q3⟩=>?_))));exact wpAny_release ⟨σ,H3,I3,q3⟩
def P4(te:TE)(g:TG):TS:=λD σ H=>te σ H λx H1=>g x σ H1 D.nx
variable{te:TE}
theorem PD{tg:Expr}{g:TG}(he:PE X e te)(hg:PG X tg g)(hs:swapsWithSole [tg] e pos.line X.env=pure false:=by rfl)(hw:swappedStores [tg] e X.env=pure none:=by rfl)
 (h1:(assignEach [tg] X.env).map (·.2)=[assign tg X.env]:=by rfl):PS X (.Assign [tg] e pos) (P4 te g):=by
 intro pins s σ H D I h;refine wpAny_Assign_stores (BB (he pins s σ H _ I h) λv s1 ⟨x,H1,I1,r1,q1⟩=>?_) hs hw;rw[h1];exact BB (hg pins s1 σ H1 x v _ I1 r1 q1) λ_ s2 q=>q
theorem GQ{i:Nat}{x:Str}{pos':Pos}(hN:X.N.Nodup)(hi:X.N[i]? =some x)(hx:Loc X.env.scope x)(he:PE X e te)(hs:swapsWith e (some (.Name x pos')) pos.line X.env=pure false:=by rfl)(hf:X.fn x=true\/X.env.scope.names.lookup x=some .local:=by first|exact .inl rfl|exact .inr rfl|assumption):
 PS X (.Assign [.Name x pos'] e pos) (P4 te (Hn i)):=by
 intro pins s σ H D I h;refine wpAny_Assign_Name (BB (he pins s σ H _ I h) λv s1 ⟨y,H1,I1,r1,q1⟩=>?_) hs;exact Kc I1 hN hi hx r1 (λs2 I2=>⟨_,H1,I2,q1⟩) hf
noncomputable def P0(c:TT)(tb:TS):TS:=λD σ H=>∃W:Nat->St->Hp->Prop,(∃m,W m σ H)/\∀m σ H,W m σ H->
 c σ H λb H1=>if b=true then ∃N:St->Hp->Prop,(∀σ' H',N σ' H'->∃m',m' < m/\W m' σ' H')/\tb {D with nx:=N,ct:=N,bk:=D.nx} σ H1 else D.nx σ H1
variable{body:List Stmt}
theorem Pz{tc:TT}{tb:TS}(hp:PassesOwn (model X.prog X.w) X.A X.env X.xe)(hc:PT X c tc)(hb:Lm X body tb):PS X (.While c body [] pos) (P0 tc tb):=by
 intro pins s σ H D I h;obtain⟨W,⟨m0,w0⟩,turn⟩:=h;refine wpAny_While (codeAny_whileLoop (λn s'=>∃σ' H',Inv X pins σ' H' s'/\W n σ' H') ?_ m0 ⟨σ,H,I,w0⟩)
 rintro n s1 ⟨σ1,H1,I1,w1⟩
 refine wpAny_passesOwn hp (BB (hc pins s1 σ1 H1 _ I1 (turn n σ1 H1 w1)) λb s2 ⟨H2,I2,q2⟩=>?_);cases b with
 | true=>
   obtain⟨N,hN,q2⟩:=q2;rw[iP rfl];refine wpAny_passesOwn hp (BB (hb pins s2 σ1 H2 _ I2 q2) λf s3 q3=>?_);cases f with
   | next=>
     obtain⟨σ3,H3,I3,n3⟩:=q3;obtain⟨m',hm,w3⟩:=hN σ3 H3 n3;exact⟨m',hm,σ3,H3,I3,w3⟩
   | cont=>
     obtain⟨σ3,H3,I3,n3⟩:=q3;obtain⟨m',hm,w3⟩:=hN σ3 H3 n3;exact⟨m',hm,σ3,H3,I3,w3⟩
   |brk=>exact q3
   |ret v=>exact q3
 | false=>
   rw[iN Bool.false_ne_true];exact wpAny_execs_nil ⟨σ1,H2,I2,q2⟩
structure It where
 go:Nat->Hp->Prop
 Mw:Nat->Hp->V->Hp->Prop
 stop:Nat->Hp->Prop
def G6(X:Cx)(pins:List (Addr×Obj))(H:Hp)(b:Addr):Prop:=
 H b=none/\b≠X.env.locals/\b∉X.fs/\(b∈X.ex\/X.s₀.heap.objs.size<=b)/\(∀x c,X.env.cells.lookup x=some c->c≠b)/\∀p∈X.pn++pins,p.1≠b
theorem Inv.Md{pins:List (Addr×Obj)}{σ:St}{H':Hp}{b:Addr}(I:Inv X pins σ H s)(hb:s.heap.objs.size<=b)(hn:H' b=none):G6 X pins H' b:=by
 refine⟨hn,Nat.ne_of_gt (Nat.lt_of_lt_of_le I.lt hb),I.Yw hb,.inr (Nat.le_trans I.sz hb),λx c e z=>?_,λp hp z=>?_⟩
 . obtain⟨v,q⟩:=I.cell x c e;exact absurd (Nat.lt_of_lt_of_le q.lt (by rw[z];exact hb)) (Nat.lt_irrefl _)
 . exact absurd (Nat.lt_of_lt_of_le (Heap.lt_size (I.pin p hp).1) (by rw[z];exact hb)) (Nat.lt_irrefl _)
structure Turn(P:Program)(w:World)(K:PySem.W.Frag)(tg:Expr)(J:It)(fp:List Addr)(it:Addr)(tn:Nat->Heap->Prop):Prop where
 mem:it∈fp
 obj:∀i h,tn i h->∀b∈fp,∃o,h.get? b=some o/\∀v,o.data≠.cell v
 keep:∀i h h',tn i h->(∀b∈fp,∀o,h.get? b=some o->h'.get? b=some o)->tn i h'
 item:∀(X:Cx),X.prog=P->X.w=w->X.K=K->X.calm=true->∀(i:Nat) (pins:List (Addr×Obj)) (s:Shared) (σ:St) (H:Hp) (E:Value->Shared->Prop),Inv X pins σ H s->(∀b∈fp,G6 X pins H b)->tn i s.heap->J.go i H->
  wpAny (model P w) X.A (pyNext (.ref it)) (λr s1=>∃u,r=some u/\
   wpAny (model P w) X.A (letOwnedTupleGo tg (.ref it) u) (λ_ s2=>∃x H',Inv X pins σ H' s2/\RelV x u/\J.Mw i H x H'/\tn (i + 1) s2.heap/\∀b∈fp,H' b=none) E s1) E s
 done:∀(X:Cx),X.prog=P->X.w=w->X.K=K->X.calm=true->∀(i:Nat) (pins:List (Addr×Obj)) (s:Shared) (σ:St) (H:Hp) (E:Value->Shared->Prop),Inv X pins σ H s->(∀b∈fp,G6 X pins H b)->tn i s.heap->J.stop i H->
  wpAny (model P w) X.A (pyNext (.ref it)) (λr s1=>r=none/\Inv X pins σ H s1) E s
 self:∀(A:Around) (i:Nat) (s:Shared) (Q:Value->Shared->Prop) (E:Value->Shared->Prop),tn i s.heap->Q (.ref it) s->wpAny (model P w) A (pyIter (.ref it)) Q E s
abbrev TI:=St->Hp->(It->Hp->Prop)->Prop
def bX(X:Cx)(pins:List (Addr×Obj))(σ:St)(tg:Expr)(R:It->Hp->Prop)(itv:Value)(s2:Shared):Prop:=
 ∃(it:Addr) (fp:List Addr) (tn:Nat->Heap->Prop) (J:It) (H':Hp),itv= .ref it/\Inv X pins σ H' s2/\Turn X.prog X.w X.K tg J fp it tn/\tn 0 s2.heap/\(∀b∈fp,G6 X pins H' b)/\R J H'
def PI(X:Cx)(tg iter:Expr)(wi:TI):Prop:=
 ∀ (pins:List (Addr×Obj)) (s:Shared) (σ:St) (H:Hp) (R:It->Hp->Prop),Inv X pins σ H s->wi σ H R->
   wpAny (model X.prog X.w) X.A (eval iter X.env) (λv s1=>wpAny (model X.prog X.w) X.A (pyIter v) (bX X pins σ tg R) X.xe s1) X.xe s
theorem Hm{E:Value->Shared->Prop}{tg:Expr}{o:Obj}{vs:Array Value}{Q:Unit->Shared->Prop}(ho:s.heap.get? it=some o)(hc:o.cls= .type n)(hd:o.data= .fields vs)
 (hn:["enumerate","zip","dict_itemiterator","dict_reverseitemiterator","odict_iterator","itertools.zip_longest","itertools.pairwise"].contains n=false)(hQ:Q () s):wpAny M A (letOwnedTupleGo tg (.ref it) u) Q E s:=by
 unfold letOwnedTupleGo
 cases tg <;>first
  |exact wP hQ
  |(cases u<;>first
   |exact wP hQ
   | (refine wB (wpAny_load ho ?_)
      rw[hc,hd];show wpAny M A (if(["enumerate","zip","dict_itemiterator","dict_reverseitemiterator","odict_iterator","itertools.zip_longest","itertools.pairwise"].contains n && vs[0]? == some (rawInt _))=true then _ else _) Q E s;rw[iN (by intro h;rw[hn,Bool.false_and]at h;cases h)]
      exact wP hQ))
noncomputable def c8(K:PySem.W.Frag)(a:Addr):It:=
 ⟨λi H=>∃xs x,Dt K H a xs/\xs[i]? =some x,λi H x H'=>H'=H/\∀xs,Dt K H a xs->xs[i]? =some x,λi H=>∃xs,Dt K H a xs/\xs.length<=i⟩
noncomputable def bZ(K:PySem.W.Frag)(a:Addr):It:=
 ⟨λi H=>∃xs x,En K H a xs/\xs[i]? =some x,λi H x H'=>H'=H/\∀xs,En K H a xs->xs[i]? =some x,λi H=>∃xs,En K H a xs/\xs.length<=i⟩
def Xv(lo:Int)(n:Nat):It:=⟨λi _=>i < n,λi H x H'=>H'=H/\x= .int (lo + i),λi _=>n<=i⟩
theorem NL{P:Program}{K:PySem.W.Frag}{tg:Expr}(a it:Addr):Turn P w K tg (c8 K a) [it] it (λi h=>h.IsListIter it a i) where
 mem:=by simp
 obj:=λi h st b hb=>by
  have e:b=it:=by simpa using hb
  subst e;obtain⟨o,e,c,d⟩:=st;exact⟨o,e,λv z=>by rw[d]at z;cases z⟩
 keep:=λi h h' st k=>st.at λo e=>k it (by simp) o e
 item:=by
  intro X hP hw hK hc i pins s σ H E I hf st hg;subst hP hw hK;obtain⟨xs,x,hq,hx⟩:=hg;obtain⟨its,rv,p,hz⟩:=I.list hq;obtain⟨u,hu,ru⟩:=rv.get hx;obtain⟨f0,f1,f2,f3,f4,f5⟩:=hf it (by simp);refine wpAny_pyNext_list_item st p.isList (x:=u) (by simpa using hu) λh' st' sb=>?_
  have I1:Inv X pins σ H {s with heap:=h'}:=I.turned (t':=s.toks) (λb o hb e=>(sb.2 b hb).trans e) f0 f1 f3 f4 f5;obtain⟨o,e,c,d⟩:=id st';exact⟨u,rfl,Hm (s:={s with heap:=h'}) e c d (by decide) ⟨x,H,I1,ru,⟨rfl,λys hy=>by rw[I.KI hy hq];exact hx⟩,st',λb hb=>(hf b hb).1⟩⟩
 done:=by
  intro X hP hw hK hc i pins s σ H E I hf st hg;subst hP hw hK;obtain⟨xs,hq,hx⟩:=hg;obtain⟨its,rv,p,hz⟩:=I.list hq;obtain⟨f0,f1,f2,f3,f4,f5⟩:=hf it (by simp);have hl:=rv.length;exact wpAny_pyNext_list_end (I.ok.hd hc) st p.isList (by simp;lia) λh' eb=>⟨rfl,I.turned (t':=s.toks) (λb o hb e=>eb b o hb e) f0 f1 f3 f4 f5⟩
 self:=λ_ _ _ _ _ st h=>wpAny_pyIter_listiter st h
theorem Lu{P:Program}{K:PySem.W.Frag}{tg:Expr}(a it:Addr):Turn P w K tg (bZ K a) [it] it (λi h=>h.IsTupleIter it a i) where
 mem:=by simp
 obj:=λi h st b hb=>by
  have e:b=it:=by simpa using hb
  subst e;obtain⟨o,e,c,d⟩:=st;exact⟨o,e,λv z=>by rw[d]at z;cases z⟩
 keep:=λi h h' st k=>st.at λo e=>k it (by simp) o e
 item:=by
  intro X hP hw hK hc i pins s σ H E I hf st hg;subst hP hw hK;obtain⟨xs,x,hq,hx⟩:=hg;obtain⟨its,rv,p,hz⟩:=I.tuple hq;obtain⟨u,hu,ru⟩:=rv.get hx;obtain⟨f0,f1,f2,f3,f4,f5⟩:=hf it (by simp);refine wpAny_pyNext_tuple_item st (show s.heap.IsTuple a its.toArray from p) (x:=u) (by simpa using hu) λh' st' sb=>?_
  have I1:Inv X pins σ H {s with heap:=h'}:=I.turned (t':=s.toks) (λb o hb e=>(sb.2 b hb).trans e) f0 f1 f3 f4 f5;obtain⟨o,e,c,d⟩:=id st';exact⟨u,rfl,Hm (s:={s with heap:=h'}) e c d (by decide) ⟨x,H,I1,ru,⟨rfl,λys hy=>by rw[I.NM hy hq];exact hx⟩,st',λb hb=>(hf b hb).1⟩⟩
 done:=by
  intro X hP hw hK hc i pins s σ H E I hf st hg;subst hP hw hK;obtain⟨xs,hq,hx⟩:=hg;obtain⟨its,rv,p,hz⟩:=I.tuple hq;obtain⟨f0,f1,f2,f3,f4,f5⟩:=hf it (by simp);have hl:=rv.length;exact wpAny_pyNext_tuple_end (I.ok.hd hc) st (show s.heap.IsTuple a its.toArray from p) (by simp;lia) λh' eb=>⟨rfl,I.turned (t':=s.toks) (λb o hb e=>eb b o hb e) f0 f1 f3 f4 f5⟩
 self:=λ_ _ _ _ _ st h=>wpAny_pyIter_tupleiter st h
theorem Lv{P:Program}{K:PySem.W.Frag}{tg:Expr}(it:Addr)(lo:Int)(n:Nat):Turn P w K tg (Xv lo n) [it] it (λi h=>IsRangeIter h it (lo + (i:Nat) * 1) ((n:Int) - (i:Nat)) 1) where
 mem:=by simp
 obj :=λi h st b hb=>by
  have e:b=it:=by simpa using hb
  subst e
  exact⟨_,st,λv z=>by
   have z':Data.fields _=Data.cell v:=z
   cases z'⟩
 keep:=λi h h' st k=>k it (by simp) _ st
 item:=by
  intro X hP hw hK hc i pins s σ H E I hf st hg;subst hP hw hK;obtain⟨f0,f1,f2,f3,f4,f5⟩:=hf it (by simp);have W:=Walks.range (prog:=X.prog) (w:=X.w) (I.ok.hd hc) it lo 1 n;refine W.item i s _ _ hg st λv h' tk hv st' kk=>?_
  obtain⟨t,rfl⟩:=hv;have I1:Inv X pins σ H {s with heap:=h',toks:=tk}:=I.turned (λb o hb e=>kk b o (by simpa using hb) e) f0 f1 f3 f4 f5;refine⟨_,rfl,Hm (s:={s with heap:=h',toks:=tk}) (n:="range_iterator") st' rfl rfl (by decide) ⟨.int (lo + i),H,I1,⟨t,?_⟩,⟨rfl,rfl⟩,st',λb hb=>(hf b hb).1⟩⟩;rw[Int.mul_one]
 done:=by
  intro X hP hw hK hc i pins s σ H E I hf st hg;subst hP hw hK;obtain⟨f0,f1,f2,f3,f4,f5⟩:=hf it (by simp);exact wpAny_pyNext_range_end (I.ok.hd hc) st (by have:n<=i:=hg;lia) λh' eb=>⟨rfl,I.turned (t':=s.toks) (λb o hb e=>eb b o hb e) f0 f1 f3 f4 f5⟩
 self:=λ_ _ _ _ _ st h=>wpAny_pyIter_rangeiter st h
section
variable{tg:Expr}
variable{pins:List (Addr×Obj)}{H:Hp}{s:Shared}
theorem Kl{σ:St}{R:It->Hp->Prop}{E:Value->Shared->Prop}{lo hi:Int}{t u v:Tok}{tk:Nat}(I:Inv X pins σ H s)(h1: -(2 ^ 62)<=lo)(h2:lo < 2 ^ 62)(h3: -(2 ^ 62)<=hi)(h4:hi < 2 ^ 62)
 (q:R (Xv lo (hi - lo).toNat) H):wpAny (model X.prog X.w) X.A (pyIter (.ref s.heap.objs.size)) (bX X pins σ tg R) E {s with heap:=s.heap.push {cls:=.type "range",data:=.fields #[.int lo t,.int hi u,.int 1 v]},toks:=tk}:=by
 refine wpAny_pyIter_range (IsRange.new ..) (small_one h1 h2 h3 h4) ?_;have I1:Inv X pins σ H {s with heap:=s.heap.push {cls:=.type "range",data:=.fields #[.int lo t,.int hi u,.int 1 v]},toks:=tk}:=I.kept λb o e=>gP e
 refine⟨(s.heap.push {cls:=.type "range",data:=.fields #[.int lo t,.int hi u,.int 1 v]}).objs.size,[(s.heap.push {cls:=.type "range",data:=.fields #[.int lo t,.int hi u,.int 1 v]}).objs.size],_,_,H,rfl,
  I1.kept (t':=tk) λb o e=>gP e,Lv _ lo (hi - lo).toNat,?_,λb hb=>?_,q⟩
 . have e1:lo + ((0:Nat):Int) * 1=lo:=by simp
   have e2:(((hi - lo).toNat:Nat):Int) - ((0:Nat):Int)=Builtin.Range.rangeSize lo hi 1:=by rw[rangeSize_one];split<;>lia
   show IsRangeIter _ _ (lo + ((0:Nat):Int) * 1) ((((hi - lo).toNat:Nat):Int) - ((0:Nat):Int)) 1;rw[e1,e2];exact Heap.get?_push_size _ rfl
 . have e:b=(s.heap.push {cls:=.type "range",data:=.fields #[.int lo t,.int hi u,.int 1 v]}).objs.size:=by simpa using hb
   subst e;exact I1.Md (lR) (I1.Aj.fresh (lR))
noncomputable def YH(ta:TA):TI:=λσ H R=>ta σ H λvs H1=>∃j:Int,vs=[.int j]/\-(2 ^ 62)<=j/\j < 2 ^ 62/\R (Xv 0 j.toNat) H1
noncomputable def YG(ta:TA):TI:=λσ H R=>ta σ H λvs H1=>∃i j:Int,vs=[.int i,.int j]/\(-(2 ^ 62)<=i/\i < 2 ^ 62/\-(2 ^ 62)<=j/\j < 2 ^ 62)/\R (Xv i (j - i).toNat) H1
variable{pos:Pos}
theorem O5{a:Expr}{ta:TA}{p:Pos}(hg:Gl X "range")(hm:X.mg "range"=none)(ha:PA X [a] ta)(hs:starEach [a] X.env=[(false,eval a X.env)]:=by rfl):PI X tg (.Call (.Name "range" p) [a] [] pos) (YH ta):=by
 intro pins s σ H R I h;refine Call_ (CT I hg hm boot_range (PyProof.Rows.callWith_type1 (BB (ha pos pins s σ H _ I h) λus s1 ⟨vs,H1,I1,r1,q1⟩=>?_) hs rfl));obtain⟨j,e,q1,q2,q⟩:=q1;subst e;cases r1 with
 | cons r rr=>
   cases rr;obtain⟨t,rfl⟩:=r;exact call_range_1 (Kl I1 (by lia) (by lia) q1 q2 (by simpa using q))
theorem O4{a b:Expr}{ta:TA}{p:Pos}(hg:Gl X "range")(hm:X.mg "range"=none)(ha:PA X [a,b] ta)(hs:starEach [a,b] X.env=[(false,eval a X.env),(false,eval b X.env)]:=by rfl)(hs2:starEach [b] X.env=[(false,eval b X.env)]:=by rfl):
 PI X tg (.Call (.Name "range" p) [a,b] [] pos) (YG ta):=by
 intro pins s σ H R I h;refine Call_ (CT I hg hm boot_range (PyProof.Rows.callWith_type1 (BB (ha pos pins s σ H _ I h) λus s1 ⟨vs,H1,I1,r1,q1⟩=>?_) (by rw[hs,hs2]) (by rw[hs2];rfl)));obtain⟨i,j,e,⟨q1,q2,q3,q4⟩,q⟩:=q1;subst e;cases r1 with
 | cons r rr=>
   cases rr with
   | cons r' rr=>
     cases rr;obtain⟨t,rfl⟩:=r;obtain⟨t',rfl⟩:=r';exact call_range_2 (Kl I1 q1 q2 q3 q4 q)
noncomputable def XI(wi:TI)(g:TG)(tb:TS):TS:=λD σ H=>wi σ H λJ H1=>∃W:Nat->Nat->St->Hp->Prop,(∃m,W 0 m σ H1)/\∀i m σ H,W i m σ H->
 (J.stop i H/\D.nx σ H)\/(J.go i H/\∃N:St->Hp->Prop,(∀σ' H',N σ' H'->∃m',m' < m/\W (i + 1) m' σ' H')/\∀x H',J.Mw i H x H'->g x σ H' λσ2 H2=>tb {D with nx:=N,ct:=N,bk:=D.nx} σ2 H2)
def Jb(fp:List Addr)(h:Heap):List (Addr×Obj):=fp.filterMap λb=>(h.get? b).map λo=>(b,o)
variable{fp:List Addr}{h:Heap}
theorem CG{b:Addr}{o:Obj}(hb:b∈fp)(e:h.get? b=some o):(b,o)∈Jb fp h:=mem_filterMap.mpr ⟨b,hb,by rw[e];rfl⟩
theorem O7{p:Addr×Obj}(hp:p∈Jb fp h):p.1∈fp/\h.get? p.1=some p.2:=by
 obtain⟨b,hb,e⟩:=mem_filterMap.mp hp;cases q:h.get? b with
 |none=>rw[q]at e;cases e
 | some o=>
   rw[q]at e;have e':(b,o)=p:=Option.some.inj e;subst e';exact⟨hb,q⟩
theorem Inv.pinned{σ:St}(I:Inv X pins σ H s)(hf:∀b∈fp,G6 X pins H b)(ho:∀b∈fp,∃o,s.heap.get? b=some o/\∀v,o.data≠.cell v):Inv X (pins++Jb fp s.heap) σ H s:=
 I.DR λp hp=>(mem_append.mp hp).elim (λz=>I.pin p (mR z)) λz=>by
  obtain⟨hb,e⟩:=O7 z;obtain⟨f0,f1,f2,_⟩:=hf p.1 hb;obtain⟨o,e',d⟩:=ho p.1 hb;rw[e]at e';cases e';exact⟨e,f0,f1,f2,d⟩
theorem Inv.GH{pl:List (Addr×Obj)}{σ:St}(I:Inv X (pins++pl) σ H s):Inv X pins σ H s:=I.DR λp hp=>I.pin p (mR (mL hp))
theorem VD{iter:Expr}{body:List Stmt}{wi:TI}{g:TG}{tb:TS}(hp:PassesOwn (model X.prog X.w) X.A X.env X.xe)(hc:X.calm=true)(hi:PI X tg iter wi)(hg:PG X tg g)(hb:Lm X body tb)
 (hs:∀x,foldedSetIterable iter X.env x=pure x:=by intro _;rfl):PS X (.For tg iter body [] pos) (XI wi g tb):=by
 intro pins s σ H D I h;refine wpAny_For (BB (hi pins s σ H _ I h) λv s1 h1=>BB h1 λitv s2 h2=>?_) hs;obtain⟨it,fp,tn,J,H2,e,I2,T,st2,f2,W,⟨m0,w0⟩,turn⟩:=h2;subst e;have stat:∀{H':Hp},(∀b∈fp,H' b=none)->∀b∈fp,G6 X pins H' b:=λhn b hb=>⟨hn b hb,(f2 b hb).2⟩
 refine codeAny_forLoop_any (λn s'=>∃i σ' H',Inv X pins σ' H' s'/\tn i s'.heap/\(∀b∈fp,H' b=none)/\W i n σ' H') ?_ m0 ⟨0,σ,H2,I2,st2,λb hb=>(f2 b hb).1,w0⟩
 rintro n s3 ⟨i,σ3,H3,I3,st3,fr3,w3⟩
 rcases turn i n σ3 H3 w3 with⟨stop,qn⟩|⟨go,N,hN,step⟩
 . refine wpAny_passesOwn hp (BB (T.done X rfl rfl rfl hc i pins s3 σ3 H3 X.xe I3 (stat fr3) st3 stop) λr s4 ⟨hr,I4⟩=>?_);subst hr;exact wpAny_execs_nil ⟨σ3,H3,I4,qn⟩
 . refine wpAny_passesOwn hp (BB (T.item X rfl rfl rfl hc i pins s3 σ3 H3 X.xe I3 (stat fr3) st3 go) λr s4 ⟨u,hr,h4⟩=>?_);subst hr;refine wpAny_passesOwn hp (BB h4 λ_ s5 ⟨x,H5,I5,r5,y5,st5,fr5⟩=>?_);have I5':=I5.pinned (stat fr5) (T.obj _ _ st5);refine wpAny_passesOwn hp (BB (hg _ s5 σ3 H5 x u _ I5' r5 (step x H5 y5)) λ_ s6 ⟨σ6,H6,I6,q6⟩=>?_);refine wpAny_passesOwn hp (BB (hb _ s6 σ6 H6 _ I6 q6) λf s7 q7=>?_)
   have again:∀{σ7:St} {H7:Hp},Inv X (pins++Jb fp s5.heap) σ7 H7 s7->N σ7 H7->∃m,m < n/\∃i σ' H',Inv X pins σ' H' s7/\tn i s7.heap/\(∀b∈fp,H' b=none)/\W i m σ' H':=λ{σ7 H7} I7 n7=>by
    obtain⟨m',hm,w7⟩:=hN σ7 H7 n7;refine⟨m',hm,i + 1,σ7,H7,I7.GH,T.keep _ _ _ st5 λb hb o e=>(I7.pin (b,o) (mR (mR (CG hb e)))).1,λb hb=>?_,w7⟩;obtain⟨o,e,d⟩:=T.obj _ _ st5 b hb;exact(I7.pin (b,o) (mR (mR (CG hb e)))).2.1
   cases f with
   |next=>obtain⟨σ7,H7,I7,n7⟩:=q7;exact again I7 n7
   |cont=>obtain⟨σ7,H7,I7,n7⟩:=q7;exact again I7 n7
   |brk=>obtain⟨σ7,H7,I7,q7⟩:=q7;exact⟨σ7,H7,I7.GH,q7⟩
   |ret v=>obtain⟨x7,σ7,H7,I7,r7,q7⟩:=q7;exact⟨x7,σ7,H7,I7.GH,r7,q7⟩
end
abbrev R2:=V->V->Hp->VK->Prop
def Du(X:Cx)(f:Value->Value->Sem Value)(r:R2):Prop:=
 ∀ (pins:List (Addr×Obj)) (s:Shared) (σ:St) (H:Hp) (x y:V) (v u:Value) (Q:VK),Inv X pins σ H s->RelV x v->RelV y u->r x y H Q->
   wpAny (model X.prog X.w) X.A (f v u) (EP X pins σ Q) X.xe s
def V0(X:Cx)(f:Value->Sem Value)(r:V->Hp->VK->Prop):Prop:=
 ∀ (pins:List (Addr×Obj)) (s:Shared) (σ:St) (H:Hp) (x:V) (v:Value) (Q:VK),Inv X pins σ H s->RelV x v->r x H Q->
   wpAny (model X.prog X.w) X.A (f v) (EP X pins σ Q) X.xe s
def B4(X:Cx)(f:Value)(r:List V->Hp->VK->Prop):Prop:=
 ∀ (pins:List (Addr×Obj)) (s:Shared) (σ:St) (H:Hp) (xs:List V) (us:List Value) (Q:VK),Inv X pins σ H s->Vals xs us->r xs H Q->
   wpAny (model X.prog X.w) X.A (call f us) (EP X pins σ Q) X.xe s
def Zj(X:Cx)(r:V->Hp->(Bool->Hp->Prop)->Prop):Prop:=
 ∀ (pins:List (Addr×Obj)) (s:Shared) (σ:St) (H:Hp) (x:V) (v:Value) (Q:Bool->Hp->Prop),Inv X pins σ H s->RelV x v->r x H Q->
   wpAny (model X.prog X.w) X.A (truthy v) (TP X pins σ Q) X.xe s
def Zq(r:R2)(ta tb:TE):TE:=λσ H Q=>ta σ H λx H1=>tb σ H1 λy H2=>r x y H2 Q
def cj(r:V->Hp->VK->Prop)(ta:TE):TE:=λσ H Q=>ta σ H λx H1=>r x H1 Q
noncomputable def rI(C:Int->Int->Prop)(g:Int->Int->V):R2:=λx y H Q=>∃i j,x= .int i/\y= .int j/\C i j/\Q (g i j) H
def Xc(g:Int->Int->V):R2:=λx y H Q=>∃i j,x= .int i/\y= .int j/\Q (g i j) H
def rU(g:Int->V):V->Hp->VK->Prop:=λx H Q=>∃i,x= .int i/\Q (g i) H
section
variable{a b c:Expr}{ta tb tc:TE}
theorem X1(ha:PE X a ta)(hb:PE X b tb){pins:List (Addr×Obj)}{s:Shared}{σ:St}{H:Hp}{R:V->V->Hp->Prop}(I:Inv X pins σ H s)
 (h:ta σ H λx H1=>tb σ H1 λy H2=>R x y H2){Q:Value->Shared->Prop}{f:Value->Value->Sem Value}
 (hf:∀v u s2 x y H2,Inv X pins σ H2 s2->RelV x v->RelV y u->R x y H2->wpAny (model X.prog X.w) X.A (f v u) Q X.xe s2):
 wpAny (model X.prog X.w) X.A (eval a X.env) (λv s₁=>wpAny (model X.prog X.w) X.A (eval b X.env) (λu s₂=>wpAny (model X.prog X.w) X.A (f v u) Q X.xe s₂) X.xe s₁) X.xe s:=by
 refine BB (ha pins s σ H _ I h) λv s1 ⟨x,H1,I1,r1,q1⟩=>?_
 refine BB (hb pins s1 σ H1 _ I1 q1) λu s2 ⟨y,H2,I2,r2,q2⟩=>?_
 exact hf v u s2 x y H2 I2 r1 r2 q2
theorem Ya{op:Operator}{r:R2}(ho:Du X (binaryOp op) r)(ha:PE X a ta)(hb:PE X b tb):PE X (.BinOp a op b pos) (Zq r ta tb):=by
 intro pins s σ H Q I h;exact wpAny_BinOp (X1 ha hb I h λv u s2 x y H2 I2 rx ry q=>ho pins s2 σ H2 x y v u Q I2 rx ry q)
theorem Y8{op:UnaryOp}{r:V->Hp->VK->Prop}(ho:V0 X (unaryOp op) r)(ha:PE X a ta):PE X (.UnaryOp op a pos) (cj r ta):=by
 intro pins s σ H Q I h;exact UnaryOp_ (BB (ha pins s σ H _ I h) λv s1 ⟨x,H1,I1,r1,q1⟩=>ho pins s1 σ H1 x v Q I1 r1 q1)
theorem Zs{f:Value->Value->Sem Value}{C:Int->Int->Prop}{g:Int->Int->Int}
 (rule:∀(i j:Int) (t u:Tok) (s:Shared) (Q:Value->Shared->Prop) (E:Value->Shared->Prop),C i j->Q (.int (g i j) s.toks) {s with toks:=s.toks + 1}->wpAny (model X.prog X.w) X.A (f (.int i t) (.int j u)) Q E s):
 Du X f (rI C λi j=>.int (g i j)):=by
 intro pins s σ H x y v u Q I rx ry h;obtain⟨i,j,rfl,rfl,hc,q⟩:=h;obtain⟨t,rfl⟩:=rx;obtain⟨t',rfl⟩:=ry;exact rule i j t t' s _ _ hc ⟨.int (g i j),H,I.tok _,⟨_,rfl⟩,q⟩
theorem Yk{f:Value->Value->Sem Value}{g:Int->Int->Int}
 (rule:∀(i j:Int) (t u:Tok) (s:Shared) (Q:Value->Shared->Prop) (E:Value->Shared->Prop),Q (.int (g i j) s.toks) {s with toks:=s.toks + 1}->wpAny (model X.prog X.w) X.A (f (.int i t) (.int j u)) Q E s):
 Du X f (Xc λi j=>.int (g i j)):=by
 intro pins s σ H x y v u Q I rx ry h;obtain⟨i,j,rfl,rfl,q⟩:=h;obtain⟨t,rfl⟩:=rx;obtain⟨t',rfl⟩:=ry;exact rule i j t t' s _ _ ⟨.int (g i j),H,I.tok _,⟨_,rfl⟩,q⟩
theorem Yl{f:Value->Value->Sem Value}{g:Int->Int->Bool}
 (rule:∀(i j:Int) (t u:Tok) (s:Shared) (Q:Value->Shared->Prop) (E:Value->Shared->Prop),Q (.bool (g i j)) s->wpAny (model X.prog X.w) X.A (f (.int i t) (.int j u)) Q E s):
 Du X f (Xc λi j=>.bl (g i j)):=by
 intro pins s σ H x y v u Q I rx ry h;obtain⟨i,j,rfl,rfl,q⟩:=h;obtain⟨t,rfl⟩:=rx;obtain⟨t',rfl⟩:=ry;exact rule i j t t' s _ _ ⟨.bl (g i j),H,I,rfl,q⟩
def bF(i j:Int):Prop:=0 < j/\j < 1073741824
def bE(i j:Int):Prop:=0<=j/\j<=1000000/\i.natAbs < 2 ^ 64
def Xa(i j:Int):Prop:=(-(2 ^ 64) < i/\i < 2 ^ 64)\/(-(2 ^ 64) < j/\j < 2 ^ 64)
theorem Xa.ok{i j:Int}(h:Xa i j):IntMulOk i j:=by
 rcases h with⟨h1,h2⟩|⟨h1,h2⟩
 . exact .of_left (intBits_le_64 h1 h2)
 . exact .of_right (intBits_le_64 h1 h2)
theorem W3:Du X (binaryOp .Add) (Xc λi j=>.int (i + j)):=Yk λ_ _ _ _ _ _ _ q=>add_int q
theorem VW:Du X (binaryOp .Sub) (Xc λi j=>.int (i - j)):=Yk λ_ _ _ _ _ _ _ q=>sub_int q
theorem VY:Du X (binaryOp .Mult) (rI Xa λi j=>.int (i * j)):=Zs λ_ _ _ _ _ _ _ hc q=>mul_int q hc.ok
theorem SY:Du X (binaryOp .FloorDiv) (rI bF λi j=>.int (i / j)):=Zs λi j _ _ _ _ _ hc q=>by
 have h1:(0:Int) < j:=hc.1;have h2:j < 1073741824:=hc.2;exact floordiv_int (by lia) (by rw[Int.fdiv_eq_ediv_of_nonneg i (by lia)];exact q) (.inl (PyProof.noPylong_small (by lia)))
theorem VZ:Du X (binaryOp .Mod) (rI (λ_ j=>0 < j) λi j=>.int (i % j)):=Zs λi j _ _ _ _ _ hc q=>by
 have h1:(0:Int) < j:=hc;exact mod_int' (by lia) (by rw[Int.fmod_eq_emod_of_nonneg i (by lia)];exact q)
theorem VX:Du X (binaryOp .Pow) (rI bE λi j=>.int (i ^ j.toNat)):=Zs λ_ _ _ _ _ _ _ hc q=>pow_int_small hc.1 hc.2.1 hc.2.2 q
theorem cg{f:Value->Sem Value}{g:Int->Int}
 (rule:∀(i:Int) (t:Tok) (s:Shared) (Q:Value->Shared->Prop) (E:Value->Shared->Prop),Q (.int (g i) s.toks) {s with toks:=s.toks + 1}->wpAny (model X.prog X.w) X.A (f (.int i t)) Q E s):
 V0 X f (rU λi=>.int (g i)):=by
 intro pins s σ H x v Q I rx h;obtain⟨i,rfl,q⟩:=h;obtain⟨t,rfl⟩:=rx;exact rule i t s _ _ ⟨.int (g i),H,I.tok _,⟨_,rfl⟩,q⟩
theorem V9:V0 X (unaryOp .USub) (rU λi=>.int (-i)):=cg λ_ _ _ _ _ q=>neg_int q
end
section
variable{a b c:Expr}{ta tb tc:TE}
theorem QR{pins:List (Addr×Obj)}{σ:St}{H:Hp}{s:Shared}{Q:VK}{k k':Bool}(I:Inv X pins σ H s)(q:Q (.bl k) H)(e:k=k'):EP X pins σ Q (.bool k') s:=by
 subst e;exact⟨.bl k,H,I,rfl,q⟩
theorem Yi:Du X (compareOp .Lt) (Xc λi j=>.bl (decide (i < j))):=Yl λ_ _ _ _ _ _ _ q=>lt_int q
theorem Yj:Du X (compareOp .Gt) (Xc λi j=>.bl (decide (j < i))):=Yl λ_ _ _ _ _ _ _ q=>gt_int q
theorem W0:Du X (compareOp .Is) (λx y H Q=>y= .AG/\Q (.bl (decide (x= .AG))) H):=by
 intro pins s σ H x y v u Q I rx ry h;obtain⟨rfl,q⟩:=h;cases ry;refine is_none_gen (QR I q ?_)
 cases x<;>first
  |(cases rx;rfl)
  |(obtain⟨t,rfl⟩:=rx;rfl)
theorem SX:Du X (compareOp .IsNot) (λx y H Q=>y= .AG/\Q (.bl (!decide (x= .AG))) H):=by
 intro pins s σ H x y v u Q I rx ry h;obtain⟨rfl,q⟩:=h;cases ry;refine isnot_none_gen (QR I q ?_)
 cases x<;>first
  |(cases rx;rfl)
  |(obtain⟨t,rfl⟩:=rx;rfl)
variable{op:CmpOp}
theorem SS{r:R2}(ho:Du X (compareOp op) r)(ha:PE X a ta)(hb:PE X b tb)(hm:behindInMarks op b=false):PE X (.Compare a [op] [b] pos) (Zq r ta tb):=by
 intro pins s σ H Q I h;exact wpAny_Compare1 (X1 ha hb I h λv u s2 x y H2 I2 rx ry q=>ho pins s2 σ H2 x y v u Q I2 rx ry q) hm
def XC(t:TE):TT:=λσ H Q=>t σ H λx H'=>∃k,x= .bl k/\Q k H'
theorem Ss{r:R2}(ho:Du X (compareOp op) r)(ha:PE X a ta)(hb:PE X b tb)(hm:behindInMarks op b=false):PT X (.Compare a [op] [b] pos) (XC (Zq r ta tb)):=by
 intro pins s σ H Q I h
 refine wpAny_isTrue_Compare1 (BB (ha pins s σ H _ I h) λv s1 ⟨x,H1,I1,r1,q1⟩=>BB (hb pins s1 σ H1 _ I1 q1) λu s2 ⟨y,H2,I2,r2,q2⟩=>
  BB (ho pins s2 σ H2 x y v u _ I2 r1 r2 q2) λc s3 ⟨z,H3,I3,r3,k,e,q3⟩=>?_) hm
 subst e;cases r3;exact wpAny_truthy_bool ⟨H3,I3,q3⟩
def Zi(K:PySem.W.Frag)(x:V)(H:Hp)(k:Bool):Prop:=
 match x with
 | .AG=>k=false
 | .bl b=>k=b
 | .int i=>k=(i != 0)
 | .str y=>y.length<=sizeLine/\k=((y.length:Int) != 0)
 | .UY y=>y.size<=sizeLine/\k=((y.size:Int) != 0)
 | .ref p=>(∃xs,Dt K H p xs/\k= !xs.isEmpty)\/(∃xs,En K H p xs/\k= !xs.isEmpty)\/∃kvs,H p=some (.dK kvs)/\k= !kvs.isEmpty
 |_=>False
theorem M7{κ:Type}{kvs:List (κ×V)}{vs:List (κ×Value)}(r:KV kvs vs):(!vs.isEmpty)= !kvs.isEmpty:=by
 cases r<;>rfl
theorem Hh{xs:List V}{its:List Value}(r:Vals xs its):(!its.toArray.isEmpty)= !xs.isEmpty:=by
 cases r<;>simp
theorem EU:(sizeLine:Nat) < 2 ^ 63:=by rw[sizeLine_eq];decide
theorem Vh:Zj X (λx H Q=>∃k,Zi X.K x H k/\Q k H):=by
 intro pins s σ H x v Q I rx h;obtain⟨k,e,q⟩:=h;have hl:=EU;have hs:sizeLine=16777216:=sizeLine_eq;cases x with
 | AG=>
   cases rx;have e':k=false:=e;subst e';exact truthy_none ⟨H,I,q⟩
 | bl b=>
   cases rx;have e':k=b:=e;subst e';exact wpAny_truthy_bool ⟨H,I,q⟩
 | int i=>
   obtain⟨t,rfl⟩:=rx;have e':k=(i != 0):=e;subst e';exact PySem.P.truthy_int ⟨H,I,q⟩
 | str y=>
   obtain⟨t,rfl⟩:=rx;obtain⟨hy,e'⟩:y.length<=sizeLine/\k=((y.length:Int) != 0):=e;subst e';exact PySem.P.truthy_str (by lia) ⟨H,I.tok _,q⟩
 | UY y=>
   obtain⟨t,rfl⟩:=rx;obtain⟨hy,e'⟩:y.size<=sizeLine/\k=((y.size:Int) != 0):=e;subst e';exact PySem.W.truthy_bytes (by lia) ⟨H,I.tok _,q⟩
 | ref p=>
   cases rx;have e':(∃xs,Dt X.K H p xs/\k= !xs.isEmpty)\/(∃xs,En X.K H p xs/\k= !xs.isEmpty)\/∃kvs,H p=some (.dK kvs)/\k= !kvs.isEmpty:=e;rcases e' with⟨xs,hx,e'⟩|⟨xs,hx,e'⟩|⟨kvs,hx,e'⟩
   . subst e';obtain⟨its,r,pl,hz⟩:=I.list hx;have hlen:=r.length;exact wpAny_truthy_list pl.isList (by simp only[size_toArray];lia) ⟨H,I.tok _,by rw[Hh r];exact q⟩
   . subst e';obtain⟨its,r,pl,hz⟩:=I.tuple hx;have hlen:=r.length;exact truthy_tuple pl (by simp only[size_toArray];lia) ⟨H,I.tok _,by rw[Hh r];exact q⟩
   . subst e';obtain⟨hz,hS,vs,r,m⟩:kvs.length<=sizeLine/\(p == sysModules)=false/\∃vs,KV kvs vs/\s.heap.DictOf (Gy X.prog X.w) p vs:=I.Aj p _ hx;have hlen:kvs.length=vs.length:=Paired.length r;exact wpAny_truthy_dict hS m (by lia) ⟨H,I.tok _,by rw[M7 r];exact q⟩
 |_=>exact(show False from e).elim
theorem LO:Du X (binaryOp .Add) (λx y H Q=>∃i j,x= .str i/\y= .str j/\i.length + j.length<=sizeLine/\Q (.str (i++j)) H):=by
 intro pins s σ H x y v u Q I rx ry h;obtain⟨i,j,rfl,rfl,hz,q⟩:=h;obtain⟨t,rfl⟩:=rx;obtain⟨t',rfl⟩:=ry;exact add_str (λt' tk=>⟨.str (i++j),H,I.tok _,⟨_,rfl⟩,q⟩) hz
variable{us:List Value}
theorem vals1{x:V}(r:Vals [x] us):∃u,us=[u]/\RelV x u:=by
 cases r with
 |cons r1 r2=>cases r2;exact⟨_,rfl,r1⟩
theorem vals2{x y:V}(r:Vals [x,y] us):∃u w',us=[u,w']/\RelV x u/\RelV y w':=by
 cases r with
 | cons r1 r2=>
   cases r2 with
   |cons r3 r4=>cases r4;exact⟨_,_,rfl,r1,r3⟩
theorem Oz(hc:X.calm=true):B4 X (.builtin "min") (λxs H Q=>∃i j,xs=[.int i,.int j]/\Q (.int (if j < i then j else i)) H):=by
 intro pins s σ H xs us Q I r h;obtain⟨i,j,rfl,q⟩:=h;obtain⟨u,w',rfl,⟨t,rfl⟩,⟨t',rfl⟩⟩:=vals2 r;refine min_two_ints (I.ok.hd hc) λh' tk k=>⟨_,H,I.kept k,?_,q⟩
 by_cases hj:j < i
 . rw[iP hj,iP hj];exact⟨_,rfl⟩
 . rw[iN hj,iN hj];exact⟨_,rfl⟩
def bz(K:PySem.W.Frag)(x:V)(H:Hp)(n:Nat):Prop:=
 match x with
 | .str y=>y.length<=sizeLine/\n=y.length
 | .UY y=>y.size<=sizeLine/\n=y.size
 | .ref p=>(∃xs,Dt K H p xs/\n=xs.length)\/∃xs,En K H p xs/\n=xs.length
 |_=>False
theorem HK:B4 X (.builtin "len") (λxs H Q=>∃x n,xs=[x]/\bz X.K x H n/\Q (.int n) H):=by
 intro pins s σ H xs us Q I r h;obtain⟨x,n,rfl,e,q⟩:=h;obtain⟨u,rfl,rx⟩:=vals1 r;have hl:=EU;have hs:sizeLine=16777216:=sizeLine_eq;cases x with
 | str y=>
   obtain⟨t,rfl⟩:=rx;obtain⟨hy,e'⟩:y.length<=sizeLine/\n=y.length:=e;subst e';exact len_str (by lia) ⟨.int _,H,I.tok _,⟨_,rfl⟩,q⟩
 | UY y=>
   obtain⟨t,rfl⟩:=rx;obtain⟨hy,e'⟩:y.size<=sizeLine/\n=y.size:=e;subst e';exact PySem.W.len_bytes (by lia) ⟨.int _,H,I.tok _,⟨_,rfl⟩,q⟩
 | ref p=>
   cases rx;have e':(∃xs,Dt X.K H p xs/\n=xs.length)\/∃xs,En X.K H p xs/\n=xs.length:=e;rcases e' with⟨xs,hx,e'⟩|⟨xs,hx,e'⟩
   . subst e';obtain⟨its,r',pl,hz⟩:=I.list hx;have hlen:=r'.length;exact Calls.call_len_list pl.isList (by simp only[size_toArray];lia) ⟨.int xs.length,H,I.tok _,⟨_,by simp only[size_toArray];rw[hlen]⟩,q⟩
   . subst e';obtain⟨its,r',pl,hz⟩:=I.tuple hx;have hlen:=r'.length;exact len_tuple pl (by simp only[size_toArray];lia) ⟨.int xs.length,H,I.tok _,⟨_,by simp only[size_toArray];rw[hlen]⟩,q⟩
 |_=>exact(show False from e).elim
end
structure Ms(h:Heap)(x dx C:Addr)(mA:Str->Option Value):Prop where
 obj:h.get? x=some (instObj C dx)
 ns:h.Ns1 dx mA
 ne:dx≠x
variable{dx:Addr}{mA:Str->Option Value}
theorem Ob(n:h.Ns1 dx mA):∃od,h.get? dx=some od/\∀name,lookIn name od=some (mA name):=by
 obtain⟨o,es,ep,ho,hd,hk,_,hm⟩:=n;refine⟨o,ho,λname=>?_⟩;have e:=hm name;unfold nsFind findBy at e;rw[<-Array.find?_toList]at e;unfold lookIn;rw[hd];dsimp only;split
 . rename_i y q;rw[q]at e;exact congrArg some e
 . rename_i q;rw[q]at e
   have a:es.toList.any (·.refKey)=false:=by
    rw[List.any_eq_false];intro y hy;obtain⟨z,t,hkey⟩:=hk y (Array.mem_toList_iff.mp hy);simp[DictEntry.refKey,hkey]
   have a':¬es.toList.any (·.refKey)=true:=by rw[a];exact Bool.false_ne_true
   rw[iN a'];exact congrArg some e
theorem Ms.look{C:Addr}(I:Ms h x dx C mA):∃od,InstAt h x (instObj C dx) C (some od)/\∀name,lookIn name od=some (mA name):=
 let⟨od,ho,hl⟩:=Ob I.ns
 ⟨od,⟨I.obj,rfl,rfl,ho⟩,hl⟩
section
variable{prog:Program}{w:World}{A:Around}{E:Value->Shared->Prop}{K:PySem.W.Frag}{x dx C f:Addr}{mA:Str->Option Value}{name:Str}{v:Value}
theorem get_map{expr:Bool}{Q:Value->Shared->Prop}(X:K.In s.heap)(I:Ms s.heap x dx C mA)(hg:plainGet K C name=true)(hh:hasDictIn K C=true)
 (ha:findIn K (.ref C) name=some none)(hv:mA name=some v)(hv':handedIn v=true)(h:Q v {s with toks:=s.toks + 1}):
 wpAny (model prog w) A (getAttr (.ref x) name expr) Q E s:=by
 obtain⟨od,J,hl⟩:=I.look;exact PySem.W.get_value X J (plainGet_of hg).1 (PySem.W.findObj_own hh ha rfl (by rw[hl,hv])) hv' h
theorem QL{pl:Sem Bool}{Q:Value×List Value->Shared->Prop}(X:K.In s.heap)(I:Ms s.heap x dx C mA)(hg:plainGet K C name=true)
 (hf:findIn K (.ref C) name=some (some (.ref f)))(ht:isFn K (.ref f)=true)(hv:mA name=none)(h:Q (.ref f,[.ref x]) s):
 wpAny (model prog w) A (getMethod (.ref x) name pl) Q E s:=by
 obtain⟨od,J,hl⟩:=I.look;exact PySem.W.method_fn X J (plainGet_of hg).1 (plainGet_of hg).2 hf (beq_iff_eq.mp ht) (by show(lookIn name od).map (·.isSome)=some false;rw[hl,hv];rfl) h
theorem S7{ns:List Str}{Q:Unit->Shared->Prop}(X:K.In s.heap)(I:Ms s.heap x dx C mA)
 (hs:findIn K (.ref C) "__setattr__"=some (some (.builtin "object.__setattr__")))(hp:plainOver K C=true)(ht:takerIn K C name=some none)(hh:hasDictIn K C=true)
 (hw:PySem.Within mA ns)(hsz:ns.length<=sizeLine)
 (h:∀h',Ms h' x dx C (λy=>if y=name then some v else mA y)->Heap.SameBut dx s.heap h'->Q () {s with heap:=h',toks:=s.toks + 2}):
 wpAny (model prog w) A (setAttr (.ref x) name v) Q E s:=by
 obtain⟨od,J,hl⟩:=I.look;refine PySem.W.set_plain X J hs (PySem.W.osa_open (s:={s with toks:=s.toks + 1}) (r:=none) X J hp ht λb=>?_);obtain⟨cd,hc,hd'⟩:=PySem.W.any_some hh;have hx:s.heap.get? x=some ⟨.ref C,some dx,.plain,#[]⟩:=I.obj;refine wB (wP (wB (wB (wpAny_loadPart hx (wB (Looks.here (s:={s with toks:=s.toks + 1}) (PySem.W.looks_clsIn X hc) ?_))))));rw[hd'];refine wP (a:=some dx) (wB (wP (wB ?_)));refine wpAny_nsSet1 (s:={s with toks:=s.toks + 1}) I.ns λh' hn2 hs2=>?_
 obtain⟨oD,esD,epD,hoD,hdD,hcD⟩:=hn2.count (PySem.Within.cons name v hw);refine wB (wpAny_lookBehind hoD (by rw[hdD];exact pastItsLine_dict (Nat.le_trans hcD (by rw[lC];lia))) ?_);exact wP (h _ ⟨(hs2.2 _ (Ne.symm I.ne)).trans I.obj,hn2,I.ne⟩ hs2)
theorem Qg{R:Result->Shared->Prop}{vs:List Value}{kw:List (Str×Value)}(X:K.In s.heap)(hm:makesIn K C=true)
 (hi:findIn K (.ref C) "__init__"=some (some (.ref f)))(hf:typeIn K (.ref f)=some (.type "function"))
 (h:codeAny (model prog w) (A.under (.builtin "type.__call__" ⟨.ref C::vs,kw⟩)) (.call (.ref f) ⟨.ref (s.heap.objs.size + 1)::vs,kw⟩) (PySem.W.InitBack (s.heap.objs.size + 1) R)
   {s with heap:=(s.heap.push emptyDict).push (instObj C s.heap.objs.size)}):
 codeAny (model prog w) A (.call (.ref C) ⟨vs,kw⟩) R s:=by
 obtain⟨hh,g,d,t,os⟩:=s;exact PySem.W.make_core (PySem.W.makes_of X hm) (PySem.W.looks_findIn X hi) (λself=>PySem.W.bind_fn X self hf) (.inl rfl) h
end
noncomputable def Br(f:Str)(v:V):List (Str×V)->List (Str×V)
 |[]=>[(f,v)]
 |(g,x)::r=>if g=f then(g,v)::r else(g,x)::Br f v r
theorem Gd(f g:Str)(v:V):∀fs:List (Str×V),(Br f v fs).lookup g=if g=f then some v else fs.lookup g
 | []=>by
   show List.lookup g [(f,v)]=_
   by_cases h:g=f
   . have hb:(g == f)=true:=beq_iff_eq.mpr h;simp only[List.lookup,hb,iP h]
   . have hb:(g == f)=false:=beq_eq_false_iff_ne.mpr h;simp only[List.lookup,hb,iN h]
 | (k, x)::r=>by
   have ih:=Gd f g v r;rw[show Br f v ((k,x)::r)=(if k=f then(k,v)::r else(k,x)::Br f v r)from rfl]
   by_cases hk:k=f
   . rw[iP hk]
     by_cases h:g=k
     . have hb:(g == k)=true:=beq_iff_eq.mpr h;simp only[List.lookup,hb,iP (h.trans hk)]
     . have hb:(g == k)=false:=beq_eq_false_iff_ne.mpr h;simp only[List.lookup,hb,iN (λe:g=f=>h (e.trans hk.symm))]
   . rw[iN hk]
     by_cases h:g=k
     . have hb:(g == k)=true:=beq_iff_eq.mpr h;simp only[List.lookup,hb,iN (λe:g=f=>hk (h.symm.trans e))]
     . have hb:(g == k)=false:=beq_eq_false_iff_ne.mpr h;simp only[List.lookup,hb];exact ih
theorem G0(f:Str)(v:V):∀fs:List (Str×V),f∈(Br f v fs).map (·.1)/\∀g,g∈fs.map (·.1)->g∈(Br f v fs).map (·.1)
 |[]=>⟨by simp[Br],λg h=>by simp at h⟩
 | (k, x)::r=>by
   obtain⟨i1,i2⟩:=G0 f v r;rw[show Br f v ((k,x)::r)=(if k=f then(k,v)::r else(k,x)::Br f v r)from rfl]
   by_cases hk:k=f
   . rw[iP hk];subst hk;exact⟨by simp,λg h=>by simpa using h⟩
   . rw[iN hk];refine⟨?_,λg h=>?_⟩
     . rw[map_cons];exact mC i1
     . rw[map_cons]at h ⊢;rcases mK h with e|e
       . exact mem_cons.mpr (.inl e)
       . exact mC (i2 g e)
theorem Ge(f:Str)(v:V):∀fs:List (Str×V),(Br f v fs).length<=fs.length + 1
 |[]=>by simp[Br]
 | (k,x)::r=>by
   have ih:=Ge f v r;rw[show Br f v ((k,x)::r)=(if k=f then(k,v)::r else(k,x)::Br f v r)from rfl]
   by_cases hk:k=f
   . rw[iP hk,lC,lC];lia
   . rw[iN hk,lC,lC];lia
theorem HX.some_of{o:Option Value}(r:HX (some v) o):∃u,o=some u/\RelV v u:=by
 cases o with
 |none=>exact(show False from r).elim
 |some u=>exact⟨u,rfl,r⟩
theorem HX.none_of{o:Option Value}(r:HX none o):o=none:=by
 cases o with
 |none=>rfl
 |some u=>exact(show False from r).elim
theorem Ol(r:RelV v u):handedIn u=true:=by
 cases v with
 |AG=>cases (show u=Value.none from r);rfl
 |bl b=>cases (show u=Value.bool b from r);rfl
 |int i=>obtain⟨t,e⟩:=(show ∃t,u=Value.int i t from r);cases e;rfl
 |str x=>obtain⟨t,e⟩:=(show ∃t,u=Value.str x t from r);cases e;rfl
 |UY b=>obtain⟨t,e⟩:=(show ∃t,u=Value.bytes b t from r);cases e;rfl
 |ZE b=>obtain⟨t,e⟩:=(show ∃t,u=Value.float b t from r);cases e;rfl
 |ref a=>cases (show u=Value.ref a from r);rfl
 |ty n=>cases (show u=Value.type n from r);rfl
section
variable{P:Program}{w:World}{h:Heap}{a C dx:Addr}{fs fs':List (Str×V)}
theorem Jx(Aj:Dg P w H h)(e:H a=some (.ins C dx fs)):∃mA,Ms h a dx C mA/\(∀f,HX (fs.lookup f) (mA f))/\PySem.Within mA (fs.map (·.1))/\fs.length<=1000/\H dx=some (.own a):=by
 obtain⟨d,z,ne,ob,mA,n,r,q⟩:=(show C8 P w H h a (.ins C dx fs)from Aj a _ e);exact⟨mA,⟨ob,n,ne⟩,r,q,z,d⟩
end
structure JZ(K:PySem.W.Frag)(C:Addr):Prop where
 pg:plainGet K C Str.empty=true
 hd:hasDictIn K C=true
 po:plainOver K C=true
 sa:findIn K (.ref C) "__setattr__"=some (some (.builtin "object.__setattr__"))
theorem JZ.get{K:PySem.W.Frag}{C:Addr}(c:JZ K C)(f:Str):plainGet K C f=true:=c.pg
def Ci(K:PySem.W.Frag)(C:Addr)(f:Str):Prop:=findIn K (.ref C) f=some none
theorem Ci.XB{K:PySem.W.Frag}{C:Addr}(n:Ci K C f):takerIn K C f=some none:=by
 unfold takerIn;rw[show findIn K (.ref C) f=some none from n];rfl
structure Meth(K:PySem.W.Frag)(C:Addr)(m:Str)(f:Addr):Prop where
 at_:findIn K (.ref C) m=some (some (.ref f))
 fn:isFn K (.ref f)=true
 kp:keepIn K (.ref f)=true
section
variable{σ:St}{a C dx:Addr}{fs:List (Str×V)}{f:Str}{v:V}{A:Around}{E:Value->Shared->Prop}
theorem Mb{b:Bool}{Q:Value->Shared->Prop}(I:Inv X pins σ H s)(e:H a=some (.ins C dx fs))(c:JZ X.K C)(n:Ci X.K C f)(l:fs.lookup f=some v)
 (h:∀u s',Inv X pins σ H s'->RelV v u->Q u s'):wpAny (model X.prog X.w) A (getAttr (.ref a) f b) Q E s:=by
 obtain⟨mA,O,r,_,_,_⟩:=Jx I.Aj e;obtain⟨u,hu,ru⟩:=HX.some_of (v:=v) (o:=mA f) (by rw[<-l];exact r f);exact get_map I.EG O (c.get f) c.hd n hu (Ol ru) (h u _ (I.tok _) ru)
theorem EW{pl:Sem Bool}{Q:Value×List Value->Shared->Prop}(I:Inv X pins σ H s)(e:H a=some (.ins C dx fs))(c:JZ X.K C)(k:Meth X.K C m g)(l:fs.lookup m=none)
 (h:Q (.ref g,[.ref a]) s):wpAny (model X.prog X.w) A (getMethod (.ref a) m pl) Q E s:=by
 obtain⟨mA,O,r,_,_,_⟩:=Jx I.Aj e;have hn:mA m=none:=HX.none_of (by rw[<-l];exact r m);exact QL I.EG O (c.get m) k.at_ k.fn hn h
theorem Lz{Q:Unit->Shared->Prop}(I:Inv X pins σ H s)(e:H a=some (.ins C dx fs))(c:JZ X.K C)(n:Ci X.K C f)(hl:fs.length < 1000)(ry:RelV y u)
 (h:∀s',Inv X pins σ (upd H a (.ins C dx (Br f y fs))) s'->Q () s'):wpAny (model X.prog X.w) A (setAttr (.ref a) f u) Q E s:=by
 obtain⟨mA,O,r,wi,_,ho⟩:=Jx I.Aj e;have hz:(fs.map (·.1)).length<=sizeLine:=by rw[lM,sizeLine_eq];lia
 refine S7 I.EG O c.sa c.po n.XB c.hd wi hz λh' O' sb=>h _ ?_
 have hd:∃o,h'.get? dx=some o:=let⟨o,_,_,e',_⟩:=O'.ns;⟨o,e'⟩;refine I.write (x:=a) (e:=dx) (by rw[e];exact True.intro) (.inr ho) (λb q hb z=>(sb.2 b hb).trans z) hd ?_;refine⟨by rw[Au O.ne];exact ho,?_,O.ne,O'.obj,_,O'.ns,λg=>?_,λg hg=>?_⟩
 . have:=Ge f y fs;lia
 . show HX ((Br f y fs).lookup g) (if g=f then some u else mA g);rw[Gd]
   by_cases q:g=f
   . rw[iP q,iP q];exact ry
   . rw[iN q,iN q];exact r g
 . by_cases q:g=f
   . rw[q];exact(G0 f y fs).1
   . refine(G0 f y fs).2 g (wi g λz=>hg ?_);show(if g=f then some u else mA g)=none;rw[iN q];exact z
theorem Inv.made(I:Inv X pins σ H s):Inv X pins σ (upd (upd H s.heap.objs.size (.own (s.heap.objs.size + 1))) (s.heap.objs.size + 1) (.ins C s.heap.objs.size []))
 {s with heap:=(s.heap.push emptyDict).push (instObj C s.heap.objs.size)}:=by
 have e1:(s.heap.push emptyDict).get? s.heap.objs.size=some emptyDict:=Heap.get?_push_size s.heap rfl
 have e2:((s.heap.push emptyDict).push (instObj C s.heap.objs.size)).get? (s.heap.objs.size + 1)=some (instObj C s.heap.objs.size):=by
  have:=Heap.get?_push_size (s.heap.push emptyDict) (o:=instObj C s.heap.objs.size) rfl;rwa[Heap.size_push]at this
 have e3:(s.heap.push emptyDict).Ns s.heap.objs.size (λ_=>none):=⟨emptyDict,#[],_,e1,rfl,(λe he=>absurd he (by simp)),λ_=>rfl⟩;have I1:=I.laid (a:=s.heap.objs.size) (o:=.own (s.heap.objs.size + 1)) (h':=s.heap.push emptyDict) (t':=s.toks) (λb u q=>gP q) (lR) ⟨_,e1⟩;refine I1.laid (a:=s.heap.objs.size + 1) (o:=.ins C s.heap.objs.size []) (t':=s.toks) (λb u q=>gP q) (Nat.le_of_eq (Heap.size_push _ _)) ?_;have ne:s.heap.objs.size≠s.heap.objs.size + 1:=Nat.ne_of_lt (Nat.lt_succ_self _);refine⟨by rw[Au ne,AH],Nat.zero_le _,ne,e2,λ_=>none,(Heap.Ns1.of_empty e3).at λo q=>gP q,λ_=>True.intro,λy hy=>absurd rfl hy⟩
theorem Uo{prog:Program}{w:World}{env:Env}{pos:Pos}{s:Shared}{Q:Value->Shared->Prop}(hb:attributeBase e f env (eval e env)=eval e env)
 (h:wpAny (model prog w) A (eval e env) (λo s₁=>wpAny (model prog w) A (getAttr o f true) Q E s₁) E s):wpAny (model prog w) A (eval (.Attribute e f pos) env) Q E s:=
 Attribute_any_ h (by rw[arm_eval_Attribute,hb])
end
noncomputable def Vj(K:PySem.W.Frag)(ta:TE)(f:Str):TE:=λσ H Q=>ta σ H λx H1=>∃a C dx fs v,x= .ref a/\H1 a=some (.ins C dx fs)/\JZ K C/\Ci K C f/\fs.lookup f=some v/\Q v H1
noncomputable def af(K:PySem.W.Frag)(ta tv:TE)(f:Str):TS:=λD σ H=>tv σ H λy H1=>ta σ H1 λx H2=>∃a C dx fs,x= .ref a/\H2 a=some (.ins C dx fs)/\JZ K C/\Ci K C f/\fs.length < 1000/\
 D.nx σ (upd H2 a (.ins C dx (Br f y fs)))
section
variable{o e value:Expr}{f:Str}{pos' tpos:Pos}{ta tv:TE}
theorem LK(he:PE X e ta)(hb:attributeBase e f X.env (eval e X.env)=eval e X.env):PE X (.Attribute e f pos) (Vj X.K ta f):=by
 intro pins s σ H Q I h;refine Uo hb (BB (he pins s σ H _ I h) λu s1 ⟨x,H1,I1,rx,a,C,dx,fs,v,ex,ea,c,n,l,q⟩=>?_);subst ex;obtain rfl:u=Value.ref a:=rx;exact Mb I1 ea c n l λu' s2 I2 ru=>⟨v,H1,I2,ru,q⟩
theorem VE(ha:PE X o ta)(hv:PE X value tv)(hs:swapsWith value (some (.Attribute o f pos')) pos.line X.env=pure false):PS X (.Assign [.Attribute o f pos'] value pos) (af X.K ta tv f):=by
 intro pins s σ H D I h;refine plainObj_wpAny_Assign_Attribute (BB (hv pins s σ H _ I h) λu s1 ⟨y,H1,I1,ry,q⟩=>BB (ha pins s1 σ H1 _ I1 q) λov s2 ⟨x,H2,I2,rx,a,C,dx,fs,ex,ea,c,n,l,q2⟩=>?_) hs;subst ex;obtain rfl:ov=Value.ref a:=rx;exact Lz I2 ea c n l ry λs3 I3=>⟨σ,_,I3,q2⟩
theorem UO{pl:Sem Bool}{apos:Pos}{args:List Expr}{pins:List (Addr×Obj)}{s:Shared}{σ:St}{H:Hp}{Q:Value->Shared->Prop}{te:TE}(he:PE X e te)(I:Inv X pins σ H s)
 (h:te σ H λx H1=>∃a C dx fs g,x= .ref a/\H1 a=some (.ins C dx fs)/\JZ X.K C/\Meth X.K C m g/\fs.lookup m=none/\
   ∀s1,Inv X pins σ H1 s1->wpAny (model X.prog X.w) X.A (callWith pos (.ref g) [.ref a] (backTo pos (starEach args X.env)) (backToKw pos (keywordEach [] X.env))) Q X.xe s1)
 (ht:eval (.Call (.Attribute e m apos) args [] pos) X.env=(do
  let ov <-eval e X.env
  standAt apos.atName
  let(f,first) <-holding [ov] (getMethod ov m pl)
  callWith pos f first (backTo pos (starEach args X.env)) (backToKw pos (keywordEach [] X.env)))):
 wpAny (model X.prog X.w) X.A (eval (.Call (.Attribute e m apos) args [] pos) X.env) Q X.xe s:=by
 refine methodCall_KW (pl:=pl) (BB (he pins s σ H _ I h) λu s1 ⟨x,H1,I1,rx,a,C,dx,fs,g,ex,ea,c,k,l,q⟩=>?_) ht;subst ex;obtain rfl:u=Value.ref a:=rx;exact EW I1 ea c k l (q s1 I1)
end
structure Cw(k:Nat)(A:Around):Prop where
 hd:A.handled=none
 dp:A.depth + 3 * k + 5 < recursionLimit
 un:A.units + 16 * k + 200 < cLine
theorem Cw.mono{k:Nat}(r:Cw k A)(h:j<=k):Cw j A:=⟨r.hd,by have:=r.dp;lia,by have:=r.un;lia⟩
theorem Cw.deeper{k:Nat}(r:Cw (k + 1) A)(env:Env):Cw k (A.deeper env):=
 ⟨r.hd,by have:=r.dp;show A.depth + 1 + 3 * k + 5 < _;lia,by have:=r.un;show A.units + 3 + 16 * k + 200 < _;lia⟩
variable{kw:List (Str×Value)}
theorem LX{C:Addr}:(A.under (.builtin "type.__call__" ⟨.ref C::us,kw⟩)).depth=A.depth + 1:=by
 first|rfl|simp[Around.under,Code.weight,Code.isCreation,Code.isGuard,Code.isCaller,Code.frames,Code.isFrame,guardIds]
theorem LW{C:Addr}:(A.under (.builtin "type.__call__" ⟨.ref C::us,kw⟩)).units=A.units + 1:=by
 first|rfl|simp[Around.under,Code.cUnits,Code.frames,Code.isFrame]
theorem Cw.make{k:Nat}(r:Cw (k + 1) A)(C:Addr)(us:List Value)(kw:List (Str×Value)):Cw k (A.under (.builtin "type.__call__" ⟨.ref C::us,kw⟩)):=
 ⟨r.hd,by have:=r.dp;rw[LX];lia,by have:=r.un;rw[LW];lia⟩
theorem Cw.depth{k:Nat}(r:Cw k A):A.depth < recursionLimit:=by have:=r.dp;lia
def FO:TA:=λ_ H Q=>Q [] H
def D3(ta:TE)(tr:TA):TA:=λσ H Q=>ta σ H λx H1=>tr σ H1 λxs H2=>Q (x::xs) H2
variable{e:Expr}{es:List Expr}{te:TE}{t:TA}
theorem FU:PA X [] FO:=λ_ _ _ _ H Q I h=>Calls.spliced_nil ⟨[],H,I,.nil,h⟩
theorem DT(ha:PE X e te)(hr:PA X es t)(hs:starEach (e::es) X.env=(false,eval e X.env)::starEach es X.env:=by rfl):PA X (e::es) (D3 te t):=by
 intro pos pins s σ H Q I h;rw[hs];show wpAny _ _ (spliced ((false,eval e X.env)::backTo pos (starEach es X.env))) _ _ s;refine Calls.spliced_cons (BB (ha pins s σ H _ I h) λu s1 ⟨x,H1,I1,r1,q1⟩=>?_);exact BB (hr pos pins s1 σ H1 _ I1 q1) λus s2 ⟨xs,H2,I2,r2,q2⟩=>⟨x::xs,H2,I2,.cons r1 r2,q2⟩
noncomputable def ZW(t:TA):TE:=λσ H Q=>t σ H λxs H1=>xs.length<=sizeLine/\∀p,H1 p=none->Q (.ref p) (upd H1 p (.tup xs))
noncomputable def ZY(t:TA):TE:=λσ H Q=>t σ H λxs H1=>xs.length<=sizeLine/\∀p,H1 p=none->Q (.ref p) (upd H1 p (.lst xs))
theorem VI{x1}(h:PA X es t):PE X (.Tuple es x1 pos) (ZW t):=by
 intro pins s σ H Q I hq;refine wpAny_Tuple_spliced (BB (h pos pins s σ H _ I hq) λus s1 ⟨xs,H1,I1,r,z,q⟩=>⟨by rw[<-r.length];exact z,?_⟩);have hf:H1 s1.heap.objs.size=none:=I1.Aj.fresh (lR);refine⟨.ref s1.heap.objs.size,upd H1 s1.heap.objs.size (.tup xs),I1.laid (t':=s1.toks) (λb u e=>gP e) (lR) ?_,rfl,q _ hf⟩;exact⟨z,us,r,⟨_,Heap.get?_push_size _ rfl,rfl,_,rfl⟩⟩
theorem VO(h:PA X es t):PE X (.List es pos) (ZY t):=by
 intro pins s σ H Q I hq;refine wpAny_List_spliced (BB (h pos pins s σ H _ I hq) λus s1 ⟨xs,H1,I1,r,z,q⟩=>⟨by rw[<-r.length];exact z,?_⟩);have hf:H1 s1.heap.objs.size=none:=I1.Aj.fresh (lR);refine⟨.ref s1.heap.objs.size,upd H1 s1.heap.objs.size (.lst xs),I1.laid (t':=s1.toks) (λb u e=>gP e) (lR) ?_,rfl,q _ hf⟩;exact⟨z,us,0,r,Heap.get?_push_size _ rfl⟩
abbrev Sp:=List V->Hp->VK->XK->Prop
abbrev Ux:=List Env->Hp->Shared->XK->Value->Shared->Prop
structure Mt(P:Program)(w:World)(K:PySem.W.Frag)(mg:Str->Option Value)(base:Heap)(A:Around)(outer:List Env)(s:Shared)(H:Hp):Prop where
 frames:A.frames=some outer
 mod:Mod K mg base
 bs:∀b o,base.get? b=some o->s.heap.get? b=some o/\H b=none
 Ul:base.objs.size<=s.heap.objs.size
 Gq:s.heap.FunFrames base outer
 Wt:∀b∈QN outer,H b=none
 Aj:Dg P w H s.heap
 bare:AllBare s.gens
def CE(outer:List Env)(P:Program)(w:World)(H:Hp)(s:Shared)(Q:VK)(u:Value)(s':Shared):Prop:=
 ∃v H',s'.os=s.os/\AllBare s'.gens/\Un (QN outer) [] H H' s.heap s'.heap/\Dg P w H' s'.heap/\RelV v u/\Q v H'
def CR(CX:Ux)(outer:List Env)(P:Program)(w:World)(H:Hp)(s:Shared)(Q:VK)(E:XK)(r:Result)(s':Shared):Prop:=
 match r with
 | .ok (.ret u)=>CE outer P w H s Q u s'
 | .ok _=>False
 | .error e=>CX outer H s E e s'
structure E3(P:Program)(w:World)(K:PySem.W.Frag)(mg:Str->Option Value)(base:Heap)(CX:Ux)(k:Nat)(f:Addr)(fd:FuncData)(ps:List Str)(sp:Sp):Prop where
 len:∀vs H Q E,sp vs H Q E->vs.length=ps.length
 run:∀(A:Around) (outer:List Env) (s:Shared) (H:Hp) (args:Args) (us:List Value) (vs:List V) (Q:VK) (E:XK),Cw k A->Mt P w K mg base A outer s H->BindsTo s fd args (ps.zip us)->Vals vs us->sp vs H Q E->
  codeAny (model P w) A (.call (.ref f) args) (CR CX outer P w H s Q E) s
variable{mg:Str->Option Value}{CX:Ux}{fd:FuncData}{ps:List Str}{sp:Sp}
theorem E3.imp{P:Program}{K:PySem.W.Frag}{base:Heap}{k:Nat}{sp':Sp}(F:E3 P w K mg base CX k f fd ps sp)
 (h:∀vs H Q E,sp' vs H Q E->sp vs H Q E):E3 P w K mg base CX k f fd ps sp':=
 ⟨λvs H Q E q=>F.len vs H Q E (h _ _ _ _ q),λA outer s H args us vs Q E hr he hb hv hs=>F.run A outer s H args us vs Q E hr he hb hv (h _ _ _ _ hs)⟩
theorem Mt.make{P:Program}{K:PySem.W.Frag}{base:Heap}{outer:List Env}(e:Mt P w K mg base A outer s H)(C:Addr)(us:List Value)(kw:List (Str×Value)):
 Mt P w K mg base (A.under (.builtin "type.__call__" ⟨.ref C::us,kw⟩)) outer s H:=⟨by first|exact e.frames|(simpa[Around.under,Code.envs,Code.isFrame,pushEnvs]using e.frames),e.mod,e.bs,e.Ul,e.Gq,e.Wt,e.Aj,e.bare⟩
section
variable{σ:St}{s':Shared}
theorem Inv.YR(I:Inv X pins σ H s):Mt X.prog X.w X.K X.mg X.base X.A X.stack s H:=
 ⟨I.ok.frames,I.ok.mod,I.bs,Nat.le_trans I.ok.Ul I.sz,I.stack,I.MB,I.Aj,I.bare⟩
theorem Inv.after{Q:VK}(I:Inv X pins σ H s)(h:CE X.stack X.prog X.w H s Q u s'):EP X pins σ Q u s':=by
 obtain⟨v,H',os,bare,un,Aj,r,q⟩:=h;obtain⟨hh,g,d,t,os'⟩:=s';obtain rfl:os'=s.os:=os;exact⟨v,H',I.call (h':=hh) (g':=g) (d':=d) (t':=t) (ch:=[]) un Aj bare (λb z=>absurd z (by simp)),r,q⟩
end
def Kb(sp:Sp)(dvs:List V)(E:XK)(t:TA):TE:=λσ H Q=>t σ H λvs H1=>sp (vs++dvs) H1 Q E
noncomputable def UC(C:Addr)(m:Str)(sp:Sp)(dvs:List V)(E:XK)(ta:TE)(t:TA):TE:=λσ H Q=>ta σ H λx H1=>∃a dx fs,x= .ref a/\H1 a=some (.ins C dx fs)/\fs.lookup m=none/\
 t σ H1 λvs H2=>sp (x::(vs++dvs)) H2 Q E
noncomputable def Ka(C:Addr)(sp:Sp)(dvs:List V)(E:XK)(t:TA):TE:=λσ H Q=>t σ H λvs H1=>∀x dx,H1 x=none->H1 dx=none->dx≠x->
 sp (.ref x::(vs++dvs)) (upd (upd H1 dx (.own x)) x (.ins C dx [])) (λv H2=>v= .AG/\Q (.ref x) H2) E
def Binds(K:PySem.W.Frag)(fd:FuncData)(ps:List Str)(ds:List Value):Prop:=
 ∀(s:Shared) (us:List Value),K.In s.heap->(us++ds).length=ps.length->BindsTo s fd ⟨us,[]⟩ (ps.zip (us++ds))
theorem Binds.all{K:PySem.W.Frag}(h:∀us:List Value,us.length=ps.length->bindArgs fd ⟨us,[]⟩=pure (ps.zip us)):Binds K fd ps []:=λs us _ hl=>by
 rw[append_nil]at hl ⊢;exact .of_eq (h us hl)
def Passes(CX:Ux)(X:Cx)(E:XK):Prop:=∀(pins:List (Addr×Obj)) (σ:St) (H:Hp) (s:Shared) (e:Value) (s':Shared),Inv X pins σ H s->CX X.stack H s E e s'->X.xe e s'
section
variable{CX:Ux}{k:Nat}{f C:Addr}{fd:FuncData}{ps:List Str}{sp:Sp}{dvs:List V}{ds:List Value}{E:XK}{x m:Str}{p apos:Pos}{o:Expr}{ta:TE}
variable{pins:List (Addr×Obj)}{H:Hp}{s:Shared}{us:List Value}{vs:List V}
theorem J3{σ:St}{Q:VK}(F:E3 X.prog X.w X.K X.mg X.base CX k f fd ps sp)(hr:Cw k X.A)(hb:Binds X.K fd ps ds)(hd:Vals dvs ds)(hx:Passes CX X E)
 (I:Inv X pins σ H s)(r:Vals vs us)(h:sp (vs++dvs) H Q E):wpAny (model X.prog X.w) X.A (call (.ref f) us) (EP X pins σ Q) X.xe s:=by
 have r2:Vals (vs++dvs) (us++ds):=r.append hd;have hl:(us++ds).length=ps.length:=by rw[<-r2.length];exact F.len _ _ _ _ h
 refine wpAny_call (codeAny_mono (F.run X.A X.stack s H ⟨us,[]⟩ (us++ds) (vs++dvs) Q E hr I.YR (hb s us I.EG hl) r2 h) λr s' hq=>?_);cases r with
 |error e=>exact hx pins σ H s e s' I hq
 | ok fl=>
   cases fl with
   |ret u=>exact I.after hq
   |next=>exact False.elim hq
   |brk=>exact False.elim hq
   |cont=>exact False.elim hq
theorem SU(F:E3 X.prog X.w X.K X.mg X.base CX k f fd ps sp)(hr:Cw k X.A)(hg:Gl X x)(hm:X.mg x=some (.ref f))(hk:keepIn X.K (.ref f)=true)(hb:Binds X.K fd ps ds)(hd:Vals dvs ds)(hx:Passes CX X E)
 (ha:PA X (e::es) t)(hdb:(x == ("__debug__":Str))=false:=by decide)(he:starEach (e::es) X.env=(false,eval e X.env)::starEach es X.env:=by rfl)(hpl:(backTo pos (starEach es X.env)).any (·.1)=false:=by rfl):
 PE X (.Call (.Name x p) (e::es) [] pos) (Kb sp dvs E t):=by
 intro pins s σ H Q I h;refine wpAny_Call_Name_kw (Fu I hg hm ?_ hdb);refine callWith_K (h₀:=X.base) I.ok.mod.Bq hk (BB (ha pos pins s σ H _ I h) λus s1 ⟨vs,H1,I1,r,q⟩=>⟨I1.EG,?_⟩) he hpl;exact J3 F hr hb hd hx I1 r q
theorem PY(F:E3 X.prog X.w X.K X.mg X.base CX k f fd ps sp)(hr:Cw k X.A)(hg:Gl X x)(hm:X.mg x=some (.ref f))(hk:keepIn X.K (.ref f)=true)(hb:Binds X.K fd ps ds)(hd:Vals dvs ds)(hx:Passes CX X E)
 (hdb:(x == ("__debug__":Str))=false:=by decide):PE X (.Call (.Name x p) [] [] pos) (Kb sp dvs E FO):=by
 intro pins s σ H Q I h;refine wpAny_Call_Name_kw (Fu I hg hm ?_ hdb);exact callWith_K0 I.EG hk (J3 (us:=[]) F hr hb hd hx I .nil h)
variable{pl:Sem Bool}
theorem SN(he:PE X o ta)(c:JZ X.K C)(hm:Meth X.K C m f)(F:E3 X.prog X.w X.K X.mg X.base CX k f fd ps sp)(hr:Cw k X.A)(hb:Binds X.K fd ps ds)(hd:Vals dvs ds)(hx:Passes CX X E)(ha:PA X (e::es) t)
 (hst:starEach (e::es) X.env=(false,eval e X.env)::starEach es X.env:=by rfl)(hpl:(backTo pos (starEach es X.env)).any (·.1)=false:=by rfl)
 (ht:eval (.Call (.Attribute o m apos) (e::es) [] pos) X.env=(do
  let ov <-eval o X.env
  standAt apos.atName
  let(f,first) <-holding [ov] (getMethod ov m pl)
  callWith pos f first (backTo pos (starEach (e::es) X.env)) (backToKw pos (keywordEach [] X.env))):=by rfl):
 PE X (.Call (.Attribute o m apos) (e::es) [] pos) (UC C m sp dvs E ta t):=by
 intro pins s σ H Q I h;refine methodCall_KW (pl:=pl) (BB (he pins s σ H _ I h) λu s1 ⟨x,H1,I1,rx,a,dx,fs,ex,ea,l,q⟩=>?_) ht;subst ex;obtain rfl:u=Value.ref a:=rx;refine EW I1 ea c hm l ?_;refine callWith_K (first:=[.ref a]) (h₀:=X.base) I.ok.mod.Bq hm.kp (BB (ha pos pins s1 σ H1 _ I1 q) λus s2 ⟨vs,H2,I2,r,q2⟩=>⟨I2.EG,?_⟩) hst hpl;exact J3 (us:=.ref a::us) (vs:=.ref a::vs) F hr hb hd hx I2 (.cons rfl r) q2
theorem PQ(he:PE X o ta)(c:JZ X.K C)(hm:Meth X.K C m f)(F:E3 X.prog X.w X.K X.mg X.base CX k f fd ps sp)(hr:Cw k X.A)(hb:Binds X.K fd ps ds)(hd:Vals dvs ds)(hx:Passes CX X E)
 (ht:eval (.Call (.Attribute o m apos) [] [] pos) X.env=(do
  let ov <-eval o X.env
  standAt apos.atName
  let(f,first) <-holding [ov] (getMethod ov m pl)
  callWith pos f first (backTo pos (starEach [] X.env)) (backToKw pos (keywordEach [] X.env))):=by rfl):
 PE X (.Call (.Attribute o m apos) [] [] pos) (UC C m sp dvs E ta FO):=by
 intro pins s σ H Q I h;refine methodCall_KW (pl:=pl) (BB (he pins s σ H _ I h) λu s1 ⟨x,H1,I1,rx,a,dx,fs,ex,ea,l,q⟩=>?_) ht;subst ex;obtain rfl:u=Value.ref a:=rx;refine EW I1 ea c hm l ?_;exact callWith_K0 (first:=[.ref a]) I1.EG hm.kp (J3 (us:=[.ref a]) (vs:=[.ref a]) F hr hb hd hx I1 (.cons rfl .nil) q)
structure Mk(K:PySem.W.Frag)(C f:Addr):Prop where
 makes:makesIn K C=true
 init:findIn K (.ref C) "__init__"=some (some (.ref f))
 fn:isFn K (.ref f)=true
 kp:keepIn K (.ref C)=true
theorem Kj{σ:St}{Q:VK}(M:Mk X.K C f)(F:E3 X.prog X.w X.K X.mg X.base CX k f fd ps sp)(hr:Cw (k + 1) X.A)(hb:Binds X.K fd ps ds)(hd:Vals dvs ds)
 (hx:Passes CX X E)(I:Inv X pins σ H s)(r:Vals vs us)
 (h:∀x dx,H x=none->H dx=none->dx≠x->sp (.ref x::(vs++dvs)) (upd (upd H dx (.own x)) x (.ins C dx [])) (λv H2=>v= .AG/\Q (.ref x) H2) E):
 wpAny (model X.prog X.w) X.A (call (.ref C) us) (EP X pins σ Q) X.xe s:=by
 have hq:=h (s.heap.objs.size + 1) s.heap.objs.size (I.Aj.fresh (Nat.le_succ _)) (I.Aj.fresh (lR)) (Nat.ne_of_lt (Nat.lt_succ_self _));have I2:=Inv.made (C:=C) I;have r2:Vals (V.ref (s.heap.objs.size + 1)::(vs++dvs)) (Value.ref (s.heap.objs.size + 1)::(us++ds)):=.cons rfl (r.append hd)
 have hl:(Value.ref (s.heap.objs.size + 1)::us++ds).length=ps.length:=by
  have e:=r2.length;rw[F.len _ _ _ _ hq]at e;exact e.symm
 refine wpAny_call (Qg (f:=f) I.EG M.makes M.init (beq_iff_eq.mp M.fn) (codeAny_mono (F.run _ X.stack _ _ ⟨Value.ref (s.heap.objs.size + 1)::us,[]⟩ (Value.ref (s.heap.objs.size + 1)::(us++ds)) _ _ E (hr.make C us [])
  (I2.YR.make C us []) (hb _ (Value.ref (s.heap.objs.size + 1)::us) I2.EG hl) r2 hq) λr s' hq'=>?_))
 cases r with
 |error e=>exact hx pins σ _ _ e s' I2 hq'
 | ok fl=>
   cases fl with
   | ret u=>
     obtain⟨v,H',I3,rv,ev,q3⟩:=I2.after hq';subst ev;exact⟨rv,⟨V.ref (s.heap.objs.size + 1),H',I3,rfl,q3⟩⟩
   |next=>exact False.elim hq'
   |brk=>exact False.elim hq'
   |cont=>exact False.elim hq'
theorem SO(M:Mk X.K C f)(F:E3 X.prog X.w X.K X.mg X.base CX k f fd ps sp)(hr:Cw (k + 1) X.A)(hg:Gl X x)(hm:X.mg x=some (.ref C))(hb:Binds X.K fd ps ds)(hd:Vals dvs ds)(hx:Passes CX X E)
 (ha:PA X (e::es) t)(hdb:(x == ("__debug__":Str))=false:=by decide)(he:starEach (e::es) X.env=(false,eval e X.env)::starEach es X.env:=by rfl)(hpl:(backTo pos (starEach es X.env)).any (·.1)=false:=by rfl):
 PE X (.Call (.Name x p) (e::es) [] pos) (Ka C sp dvs E t):=by
 intro pins s σ H Q I h;refine wpAny_Call_Name_kw (Fu I hg hm ?_ hdb);refine callWith_K (h₀:=X.base) I.ok.mod.Bq M.kp (BB (ha pos pins s σ H _ I h) λus s1 ⟨vs,H1,I1,r,q⟩=>⟨I1.EG,?_⟩) he hpl;exact Kj M F hr hb hd hx I1 r q
theorem PR(M:Mk X.K C f)(F:E3 X.prog X.w X.K X.mg X.base CX k f fd ps sp)(hr:Cw (k + 1) X.A)(hg:Gl X x)(hm:X.mg x=some (.ref C))(hb:Binds X.K fd ps ds)(hd:Vals dvs ds)(hx:Passes CX X E)
 (hdb:(x == ("__debug__":Str))=false:=by decide):PE X (.Call (.Name x p) [] [] pos) (Ka C sp dvs E FO):=by
 intro pins s σ H Q I h;refine wpAny_Call_Name_kw (Fu I hg hm ?_ hdb);exact callWith_K0 I.EG M.kp (Kj (us:=[]) M F hr hb hd hx I .nil h)
end
structure EC(N P:List Str)(sc:Scope):Prop where
 kind:sc.kind= .function
 co:sc.isCoroutine=false
 gen:sc.isGenerator=false
 nd:N.Nodup
 pre:N.take P.length=P
 par:∀x∈P,sc.names.lookup x=some .local\/sc.names.lookup x=some .cell
 W8:∀y∈sc.names,y.2≠.free
theorem IG{kindOf:Str->Option NameKind}{x:Str}:∀{binds:List (Str×Value)} {m:Str->Option Value},(∀v,(x,v)∉binds)->bindL kindOf binds m x=m x
 |[],_,_=>rfl
 | (n,v)::r,m,h=>by
   unfold bindL;rw[IG λw hw=>h w (mC hw)];split
   . have:x≠n:=by rintro rfl;exact h v mS
     simp[this]
   . rfl
theorem II{kindOf:Str->Option NameKind}{x:Str}:∀{binds:List (Str×Value)} {m:Str->Option Value},(∀v,(x,v)∉binds)->bindC kindOf binds m x=m x
 |[],_,_=>rfl
 | (n,v)::r,m,h=>by
   unfold bindC;rw[II λw hw=>h w (mC hw)];split
   . rfl
   . have:x≠n:=by rintro rfl;exact h v mS
     simp[this]
theorem IH{kindOf:Str->Option NameKind}{x:Str}{v:Value}:∀{P:List Str} {vs:List Value} {i:Nat} {m:Str->Option Value},P.Nodup->P[i]? =some x->vs[i]? =some v->kindOf x=some .local->
 bindL kindOf (P.zip vs) m x=some v
 |[],_,_,_,_,h,_,_=>by simp at h
 |_::_,[],_,_,_,_,h,_=>by simp at h
 | p::P,w::vs,0,m,nd,h1,h2,hk=>by
   simp at h1 h2;subst h1;subst h2;show bindL kindOf ((p,w)::P.zip vs) m p=_;unfold bindL;rw[IG λv hv=>(nodup_cons.mp nd).1 (of_mem_zip hv).1,iP hk];simp
 | p::P,w::vs,i + 1,m,nd,h1,h2,hk=>by
   show bindL kindOf ((p,w)::P.zip vs) m x=_;unfold bindL;exact IH (i:=i) (nodup_cons.mp nd).2 (by simpa using h1) (by simpa using h2) hk
theorem IJ{kindOf:Str->Option NameKind}{x:Str}{v:Value}:∀{P:List Str} {vs:List Value} {i:Nat} {m:Str->Option Value},P.Nodup->P[i]? =some x->vs[i]? =some v->kindOf x≠some .local->
 bindC kindOf (P.zip vs) m x=some v
 |[],_,_,_,_,h,_,_=>by simp at h
 |_::_,[],_,_,_,_,h,_=>by simp at h
 | p::P,w::vs,0,m,nd,h1,h2,hk=>by
   simp at h1 h2;subst h1;subst h2;show bindC kindOf ((p,w)::P.zip vs) m p=_;unfold bindC;rw[II λv hv=>(nodup_cons.mp nd).1 (of_mem_zip hv).1,iN hk];simp
 | p::P,w::vs,i + 1,m,nd,h1,h2,hk=>by
   show bindC kindOf ((p,w)::P.zip vs) m x=_;unfold bindC;exact IJ (i:=i) (nodup_cons.mp nd).2 (by simpa using h1) (by simpa using h2) hk
def start(N:List Str)(vs:List V):St:=vs.map some++List.replicate (N.length - vs.length) none
noncomputable def L5(CX:Ux)(P:Program)(w:World)(K:PySem.W.Frag)(mg:Str->Option Value)(base:Heap)(N:List Str)(qual:Str)(scope:Scope)(f:Addr)(cd:Value)(A:Around)(outer:List Env)(s:Shared)(H:Hp)(E:XK):Cx where
 prog:=P
 w:=w
 K:=K
 mg:=mg
 base:=base
 A:=A.deeper (envOfC qual scope s.heap.objs.size f cd)
 N:=N
 s₀:=s
 H₀:=H
 env:=envOfC qual scope s.heap.objs.size f cd
 outer:=outer
 stack:=envOfC qual scope s.heap.objs.size f cd::outer
 ex:=[]
 calm:=true
 fn:=λ_=>true
 pn:=[]
 xe:=λe s'=>wpAny (model P w) (A.deeper (envOfC qual scope s.heap.objs.size f cd)) (leaving (envOfC qual scope s.heap.objs.size f cd) e) (λ_ s''=>CX outer H s E e s'') (λe' s''=>CX outer H s E e' s'') s'
theorem Lc{sc:Scope}{n:Nat}(h:sc.names.lookup x=some .cell):∃c,(cellsFrom n sc.names []).lookup x=some c:=by
 have q:=cellsFrom_some sc.names n [] (.inl h);exact Option.isSome_iff_exists.mp q
variable{qual:Str}
theorem Of{P:Program}{K:PySem.W.Frag}{base:Heap}{scope:Scope}{cd:Value}{outer:List Env}{s1:Shared}{E:XK}{vs:List V}
 (S:EC N ps scope)(hd:A.handled=none)(e0:Mt P w K mg base A outer s H)(hl:vs.length=ps.length)(r:Vals vs us)
 (x:InCallC s s.heap.objs.size (bindL (envOfC qual scope s.heap.objs.size f cd).kindOf (ps.zip us) λ_=>none) (cellsFrom (s.heap.objs.size + 1) scope.names []) (bindC (envOfC qual scope s.heap.objs.size f cd).kindOf (ps.zip us) λ_=>none) s1):
 Inv (L5 CX P w K mg base N qual scope f cd A outer s H E) [] (start N vs) H s1:=by
 have hpl:ps.length<=N.length:=by have:=congrArg List.length S.pre;rw[length_take]at this;lia
 obtain⟨h1,tk,rfl,hk⟩:=x.done;have noA:∀b:Addr,b∉(L5 CX P w K mg base N qual scope f cd A outer s H E).ex:=λb z=>absurd (show b∈([]:List Addr)from z) (by simp)
 refine⟨⟨e0.mod,S.kind,rfl,rfl,lR,λy z c h1 h2=>?_,λy hy=>?_,λy c _ h=>?_,λ_=>hd,Around.frames_deeper e0.frames,.inr ⟨rfl,rfl⟩,λb z=>absurd z (noA b),e0.bs,e0.Ul,λb _ _=>noA b,λb z=>absurd z (noA b),e0.Gq,e0.Wt⟩,
  rfl,e0.bare,Un.kept hk,⟨_,x.toInCall.ns,λi y v h1 h2 h3=>?_⟩,λy c h=>⟨_,x.cell y c h⟩,e0.Aj.fresh (lR),λy c h=>?_,λp hp=>absurd (show p∈([]:List (Addr×Obj))from hp) (by simp),e0.Aj.kept hk,?_⟩
 . exact name_of_addr x.apart (PySem.mem_of_lookup h1) (PySem.mem_of_lookup h2)
 . have hy:scope.names.lookup y=some .cell\/scope.names.lookup y=some .free:=hy;rcases hy with hy|hy
   . exact Lc hy
   . exact absurd rfl (S.W8 _ (PySem.mem_of_lookup hy))
 . exact Nat.le_of_lt (x.above y c (PySem.mem_of_lookup h))
 . have hi:i < vs.length:=by
    unfold start at h2
    by_cases hi:i < vs.length
    . exact hi
    . rw[List.getElem?_append_right (by simpa using hi)]at h2;rw[List.getElem?_replicate]at h2;split at h2<;>cases h2
   have ha:vs[i]? =some v:=by
    unfold start at h2;rw[List.getElem?_append_left (by simpa using hi),List.getElem?_map]at h2;cases e:vs[i]? with
    |none=>rw[e]at h2;cases h2
    |some a=>rw[e]at h2;cases h2;rfl
   obtain⟨u,hu,rv⟩:=r.get ha
   have hp:ps[i]? =some y:=by
    rw[<-S.pre,List.getElem?_take_of_lt (by lia)];exact h1
   have ndP:ps.Nodup:=by rw[<-S.pre];exact S.nd.sublist (List.take_sublist _ _)
   refine⟨u,rv,?_⟩;rcases S.par y (mem_of_getElem? hp)with k|k
   . exact .inl ⟨k,IH ndP hp hu k⟩
   . obtain⟨c,e⟩:=Lc (n:=s.heap.objs.size + 1) k;refine .inr ⟨.inl k,c,e,?_⟩;have q:=x.cell y c e;rw[IJ ndP hp hu (by show scope.names.lookup y≠_;rw[k];decide)]at q;exact q
 . exact e0.Aj.fresh (Nat.le_of_lt (x.above y c (PySem.mem_of_lookup h)))
 . unfold start;show _=N.length;rw[lA,lM,List.length_replicate]
   lia
theorem YK{P:Program}{K:PySem.W.Frag}{base:Heap}{k:Nat}{name:Str}{params:Arguments}{scope:Scope}{dV kV doc pm cdv ct oc:Value}{an od:Option Addr}
 {osl:Array (Option Value)}(lk:K.lookup f=some ⟨oc,od,.func (PySem.W.fnOf name qual params body scope dV kV doc pm an cdv ct),osl⟩)(hcd:codeIn K cdv qual=true)(S:EC N ps scope)
 (len:∀vs H Q E,sp vs H Q E->vs.length=ps.length)
 (hbody:∀(A:Around) (outer:List Env) (s:Shared) (H:Hp) (vs:List V) (Q:VK) (E:XK),Cw k (A.deeper (envOfC qual scope s.heap.objs.size f cdv))->sp vs H Q E->
  ∃t,Lm (L5 CX P w K mg base N qual scope f cdv A outer s H E) body t/\t {nx:=λ_ H'=>Q .AG H',rt:=Q} (start N vs) H):
 E3 P w K mg base CX (k + 1) f (PySem.W.fnOf name qual params body scope dV kV doc pm an cdv ct) ps sp:=by
 refine⟨len,λA outer s H args us vs Q E hr e0 hb r hsp=>?_⟩;have hl:=len _ _ _ _ hsp;have KX:K.In s.heap:=e0.mod.Bq.keeps λb o e=>(e0.bs b o e).1
 have lim:s.heap.NoLimit:=e0.mod.nolimit.keeps λb o e=>(e0.bs b o e).1
 have hkind:∀y∈ps.zip us,scope.names.lookup y.1=some .local\/(scope.names.lookup y.1=some .cell/\((cellsFrom (s.heap.objs.size + 1) scope.names []).lookup y.1).isSome=true):=λ⟨n,v⟩ hy=>by
  rcases S.par n (of_mem_zip hy).1 with q|q
  . exact .inl q
  . exact .inr ⟨q,cellsFrom_some _ _ _ (.inl q)⟩
 refine codeAny_call_function hr.depth (KX _ _ lk) rfl S.co S.gen rfl (PySem.W.codeRec_of KX hcd) (hb _ _ _ _ ?_);refine wpAny_newFunctionEnv_cells S.kind hkind λenv he s1 x=>?_
 subst he;refine⟨lim.keeps x.toInCall.keep,codeAny_func ?_⟩;obtain⟨t,ht,hq⟩:=hbody A outer s H vs Q E (hr.deeper _) hsp;have I:Inv (L5 CX P w K mg base N qual scope f cdv A outer s H E) [] (start N vs) H s1:=Of S hr.hd e0 hl r x;refine wpAny_mono (ht [] s1 (start N vs) H _ I hq) (λfl s' hs=>?_) λe s' hs=>hs
 have fin:∀{σ':St} {H':Hp} {v:V} {u:Value},Inv (L5 CX P w K mg base N qual scope f cdv A outer s H E) [] σ' H' s'->RelV v u->Q v H'->CE outer P w H s Q u s':=
  λ{σ' H' v u} J rv q=>⟨v,H',J.os,J.bare,J.base,J.Aj,rv,q⟩
 cases fl with
 | ret u=>
   obtain⟨v,σ',H',J,rv,q⟩:=hs;exact fin J rv q
 | next=>
   obtain⟨σ',H',J,q⟩:=hs;exact fin (v:=V.AG) (u:=Value.none) J rfl q
 | brk=>
   obtain⟨_,_,_,q⟩:=hs;exact False.elim q
 | cont=>
   obtain⟨_,_,_,q⟩:=hs;exact False.elim q
section
variable{x:Str}{p:Pos}{id T:String}{r:List V->Hp->VK->Prop}
def bJ(r:List V->Hp->VK->Prop)(t:TA):TE:=λσ H Q=>t σ H λvs H1=>r vs H1 Q
theorem Kr(hc:B4 X (.builtin id) r)(hg:Gl X x)(hm:X.mg x=none)(hv:bootBuiltins x=some (.builtin id))(ha:PA X (e::es) t)(hn:x≠"__name__":=by decide)(hdb:(x == ("__debug__":Str))=false:=by decide)
 (he:starEach (e::es) X.env=(false,eval e X.env)::starEach es X.env:=by rfl)(hpl:(backTo pos (starEach es X.env)).any (·.1)=false:=by rfl):PE X (.Call (.Name x p) (e::es) [] pos) (bJ r t):=by
 intro pins s σ H Q I h;refine wpAny_Call_Name_kw (CT I hg hm hv ?_ hn hdb);exact PyProof.Rows.callWith_builtin1 (BB (ha pos pins s σ H _ I h) λus s1 ⟨vs,H1,I1,r1,q1⟩=>hc pins s1 σ H1 vs us Q I1 r1 q1) he hpl
theorem O6(hc:B4 X (.type T) r)(hg:Gl X x)(hm:X.mg x=none)(hv:bootBuiltins x=some (.type T))(ha:PA X (e::es) t)(hn:x≠"__name__":=by decide)(hdb:(x == ("__debug__":Str))=false:=by decide)
 (he:starEach (e::es) X.env=(false,eval e X.env)::starEach es X.env:=by rfl)(hpl:(backTo pos (starEach es X.env)).any (·.1)=false:=by rfl):PE X (.Call (.Name x p) (e::es) [] pos) (bJ r t):=by
 intro pins s σ H Q I h;refine wpAny_Call_Name_kw (CT I hg hm hv ?_ hn hdb);exact PyProof.Rows.callWith_type1 (BB (ha pos pins s σ H _ I h) λus s1 ⟨vs,H1,I1,r1,q1⟩=>hc pins s1 σ H1 vs us Q I1 r1 q1) he hpl
end
end L2
namespace HT
open PySem PyProof.Rows
variable{prog:Program}{w:World}{A:Around}{E:Value->Shared->Prop}{s:Shared}
theorem Ub{vs ws:List Value}{Q:Value->Shared->Prop}(ht:IsTup s.heap t vs.toArray)(hb:IsTup s.heap b ws.toArray)(hv:vs≠[])
 (h1:ws=[]->Q (.ref t) s)(h2:ws≠[]->Q (.ref s.heap.objs.size) {s with heap:=s.heap.push {cls:=.type "tuple",data:=.seq (vs++ws).toArray}})
 (hsz:vs.length + ws.length<=sizeLine):wpAny (model prog w) A (binaryOp .Add (.ref t) (.ref b)) Q E s:=by
 obtain⟨⟨cls,dd,data,sl⟩,ho,hc,n,hd⟩:=id ht;obtain⟨⟨cls2,dd2,data2,sl2⟩,ho2,hc2,n2,hd2⟩:=id hb;simp only at hc hd hc2 hd2;subst hc hd hc2 hd2;have e:vs.toArray++ws.toArray=(vs++ws).toArray:=by simp
 by_cases hw:ws=[]
 . exact concat_meets ⟨_,ho,rfl⟩ ⟨_,ho2,rfl⟩ noFill_tuple_add seq_tuple_add PySem.F.slot_tuple_add PySem.F.entry_tuple_add (PySem.F.args_tuple_add_2 _ _)
    (tuple_addW1 t b vs.toArray ws.toArray n n2 dd dd2 sl sl2 (by simpa using hv) (by simp[hw])) ⟨ho,ho2,h1 hw⟩
 . refine concat_meets ⟨_,ho,rfl⟩ ⟨_,ho2,rfl⟩ noFill_tuple_add seq_tuple_add PySem.F.slot_tuple_add PySem.F.entry_tuple_add (PySem.F.args_tuple_add_2 _ _)
    (tuple_addW2 t b vs.toArray ws.toArray n n2 dd dd2 sl sl2 (by simpa using hv) (by simpa using hw) (by rw[size_toArray,size_toArray];exact hsz)) ⟨ho,ho2,?_⟩
   rw[e];exact h2 hw
noncomputable def C9(n d:Nat):Option Int->Nat
 |none=>d
 |some v=>if v < 0 then(v + (n:Int)).toNat else min v.toNat n
theorem Vq(n d:Nat)(hd:d<=n)(o:Option Int):C9 n d o<=n:=by
 cases o with
 |none=>exact hd
 | some v=>
   show(if v < 0 then(v + (n:Int)).toNat else min v.toNat n)<=n
   by_cases hv:v < 0
   . rw[iP hv];lia
   . rw[iN hv];exact Nat.min_le_right _ _
theorem Nu(v:Int)(n d:Nat):(if v < 0 then max (v + (n:Int)) 0 else min v (n:Int))=((C9 n d (some v):Nat):Int):=by
 show(if v < 0 then max (v + (n:Int)) 0 else min v (n:Int))=(((if v < 0 then(v + (n:Int)).toNat else min v.toNat n):Nat):Int)
 by_cases hv:v < 0
 . simp only[iP hv];lia
 . simp only[iN hv];lia
theorem Mr(lo hi:Option Int)(n:Nat):Builtin.Slice.sliceAdjust lo hi 1 (n:Int)=(((C9 n 0 lo:Nat):Int),((C9 n n hi:Nat):Int)):=by
 have h1:¬((1:Int) < 0):=by lia
 unfold Builtin.Slice.sliceAdjust;simp only[h1,if_false];refine Prod.ext ?_ ?_
 . cases lo with
   |none=>rfl
   |some v=>exact Nu v n 0
 . cases hi with
   |none=>rfl
   |some v=>exact Nu v n n
theorem LG(i j:Nat):Builtin.Slice.slicePlaces (i:Int) (j:Int) 1=j - i:=by
 unfold Builtin.Slice.slicePlaces;have h1:(1:Int) > 0:=by lia
 simp only[h1,if_true,Int.ediv_one];split<;>lia
theorem GK{o:Option Int}{Q:Option Int->Shared->Prop}(p:IsPart v o)(h:Q o s):wpAny (model prog w) A (Builtin.Slice.slicePartIndex v) Q E s:=by
 cases p with
 |none=>exact slicePart_none h
 |int i t=>exact slicePart_int h
variable{sl:Addr}{vl vu:Value}
theorem DE{lo hi:Option Int}{n:Nat}{Q:Int×Int×Nat->Shared->Prop}(hs:s.heap.IsSliceOf sl vl vu .none)(pl:IsPart vl lo)(pu:IsPart vu hi)
 (h:Q (((C9 n 0 lo:Nat):Int),1,C9 n n hi - C9 n 0 lo) s):wpAny (model prog w) A (Builtin.Slice.sliceApplied (.ref sl) (pure (n:Int))) Q E s:=by
 obtain⟨os,hos,hcs,hds⟩:=id hs;unfold Builtin.Slice.sliceApplied Builtin.Slice.sliceFields;refine wB (wB (wpAny_field hos hds (x:=vl) rfl (wB (wpAny_field hos hds (x:=vu) rfl (wB (wpAny_field hos hds (x:=.none) rfl (wP ?_)))))));refine wB (slicePart_none ?_);show wpAny _ _ (if((1:Int) == 0)=true then _ else _) _ _ s;rw[iN (by decide)];refine wB (GK pl (wB (GK pu (wB (wP ?_)))));show wpAny _ _ (match Builtin.Slice.sliceAdjust lo hi 1 (n:Int)with|(lo,hi)=>pure (lo,(1:Int),Builtin.Slice.slicePlaces lo hi 1)) _ _ s;rw[Mr lo hi n];show wpAny _ _ (pure (((C9 n 0 lo:Nat):Int),(1:Int),Builtin.Slice.slicePlaces ((C9 n 0 lo:Nat):Int) ((C9 n n hi:Nat):Int) 1)) _ _ s;rw[LG];exact wP h
theorem PL(xs:Array Value)(i k:Nat):((List.range k).filterMap λ(m:Nat)=>xs[((i:Int) + (m:Int) * 1).toNat]?).toArray=((xs.toList.drop i).take k).toArray:=by
 have e:(λ(m:Nat)=>xs[((i:Int) + (m:Int) * 1).toNat]?)=λm=>xs[i + m]? :=by
  funext m
  have:((i:Int) + (m:Int) * 1).toNat=i + m:=by lia
  rw[this]
 rw[e];have:=pick_run xs i k;rw[List.filterMap_map]at this;have e2:((λx=>xs[x]?) ∘ λx=>i + x)=λm=>xs[i + m]? :=rfl
 rw[e2]at this;rw[this]
theorem Fz{items:Array Value}{lo hi:Option Int}{Q:Value->Shared->Prop}(ht:IsTup s.heap t items)(hs:s.heap.IsSliceOf sl vl vu .none)(pl:IsPart vl lo)(pu:IsPart vu hi)
 (hw:¬(C9 items.size 0 lo=0/\C9 items.size items.size hi=items.size))
 (h:Q (.ref s.heap.objs.size) {s with heap:=s.heap.push {cls:=.type "tuple",data:=.seq ((items.toList.drop (C9 items.size 0 lo)).take (C9 items.size items.size hi - C9 items.size 0 lo)).toArray}})
 (hsz:items.size<=sizeLine):wpAny (model prog w) A (getItem (.ref t) (.ref sl)) Q E s:=by
 have htake:sizeOk (.seq ((items.toList.drop (C9 items.size 0 lo)).take (C9 items.size items.size hi - C9 items.size 0 lo)).toArray):=by
  show((items.toList.drop (C9 items.size 0 lo)).take (C9 items.size items.size hi - C9 items.size 0 lo)).toArray.size<=sizeLine;rw[size_toArray,length_take,length_drop,Array.length_toList]
  lia
 have hj:C9 items.size items.size hi<=items.size:=Vq _ _ (lR) hi;obtain⟨os,hos,hcs,hds⟩:=id hs;have hTs:s.TypeIs (.ref sl) "slice":=⟨os,hos,hcs⟩;unfold getItem
 try with_reducible refine wpAny_holding ?_
 first|refine wB (wP ?_)|skip
 refine wB (wpAny_sequenceKey ht.typeIs (by decide) ?_)
 refine wB (wpAny_callSpecial?_slot (name:=Str.ofString "__getitem__") ht.typeIs PyProof.Rows.slot_tuple_getitem
  (wpAny_call_entry PyProof.Rows.slot_tuple_getitem ht.typeIs entry_tuple_getitem ?_ (args_tuple_getitem _ _)))
 show wpAny _ _ (Builtin.Tuple.tupleItemsOf (.ref t) >>= _) _ _ s;refine wB (tupleItemsOf_ ht ?_);refine wB (wpAny_typeOf hTs ?_);rw[iP (by decide)];refine wB (DE hs pl pu ?_)
 have hno:¬((((C9 items.size 0 lo:Nat):Int) == 0 && (1:Int) == 1 && (C9 items.size items.size hi - C9 items.size 0 lo) == items.size)=true):=by
  intro q;rw[bA,bA]at q;have q1:((C9 items.size 0 lo:Nat):Int)=0:=eq_of_beq q.1.1;have q2:C9 items.size items.size hi - C9 items.size 0 lo=items.size:=eq_of_beq q.2;exact hw ⟨by lia,by lia⟩
 show wpAny _ _ (if(((C9 items.size 0 lo:Nat):Int) == 0 && (1:Int) == 1 && (C9 items.size items.size hi - C9 items.size 0 lo) == items.size)=true then _ else _) _ _ s;rw[iN hno,PL]
 first
  |exact wB (m:=Builtin.Tuple.tupleExact _) (wpAny_newObj_type (wP ⟨_,rfl,wP h⟩) htake)
  |exact wB (m:=Builtin.Tuple.tupleExact _) (wpAny_newObj_type (wB (wP (wP ⟨_,rfl,wP h⟩))) htake)
  |exact wB (wB (m:=Builtin.Tuple.tupleExact _) (wpAny_newObj_type (wP (wP ⟨_,rfl,wP h⟩)) htake))
  |exact wB (wB (m:=Builtin.Tuple.tupleExact _) (wpAny_newObj_type (wP ⟨_,rfl,wP h⟩) htake))
end HT
namespace L2
open PySem PySem.Spec PyProof.Rows
abbrev TO:=St->Hp->(Option Int->Hp->Prop)->Prop
theorem intsAre_of{ns:List Int}:∀{us:List Value},Vals (ns.map V.int) us->IntsAre us ns:=by
 induction ns with
 |nil=>intro us r;rw[map_nil]at r;cases r;exact .nil
 | cons n ns ih=>
   intro us r;rw[map_cons]at r;cases r with
   | cons r1 r2=>
     obtain⟨t,e⟩:=r1;subst e;exact .cons n t (ih r2)
section
variable{X:Cx}{e:Expr}{te:TE}{lo hi:Option Expr}{tl th:TO}{pos p2:Pos}
def Xt(X:Cx)(r:V->Option Int->Option Int->Hp->VK->Prop):Prop:=
 ∀ (pins:List (Addr×Obj)) (s:Shared) (σ:St) (H:Hp) (x:V) (v vl vu:Value) (lo hi:Option Int) (sl:Addr) (Q:VK),Inv X pins σ H s->RelV x v->s.heap.IsSliceOf sl vl vu .none->IsPart vl lo->IsPart vu hi->r x lo hi H Q->
   ∃T id,typeLookup (.type T) "__getitem__"=pure (some (.builtin id))/\s.TypeIs v T/\wpAny (model X.prog X.w) X.A (getItem v (.ref sl)) (EP X pins σ Q) X.xe s
noncomputable def L7(xs:List V)(lo hi:Option Int):List V:=(xs.drop (HT.C9 xs.length 0 lo)).take (HT.C9 xs.length xs.length hi - HT.C9 xs.length 0 lo)
theorem Gi(xs:List V)(lo hi:Option Int):(L7 xs lo hi).length<=xs.length:=by
 unfold L7;rw[length_take,length_drop]
 lia
def ah(K:PySem.W.Frag):V->Option Int->Option Int->Hp->VK->Prop:=λx lo hi H Q=>∃a xs,x= .ref a/\En K H a xs/\
 ¬(HT.C9 xs.length 0 lo=0/\HT.C9 xs.length xs.length hi=xs.length)/\∀p,H p=none->Q (.ref p) (upd H p (.tup (L7 xs lo hi)))
theorem Vm:Xt X (ah X.K):=by
 intro pins s σ H x v vl vu lo hi sl Q I rx hs pl pu h;obtain⟨a,xs,rfl,hx,hw,q⟩:=h;cases rx;obtain⟨its,r,ht,hz⟩:=I.tuple hx;have hlen:its.toArray.size=xs.length:=by rw[size_toArray];exact r.length.symm
 refine⟨"tuple",_,PyProof.Rows.slot_tuple_getitem.lookup,ht.typeIs,?_⟩;refine HT.Fz ht hs pl pu (by rw[hlen];exact hw) ?_ (by rw[hlen];exact hz);rw[hlen];refine⟨.ref s.heap.objs.size,_,I.laid (t':=s.toks) (o:=.tup (L7 xs lo hi)) (λb ob q=>gP q) (lR) ?_,rfl,q _ (I.Aj.fresh (lR))⟩;exact⟨Nat.le_trans (Gi xs lo hi) hz,_,(r.drop (HT.C9 xs.length 0 lo)).take (HT.C9 xs.length xs.length hi - HT.C9 xs.length 0 lo),IsTup.new _ _⟩
noncomputable def XZ(K:PySem.W.Frag):R2:=λx y H Q=>∃a b xs ys,x= .ref a/\y= .ref b/\En K H a xs/\En K H b ys/\xs≠[]/\xs.length + ys.length<=sizeLine/\
 (ys=[]->Q (.ref a) H)/\(ys≠[]->∀p,H p=none->Q (.ref p) (upd H p (.tup (xs++ys))))
theorem Vals.Ji{xs:List V}{us:List Value}(r:Vals xs us):us=[]↔xs=[]:=by
 cases r with
 |nil=>simp
 |cons _ _=>simp
theorem T1:Du X (binaryOp .Add) (XZ X.K):=by
 intro pins s σ H x y v u Q I rx ry h;obtain⟨a,b,xs,ys,rfl,rfl,ha,hb,hx,hz,q1,q2⟩:=h;cases rx;cases ry;obtain⟨its,r1,p1,_⟩:=I.tuple ha;obtain⟨its2,r2,p2,_⟩:=I.tuple hb;refine HT.Ub p1 p2 (λz=>hx (r1.Ji.mp z)) (λz=>⟨.ref a,H,I,rfl,q1 (r2.Ji.mp z)⟩) (λz=>?_) (by rw[<-r1.length,<-r2.length];exact hz);refine⟨.ref s.heap.objs.size,_,I.laid (t':=s.toks) (o:=.tup (xs++ys)) (λb ob q=>gP q) (lR) ?_,rfl,q2 (λw=>z (r2.Ji.mpr w)) _ (I.Aj.fresh (lR))⟩;exact⟨by rw[lA];exact hz,_,r1.append r2,IsTup.new _ _⟩
end
noncomputable def FN(n:Nat)(i:Int):Option Nat:=if 0<=i then(if i < n then some i.toNat else none)else if -(n:Int)<=i then some (i + n).toNat else none
def UZ{α:Type}(xs:List α)(i:Int):Option α:=(FN xs.length i).bind λj=>xs[j]?
theorem Tu{n:Nat}{j:Nat}(h:FN n i=some j):seqIndex? i n=some j/\j < n/\-(n:Int)<=i/\i < n:=by
 unfold FN at h
 by_cases h0:0<=i
 . rw[iP h0]at h
   by_cases h1:i < n
   . rw[iP h1]at h;have e:i.toNat=j:=Option.some.inj h;exact⟨by rw[seqIndex_of h0 h1,e],by lia,by lia,h1⟩
   . rw[iN h1]at h;cases h
 . rw[iN h0]at h
   by_cases h1: -(n:Int)<=i
   . rw[iP h1]at h;have e:(i + n).toNat=j:=Option.some.inj h;exact⟨by rw[seqIndex_neg (by lia) h1,e],by lia,h1,by lia⟩
   . rw[iN h1]at h;cases h
variable{α:Type}
theorem JS{xs:List α}{v:α}(h:UZ xs i=some v):∃j,seqIndex? i xs.length=some j/\xs[j]? =some v/\j < xs.length/\-(xs.length:Int)<=i/\i < xs.length:=by
 unfold UZ at h;cases e:FN xs.length i with
 |none=>rw[e]at h;cases h
 | some j=>
   rw[e]at h;obtain⟨h1,h2,h3,h4⟩:=Tu e;exact⟨j,h1,h,h2,h3,h4⟩
def JV(b:Expr):Prop:=∀o i,subscripted b false o i=operate [o,i] (getItem o i)
def Rw(X:Cx)(r:R2):Prop:=
 ∀ (value slice:Expr) (pins:List (Addr×Obj)) (s:Shared) (σ:St) (H:Hp) (x y:V) (v u:Value) (Q:VK),Inv X pins σ H s->RelV x v->RelV y u->r x y H Q->
   subscripted slice false v u=operate [v,u] (getItem v u)->wpAny (model X.prog X.w) X.A (subscriptTail value slice v u) (EP X pins σ Q) X.xe s
def Xu(X:Cx)(id:String)(r:V->List V->Hp->VK->Prop):Prop:=
 ∀ (pins:List (Addr×Obj)) (s:Shared) (σ:St) (H:Hp) (x:V) (xs:List V) (v:Value) (us:List Value) (Q:VK),Inv X pins σ H s->RelV x v->Vals xs us->r x xs H Q->
   wpAny (model X.prog X.w) X.A (call (.builtin id) (v::us)) (EP X pins σ Q) X.xe s
section
variable{X:Cx}{a b:Expr}{ta tb:TE}{pos:Pos}
theorem Yb{r:R2}(hr:Rw X r)(ha:PE X a ta)(hb:PE X b tb)(hs:JV b):PE X (.Subscript a b pos) (Zq r ta tb):=by
 intro pins s σ H Q I h;exact Subscript_ (X1 ha hb I h λv u s2 x y H2 I2 rx ry q=>hr a b pins s2 σ H2 x y v u Q I2 rx ry q (hs _ _))
noncomputable def aq(K:PySem.W.Frag):R2:=λx y H Q=>∃p xs i v,x= .ref p/\y= .int i/\Dt K H p xs/\UZ xs i=some v/\Q v H
noncomputable def ak(K:PySem.W.Frag):R2:=λx y H Q=>∃p xs i v,x= .ref p/\y= .int i/\En K H p xs/\UZ xs i=some v/\Q v H
noncomputable def ao:R2:=λx y H Q=>∃z i c,x= .str z/\y= .int i/\z.length<=sizeLine/\UZ z.cps.toList i=some c/\Q (.str ⟨#[c]⟩) H
theorem Tt:Rw X (aq X.K):=by
 intro value slice pins s σ H x y v u Q I rx ry h hs;obtain⟨p,xs,i,z,rfl,rfl,hq,he,q⟩:=h;cases rx;obtain⟨t,rfl⟩:=ry;obtain⟨its,r,pl,hz⟩:=I.list hq;obtain⟨j,h1,h2,h3,h4,h5⟩:=JS he;obtain⟨w,ew,rw'⟩:=r.get h2;have hl:=r.length;have hn:=EU;have fin:EP X pins σ Q w s:=⟨z,H,I,rw',q⟩
 by_cases h0:0<=i
 . have hj:i.toNat=j:=by
    rw[seqIndex_of h0 h5]at h1;exact Option.some.inj h1
   exact item_listR pl.isList h0 (by lia) (by rw[hj];simpa using ew) fin hs
 . have hj:(i + (its.toArray.size:Int)).toNat=j:=by
    rw[seqIndex_neg (by lia) h4]at h1;rw[size_toArray,<-hl];exact Option.some.inj h1
   exact subscriptTail_builtinR (x:=w) pl.isList.typeIs slot_list_getitem.lookup
    (wpAny_getItem_list_neg (Q:=λr s'=>r=w/\EP X pins σ Q r s') pl.isList (by lia) (by rw[size_toArray]<;>lia) (by lia) (by rw[hj];simpa using ew) ⟨rfl,fin⟩) hs
theorem Wm:Rw X (ak X.K):=by
 intro value slice pins s σ H x y v u Q I rx ry h hs;obtain⟨p,xs,i,z,rfl,rfl,hq,he,q⟩:=h;cases rx;obtain⟨t,rfl⟩:=ry;obtain⟨its,r,pl,hz⟩:=I.tuple hq;obtain⟨j,h1,h2,h3,h4,h5⟩:=JS he;obtain⟨w,ew,rw'⟩:=r.get h2;have hl:=r.length;have hn:=EU;have fin:EP X pins σ Q w s:=⟨z,H,I,rw',q⟩
 exact subscriptTail_builtinR (x:=w) pl.typeIs slot_tuple_getitem.lookup
  (getItem_tuple (j:=j) (Q:=λr s'=>r=w/\EP X pins σ Q r s') pl (by lia) (by lia) (by rw[size_toArray,<-hl];exact h1) (by simpa using ew) ⟨rfl,fin⟩) hs
theorem Wn:Rw X ao:=by
 intro value slice pins s σ H x y v u Q I rx ry h hs;obtain⟨z,i,c,rfl,rfl,hz,he,q⟩:=h;obtain⟨t,rfl⟩:=rx;obtain⟨t',rfl⟩:=ry;obtain⟨j,h1,h2,h3,h4,h5⟩:=JS he;have hl:z.cps.toList.length=z.length:=by simp[Str.length]
 rw[hl]at h1 h4 h5;have hn:=EU
 exact tail_any (typeIs_str s z t) slot_str_getitem.lookup (getItem_str (c:=c) (by
  have e1:decide (i < -(2 ^ 63:Int))=false:=dF (by lia);have e2:decide (i≥2 ^ 63)=false:=dF (by lia)
  rw[e1,e2,Bool.or_false]) (by rw[h1];simpa using h2) ⟨.str ⟨#[c]⟩,H,I.tok _,⟨_,rfl⟩,q⟩) hs
theorem J1(lo hi:Option Int)(n:Nat):(sliceBounds lo hi none n).1=((HT.C9 n 0 lo:Nat):Int)/\(sliceBounds lo hi none n).2.1=((HT.C9 n n hi:Nat):Int)/\(sliceBounds lo hi none n).2.2=1:=by
 refine⟨?_,?_,rfl⟩
 . cases lo with
   |none=>simp[sliceBounds,HT.C9]
   | some i=>
     simp only[sliceBounds,HT.C9,Option.getD_none,show(1:Int) > 0 by decide,if_true]
     by_cases h:i < 0
     . simp only[h,if_true]<;>lia
     . simp only[h,if_false]<;>lia
 . cases hi with
   |none=>simp[sliceBounds,HT.C9]
   | some i=>
     simp only[sliceBounds,HT.C9,Option.getD_none,show(1:Int) > 0 by decide,if_true]
     by_cases h:i < 0
     . simp only[h,if_true]<;>lia
     . simp only[h,if_false]<;>lia
theorem HR(its:List Value)(lo hi:Option Int):slicePick its.toArray lo hi none=((its.drop (HT.C9 its.length 0 lo)).take (HT.C9 its.length its.length hi - HT.C9 its.length 0 lo)).toArray:=by
 obtain⟨h1,h2,h3⟩:=J1 lo hi its.toArray.size;unfold slicePick;rw[h1,h2,h3];simp only[sliceRange_one,pick_run,size_toArray]<;>rfl
def aj(K:PySem.W.Frag):V->Option Int->Option Int->Hp->VK->Prop:=λx lo hi H Q=>∃a xs,x= .ref a/\Dt K H a xs/\∀p,H p=none->Q (.ref p) (upd H p (.lst (L7 xs lo hi)))
theorem S6:Xt X (aj X.K):=by
 intro pins s σ H x v vl vu lo hi sl Q I rx hs pl pu h;obtain⟨a,xs,rfl,hx,q⟩:=h;cases rx;obtain⟨its,r,ht,hz⟩:=I.list hx;have hlen:=r.length;refine⟨"list",_,slot_list_getitem.lookup,ht.isList.typeIs,?_⟩;refine wpAny_getItem_list_slice ht.isList hs pl pu .none (by simp) ?_ (by rw[size_toArray]<;>lia);rw[HR,<-hlen];refine⟨.ref s.heap.objs.size,_,I.laid (t':=s.toks) (o:=.lst (L7 xs lo hi)) (λb ob q=>gP q) (lR) ?_,rfl,q _ (I.Aj.fresh (lR))⟩;exact⟨Nat.le_trans (Gi xs lo hi) hz,_,0,(r.drop (HT.C9 xs.length 0 lo)).take (HT.C9 xs.length xs.length hi - HT.C9 xs.length 0 lo),Heap.get?_push_size _ rfl⟩
theorem B4.or{r r':List V->Hp->VK->Prop}(h:B4 X f r)(h':B4 X f r'):B4 X f (λxs H Q=>r xs H Q\/r' xs H Q):=by
 intro pins s σ H xs us Q I rs q;rcases q with q|q
 . exact h pins s σ H xs us Q I rs q
 . exact h' pins s σ H xs us Q I rs q
theorem JO:B4 X (.type "list") (λxs H Q=>∃p ys,xs=[.ref p]/\(Dt X.K H p ys\/En X.K H p ys)/\∀l,H l=none->Q (.ref l) (upd H l (.lst ys))):=by
 intro pins s σ H xs us Q I r h;obtain⟨p,ys,rfl,hq,q⟩:=h;obtain⟨u,rfl,rx⟩:=vals1 r;cases rx
 have fin:∀(its:List Value),Vals ys its->ys.length<=sizeLine->∀(h':Heap) (c':Nat),(∀b o',s.heap.get? b=some o'->h'.get? b=some o')->
  h'.get? s.heap.objs.size=some {cls:=.type "list",dict:=none,data:=.seq its.toArray c',slots:=#[]}->EP X pins σ Q (.ref s.heap.objs.size) {s with heap:=h'}:=λits r' hz h' c' kp e=>
  ⟨.ref s.heap.objs.size,_,I.laid (t':=s.toks) kp (lR) (show C8 X.prog X.w _ h' _ (.lst ys)from⟨hz,its,c',r',e⟩),rfl,q _ (I.Aj.fresh (lR))⟩
 rcases hq with hq|hq
 . obtain⟨its,r',pl,hz⟩:=I.list hq;have hlen:=r'.length;obtain⟨o,ho,hc,n,hd⟩:=pl.isList;exact call_list_seq p (.inl rfl) ho hc hd (λh' c' kp e=>fin its r' hz h' c' kp e) (by simp only[size_toArray]<;>lia)
 . obtain⟨its,r',pl,hz⟩:=I.tuple hq;have hlen:=r'.length;obtain⟨o,ho,hc,n,hd⟩:=pl;exact call_list_seq p (.inr rfl) ho hc hd (λh' c' kp e=>fin its r' hz h' c' kp e) (by simp only[size_toArray]<;>lia)
theorem EN:B4 X (.type "tuple") (λxs H Q=>∃p ys,xs=[.ref p]/\((Dt X.K H p ys/\∀l,H l=none->Q (.ref l) (upd H l (.tup ys)))\/(En X.K H p ys/\Q (.ref p) H))):=by
 intro pins s σ H xs us Q I r h;obtain⟨p,ys,rfl,h⟩:=h;obtain⟨u,rfl,rx⟩:=vals1 r;cases rx;rcases h with⟨hq,q⟩|⟨hq,q⟩
 . obtain⟨its,r',pl,hz⟩:=I.list hq;have hlen:=r'.length;refine call_tuple_list pl.isList (λh' kp=>?_) (by simp only[size_toArray]<;>lia);have I1:Inv X pins σ H {s with heap:=h'}:=I.kept (t':=s.toks) kp
   have I2:Inv X pins σ (upd H h'.objs.size (.tup ys)) {s with heap:=h'.push {cls:=.type "tuple",data:=.seq its.toArray}}:=
    I1.laid (t':=s.toks) (λb o e=>gP e) (lR) (show C8 X.prog X.w _ _ _ (.tup ys)from⟨hz,its,r',IsTup.new _ _⟩)
   exact⟨.ref h'.objs.size,_,I2,rfl,q _ (I1.Aj.fresh (lR))⟩
 . obtain⟨its,r',pl,hz⟩:=I.tuple hq;exact call_tuple_same pl ⟨.ref p,H,I,rfl,q⟩
def Zo(K:PySem.W.Frag)(T:String)(x:V)(H:Hp):Prop:=match x with
 | .str _=>T="str"
 | .int _=>T="int"
 | .ref p=>(T="list"/\∃xs,Dt K H p xs)\/(T="tuple"/\∃o,K.lookup p=some o/\o.cls= .type "tuple"/\o.dict=none)\/
  (T="dict"/\((∃kvs,H p=some (.dK kvs))\/∃kvs,H p=some (.dT kvs)))\/(T="set"/\∃S n,H p=some (.set S n))
 |_=>False
theorem OU{pins:List (Addr×Obj)}{σ:St}{H:Hp}{s:Shared}{T:String}(I:Inv X pins σ H s)(r:RelV x v)(ty:Zo X.K T x H):
 s.TypeIs v T/\∀a,v= .ref a->∃ob,s.heap.get? a=some ob/\ob.dict=none:=by
 cases x with
 | str z=>
   obtain⟨t,rfl⟩:=r;cases (show T="str" from ty);exact⟨typeIs_str s z t,λ_ e=>nomatch e⟩
 | int i=>
   obtain⟨t,rfl⟩:=r;cases (show T="int" from ty);exact⟨typeIs_int s i t,λ_ e=>nomatch e⟩
 | ref p =>
   cases r;rcases ty with⟨rfl,xs,hq⟩|⟨rfl,o,hk,hc,hd⟩|⟨rfl,hk⟩|⟨rfl,S,n,hk⟩
   . obtain⟨its,_,pl,_⟩:=I.list hq;refine⟨pl.isList.typeIs,λa e=>?_⟩;cases e;obtain⟨o,n,e,c,hd,_⟩:=pl;exact⟨o,e,hd⟩
   . refine⟨⟨o,I.EG p o hk,hc⟩,λa e=>?_⟩;cases e;exact⟨o,I.EG _ o hk,hd⟩
   . have z:∃o,s.heap.get? p=some o/\o.ExactDict:=by
      rcases hk with⟨kvs,hk⟩|⟨kvs,hk⟩
      . obtain⟨_,_,_,_,o,_,_,e,ex,_⟩:=I.Aj p _ hk;exact⟨o,e,ex⟩
      . obtain⟨_,_,_,_,o,_,_,e,ex,_⟩:=I.Aj p _ hk;exact⟨o,e,ex⟩
     obtain⟨o,e,ex⟩:=z;refine⟨⟨o,e,ex.1⟩,λa e2=>?_⟩;cases e2;exact⟨o,e,ex.2.1⟩
   . obtain⟨o,_,_,_,e,ex,_⟩:=I.Aj p _ hk;refine⟨⟨o,e,ex.1⟩,λa e2=>?_⟩;cases e2;exact⟨o,e,ex.2.1⟩
 |_=>exact False.elim ty
noncomputable def aa(K:PySem.W.Frag)(T:String)(r:V->List V->Hp->VK->Prop)(to:TE):TE:=λσ H Q=>to σ H λx H1=>Zo K T x H1/\r x [] H1 Q
noncomputable def cm(K:PySem.W.Frag)(T:String)(r:V->List V->Hp->VK->Prop)(to:TE)(t:TA):TE:=λσ H Q=>to σ H λx H1=>Zo K T x H1/\t σ H1 λxs H2=>r x xs H2 Q
variable{o e:Expr}{es:List Expr}{to:TE}{t:TA}{name:Str}{apos cpos:Pos}{T id:String}{r:V->List V->Hp->VK->Prop}
theorem VR(pa:PlainAttrs T)(slot:Slot T name id)(hty:typeOf (.builtin id)=pure (.type "method_descriptor"))(hm:Xu X id r)(ho:PE X o to)
 (hbase:attributeBase o name X.env (eval o X.env)=eval o X.env:=by rfl)(hline:(apos.endLine == cpos.line)=true:=by rfl):PE X (.Call (.Attribute o name apos) [] [] cpos) (aa X.K T r to):=by
 intro pins s σ H Q I h;refine wpAny_Call_method0_late hbase hline (BB (ho pins s σ H _ I h) λv s1 ⟨x,H1,I1,r1,ty,q1⟩=>?_);obtain⟨h1,h2⟩:=OU I1 r1 ty;exact⟨T,id,pa,slot,hty,h1,h2,Calls.callWith_builtin rfl (PySem.evalArgs_none (hm pins s1 σ H1 x [] v [] Q I1 r1 .nil q1))⟩
theorem Yc(pa:PlainAttrs T)(slot:Slot T name id)(hty:typeOf (.builtin id)=pure (.type "method_descriptor"))(hm:Xu X id r)(ho:PE X o to)(ha:PA X (e::es) t)
 (hbase:attributeBase o name X.env (eval o X.env)=eval o X.env:=by rfl)
 (hfew:((backTo cpos (starEach (e::es) X.env)).all (λx=>!x.1) && (backToKw cpos (keywordEach [] X.env)).all (λx=>x.1.isSome)
  && decide ((e::es).length + ([]:List Keyword).length + (if([]:List Keyword).isEmpty then 0 else 1) < 30))=true:=by rfl)
 (hline:(apos.endLine == cpos.line)=true:=by rfl)(hs:starEach (e::es) X.env=(false,eval e X.env)::starEach es X.env:=by rfl)(hplain:(backTo cpos (starEach es X.env)).any (·.1)=false:=by rfl):
 PE X (.Call (.Attribute o name apos) (e::es) [] cpos) (cm X.K T r to t):=by
 intro pins s σ H Q I h;refine wpAny_Call_method_late hbase hfew hline rfl (BB (ho pins s σ H _ I h) λv s1 ⟨x,H1,I1,r1,ty,q1⟩=>?_);obtain⟨h1,h2⟩:=OU I1 r1 ty;refine⟨T,id,pa,slot,hty,h1,h2,?_⟩;have hA:=ha cpos pins s1 σ H1 _ I1 q1;rw[hs]at hA ⊢;refine Calls.callWith_builtin (by show(false || (backTo cpos (starEach es X.env)).any (·.1))=false;rw[hplain]<;>rfl) (Calls.evalArgs_plain ?_);exact BB hA λus s2 ⟨vs,H2,I2,r2,q2⟩=>hm pins s2 σ H2 x vs v us Q I2 r1 r2 q2
end
def ZR(X:Cx)(id:String)(r:V->List V->Hp->VK->Prop):Prop:=
 ∀ (pins:List (Addr×Obj)) (s:Shared) (σ:St) (H:Hp) (x:V) (xs:List V) (v:Value) (us:List Value) (Q:VK),Inv X pins σ H s->RelV x v->Vals xs us->r x xs H Q->
   wpAny (model X.prog X.w) X.A (call (.builtin id) (v::us)) (EP X pins σ Q) X.xe s
theorem Vals.one:∀{x:V} {us:List Value},Vals [x] us->∃u,us=[u]/\RelV x u
 |_,_,.cons r .nil=>⟨_,rfl,r⟩
theorem Vals.zero:∀{us:List Value},Vals [] us->us=[]
 |_,.nil=>rfl
variable{xs:List V}{us:List Value}
theorem Vals.dropLast(h:Vals xs us):Vals xs.dropLast us.dropLast:=by
 induction h with
 |nil=>exact .nil
 | cons r t ih=>
   cases t with
   |nil=>exact .nil
   |cons q t'=>exact .cons r ih
theorem Vals.reverse(h:Vals xs us):Vals xs.reverse us.reverse:=by
 induction h with
 |nil=>exact .nil
 |cons r t ih=>rw[reverse_cons,reverse_cons];exact Vals.append ih (.cons r .nil)
theorem Mf(l:List α):l.eraseIdx (l.length - 1)=l.dropLast:=by
 induction l with
 |nil=>rfl
 | cons a r ih=>
   cases r with
   |nil=>rfl
   | cons b r=>
     have e:(a::b::r).length - 1=((b::r).length - 1) + 1:=by
      have h1:(a::b::r).length=r.length + 2:=rfl;have h2:(b::r).length=r.length + 1:=rfl
      lia
     rw[e,List.eraseIdx_cons_succ,ih]
     all_goals rfl
variable{X:Cx}{pins:List (Addr×Obj)}{σ:St}{H:Hp}{s:Shared}{l b:Addr}{xs ys zs:List V}
variable{its:List Value}{t':Nat}
theorem Inv.Tc{its':List Value}{n:Nat}{f:Array Value->Array Value}(I:Inv X pins σ H s)(hH:H l=some (.lst xs))
 (e:s.heap.get? l=some {cls:=.type "list",data:=.seq its.toArray n})(hf:f its.toArray=its'.toArray)(hv:Vals ys its')(hz:ys.length<=sizeLine):
 Inv X pins σ (upd H l (.lst ys)) {s with heap:=s.heap.update l (Obj.mapSeq f),toks:=t'}:=by
 have q:=PySem.IsL.update e f;rw[hf]at q;refine I.write (x:=l) (e:=l) (by rw[hH];exact trivial) (.inl rfl) (λb' u hb hu=>(Heap.get?_update_other s.heap (Obj.mapSeq f) (Ne.symm hb)).trans hu) ⟨_,q⟩ ?_;exact⟨hz,its',_,hv,q⟩
theorem Inv.aQ(I:Inv X pins σ H s)(hv:Vals ys its)(hz:ys.length<=sizeLine):
 Inv X pins σ (upd H s.heap.objs.size (.lst ys)) {s with heap:=s.heap.push {cls:=.type "list",data:=.seq its.toArray},toks:=t'}:=
 I.laid (λ_ _ q=>gP q) (lR) ⟨hz,its,0,hv,Heap.get?_push_size _ rfl⟩
theorem Inv.fresh(I:Inv X pins σ H s):H s.heap.objs.size=none:=I.Aj.fresh (lR)
theorem Inv.LY(I:Inv X pins σ H s)(hH:H l=some (.lst xs)):xs.length<=sizeLine/\∃(its:List Value) (n:Nat),Vals xs its/\xs.length=its.length/\s.heap.get? l=some {cls:=.type "list",data:=.seq its.toArray n}:=by
 obtain⟨z,its,n,r,e⟩:=I.Aj l _ hH;exact⟨z,its,n,r,r.length,e⟩
theorem Qa{n:Nat}(h:n<=sizeLine):Builtin.List.listTooLong n=false:=by
 unfold Builtin.List.listTooLong;exact dF (by lia)
def MN:V->List V->Hp->VK->Prop:=λx vs H Q=>∃l xs y,x= .ref l/\vs=[y]/\H l=some (.lst xs)/\xs.length < sizeLine/\Q .AG (upd H l (.lst (xs++[y])))
theorem Oa:ZR X "list.append" MN:=by
 intro pins s σ H x vs v us Q I rx rv h;obtain⟨l,xs,y,rfl,rfl,hH,hz,q⟩:=h;cases rx;obtain⟨u,rfl,ru⟩:=rv.one;obtain⟨z,its,n,r,hl,e⟩:=I.LY hH;refine call_meets F.slot_list_append ⟨_,e,rfl⟩ F.entry_list_append (F.args_list_append_2 _ _) (PySem.list_append l its.toArray n u (by rw[size_toArray];lia)) ⟨e,?_⟩;refine⟨.AG,_,I.Tc (its':=its++[u]) hH e (by simp) (r.append (.cons ru .nil)) ?_,rfl,q⟩;rw[lA,lS]
 lia
def MM:V->List V->Hp->VK->Prop:=λx vs H Q=>∃l b xs zs,x= .ref l/\vs=[.ref b]/\H l=some (.lst xs)/\H b=some (.lst zs)/\xs.length + zs.length<=sizeLine/\Q .AG (upd H l (.lst (xs++zs)))
theorem O9:ZR X "list.extend" MM:=by
 intro pins s σ H x vs v us Q I rx rv h;obtain⟨l,b,xs,zs,rfl,rfl,hH,hB,hz,q⟩:=h;cases rx;obtain⟨u,rfl,ru⟩:=rv.one;cases ru;obtain⟨z,its,n,r,hl,e⟩:=I.LY hH;obtain⟨z2,its2,n2,r2,hl2,e2⟩:=I.LY hB;have hsz:its.toArray.size + its2.toArray.size<=sizeLine:=by rw[size_toArray,size_toArray];lia
 have hlong:¬(!its.toArray.isEmpty && Builtin.List.listTooLong (its.toArray.size + its2.toArray.size))=true:=by
  rw[Qa hsz,Bool.and_false];exact Bool.false_ne_true
 refine call_meets F.slot_list_extend ⟨_,e,rfl⟩ F.entry_list_extend (F.args_list_extend_2 _ _)
  (AutoSeq1.list_extend_list_list_0 l its.toArray n b its2.toArray n2 hlong (by rw[size_toArray];lia) (by lia)) ⟨e,e2,?_⟩
 refine⟨.AG,_,I.Tc (its':=its++its2) hH e (by simp) (r.append r2) ?_,rfl,q⟩;rw[lA]
 lia
def XY:V->List V->Hp->VK->Prop:=λx vs H Q=>∃l xs y,x= .ref l/\vs=[]/\H l=some (.lst xs)/\xs[xs.length - 1]? =some y/\Q y (upd H l (.lst xs.dropLast))
theorem Wb:ZR X "list.pop" XY:=by
 intro pins s σ H x vs v us Q I rx rv h;obtain⟨l,xs,y,rfl,rfl,hH,hy,q⟩:=h;cases rx;have hus:=rv.zero;subst hus;obtain⟨z,its,n,r,hl,e⟩:=I.LY hH;obtain⟨u,hu,ru⟩:=r.get hy
 have hy':its.toArray[its.toArray.size - 1]? =some u:=by
  show its.toArray[its.length - 1]? =some u;rw[<-Array.getElem?_toList,<-hl];exact hu
 refine call_meets F.slot_list_pop ⟨_,e,rfl⟩ F.entry_list_pop (F.args_list_pop_1 _) (MeetsSeq.list_pop_last l its.toArray n u hy' (by rw[size_toArray];lia)) ⟨e,?_⟩;refine⟨y,_,I.Tc (its':=its.dropLast) hH e ?_ r.dropLast ?_,ru,q⟩
 . show its.toArray.eraseIdxIfInBounds (its.toArray.size - 1)=its.dropLast.toArray;rw[size_toArray,List.eraseIdxIfInBounds_toArray,Mf]
 . rw[List.length_dropLast]
   lia
def Km:V->List V->Hp->VK->Prop:=λx vs H Q=>∃l xs,x= .ref l/\vs=[]/\H l=some (.lst xs)/\Q .AG (upd H l (.lst xs.reverse))
theorem LU:ZR X "list.reverse" Km:=by
 intro pins s σ H x vs v us Q I rx rv h;obtain⟨l,xs,rfl,rfl,hH,q⟩:=h;cases rx;have hus:=rv.zero;subst hus;obtain⟨z,its,n,r,hl,e⟩:=I.LY hH;refine call_meets F.slot_list_reverse ⟨_,e,rfl⟩ F.entry_list_reverse (F.args_list_reverse_1 _) (AutoSeq1.list_reverse_list_0 l its.toArray n (by rw[size_toArray];lia)) ⟨e,?_⟩;refine⟨.AG,_,I.Tc (its':=its.reverse) hH e (by simp) r.reverse ?_,rfl,q⟩;rw[length_reverse]
 lia
noncomputable def au:R2:=λx y H Q=>∃l b xs zs,x= .ref l/\y= .ref b/\H l=some (.lst xs)/\H b=some (.lst zs)/\xs.length + zs.length<=sizeLine/\∀p,H p=none->Q (.ref p) (upd H p (.lst (xs++zs)))
theorem W2:Du X (binaryOp .Add) au:=by
 intro pins s σ H x y v u Q I rx ry h;obtain⟨l,b,xs,zs,rfl,rfl,hH,hB,hz,q⟩:=h;cases rx;cases ry;obtain⟨z,its,n,r,hl,e⟩:=I.LY hH;obtain⟨z2,its2,n2,r2,hl2,e2⟩:=I.LY hB;refine PySem.P.add_list e e2 ?_ (by rw[size_toArray,size_toArray];lia);have ea:its.toArray++its2.toArray=(its++its2).toArray:=by simp
 rw[ea];exact⟨.ref _,_,I.aQ (t':=s.toks) (r.append r2) (by rw[lA];lia),rfl,q _ I.fresh⟩
variable{prog:Program}{w:World}{A:Around}{E:Value->Shared->Prop}
variable{a:Addr}{y v:V}{u r:Value}{o:Option V}
theorem Inv.big(I:Inv X pins σ H s):sysModules < s.heap.objs.size:=by
 have h:mainGlobals < s.heap.objs.size:=(I.mod.glob.keeps I.bk).lt;exact Nat.lt_trans (by decide) h
theorem U3{h':Heap}{ob:HO}(I:Inv X pins σ H s)(mu:Zm (H a))(hs:Heap.SameBut a s.heap h')(he:∃q,h'.get? a=some q)(new:C8 X.prog X.w (upd H a ob) h' a ob):
 Inv X pins σ (upd H a ob) {s with heap:=h',toks:=t'}:=
 I.write (x:=a) (e:=a) mu (.inl rfl) (λb q hb z=>(hs.2 b hb).trans z) he new
variable{kvs:List (Key×V)}{k:Key}
variable{pos:Pos}
structure M1(X:Cx)(o:Expr)(m:Str)(apos:Pos)(e:Expr)(cpos:Pos):Prop where
 base:attributeBase o m X.env (eval o X.env)=eval o X.env
 Wv:((backTo cpos (starEach [e] X.env)).all (λx=>!x.1) && (backToKw cpos (keywordEach [] X.env)).all (λx=>x.1.isSome)
  && decide (([e]:List Expr).length + ([]:List Keyword).length + (if([]:List Keyword).isEmpty then 0 else 1) < 30))=true
 line:(apos.endLine == cpos.line)=true
 trees:backTo cpos (starEach [e] X.env)=[(false,eval e X.env)]
structure M2(X:Cx)(o:Expr)(m:Str)(apos:Pos)(e f:Expr)(cpos:Pos):Prop where
 base:attributeBase o m X.env (eval o X.env)=eval o X.env
 Wv:((backTo cpos (starEach [e,f] X.env)).all (λx=>!x.1) && (backToKw cpos (keywordEach [] X.env)).all (λx=>x.1.isSome)
  && decide (([e,f]:List Expr).length + ([]:List Keyword).length + (if([]:List Keyword).isEmpty then 0 else 1) < 30))=true
 line:(apos.endLine == cpos.line)=true
 trees:backTo cpos (starEach [e,f] X.env)=[(false,eval e X.env),(false,eval f X.env)]
variable{d:V}
end L2
namespace Att
open PySem PySem.W PySem.Calls PyProof.Rows
variable{h:Heap}
theorem Gp{P:Params}:∀(ns:List Int) (vs:List Value),WellAll P h vs (ns.map WData.int)->IntsAre vs ns:=by
 intro ns
 induction ns with
 | nil=>
   intro vs w;rw[map_nil]at w;cases w;exact .nil
 | cons n ns ih=>
   intro vs w;rw[map_cons]at w;cases w with
   | cons a b=>
     cases a;exact .cons _ _ (ih _ b)
theorem NR{l:OpenLaw}{n:Nat}(hn:l.most=some n){P:Params}{args:List WData}{vals:List Value}
 (hpre:l.row.toRowW.claim.pre args=true)(hwl:WellAll P h vals args):
 ∃a vs ns,vals=[Value.ref a]/\args=[WData.list (ns.map WData.int)]/\h.get? a=some {cls:=.type "list",data:=.seq vs.toArray}/\IntsAre vs ns/\ns.length<=n:=by
 have hsh:WShape.hasAll [] args [.list .int]=true:=(pre_splitW hpre).1;have hc:l.pre.holds [] {args:=args}=true:=(pre_splitW hpre).2;obtain⟨d,r,rfl,h1,h2⟩:=hasAllW_cons hsh;obtain rfl:=hasAllW_nil h2;obtain⟨xs,rfl,h3⟩:=hasW_list h1;obtain⟨ns,rfl⟩:=items_int h3
 have hlen:ns.length<=n:=by
  unfold OpenLaw.pre at hc
  have h4:(WTm.not (.lt (.lit (.int (n:Int))) (.len (.arg 0)))).holds [] {args:=[.list (ns.map .int)]}=true:=by
   have h4:=(holds_andW hc).1;rw[hn]at h4;exact h4
  have h5:=condW_of h4 (w_not (w_lt w_lit (w_len_list (w_arg rfl))));rw[lM]at h5;refine Nat.le_of_not_lt λq=>?_
  have q':(n:Int) < ((ns.length:Nat):Int):=by lia
  first
   |(rw[decide_eq_true q']at h5;exact absurd h5 (by decide))
   |(simp at h5;lia)
 cases hwl with
 | cons w1 w2=>
   cases w2;cases w1 with
   |list ho hall=>exact⟨_,_,ns,rfl,rfl,ho,Gp ns _ hall,hlen⟩
theorem O0(l:OpenLaw)(args:List WData):l.row.toRowW.claim.post args (.bool true) args=true:=
 postW_of (r:=l.row.toRowW) (X:=(true == true))
  (show WShape.has [] (.bool true) .bool=true by first|rfl|decide|simp[WShape.has,WShape.arms,WShape.armsAll])
  (show(WTm.eq .res (.lit (.bool true))).value [] {args:=args,res:=some (.bool true),after:=args}=some (.bool (true == true))from w_eq_bool (w_res rfl) w_lit) rfl
theorem Lg{l:OpenLaw}{n:Nat}{q:Program}{loose:List Str}{XP:(Str->Option Value)->Heap->Prop}{YP:World->Heap->Prop}{d:DefRec}
 (hn:l.most=some n)(hdf:d.params.defaults=[])
 (call:∀(w:World) (s₀ s₁:Shared) (mg mb:Str->Option Value) (fa:Addr) (o:Obj) (pm cd doc:Value) (a:Addr) (vs:List Value) (ns:List Int),
  Ground q loose [] XP w s₀ mg mb s₁.heap->YP w s₁.heap->
  s₁.heap.get? fa=some o->o.data= .func (docDef d.name d.params d.body d.scope pm cd doc)->s₁.heap.CodeRec cd d.name->mg d.name=some (.ref fa)->
  s₁.heap.get? a=some {cls:=.type "list",data:=.seq vs.toArray}->IntsAre vs ns->ns.length<=n->s₁.gens= #[]->
  codeAny (model l.prog w) callerA (.call (.ref fa) ⟨[.ref a],[]⟩) (λr s'=>r= .ok (.ret (.bool true))/\OldK s₁.heap s'.heap/\s'.os=s₁.os/\AllBare s'.gens) s₁):
 WalkO q loose XP YP l.row.toRowW d [] (λf vs=>PySem.call f vs):=by
 intro w s₀ s₁ mg mb G Y fa o pm cd doc dV kV ho hd hcd hD hmg hg args vals as hpre hlay hrd hwl hlo;obtain rfl:dV= .none:=Dflts.none hD hdf;obtain rfl:kV= .none:=Dflts.noKw hD;obtain⟨a,vs,ns,rfl,rfl,hobj,hints,hlen⟩:=NR hn hpre hwl;refine enter_call (codeAny_mono (call w s₀ s₁ mg mb fa o pm cd doc a vs ns G Y ho (fd_plain hd) hcd hmg hobj hints hlen hg) λr s' hq=>?_);obtain⟨rfl,h2,h3,h4⟩:=hq;exact⟨.inl ⟨.bool true,.bool true,[],rfl,λ_=>rfl,.bool true,O0 l _,λ_=>⟨List.Pairwise.nil,λ_ hm=>(nomatch hm)⟩⟩,h2,h3,h4⟩
variable{prog:Program}{w:World}{A:Around}{E:Value->Shared->Prop}{s:Shared}{K:Frag}
end Att
namespace L2
open PySem PySem.Spec PyProof.Rows
theorem HZ:∀{vs:List Value} {ns:List Int},IntsAre vs ns->Vals (ns.map V.int) vs
 |_,_,.nil=>.nil
 |_,_,.cons n t h=>.cons ⟨t,rfl⟩ (HZ h)
def Uv(H:Hp):Prop:=∀b,H b=none\/∃o xs,H b=some (.N9 o (.lst xs))
theorem Qp{P:Program}{w:World}{K:PySem.W.Frag}{mg mb:Str->Option Value}{CX:Ux}{k:Nat}{fa:Addr}{fd:FuncData}{x:Str}{sp:Sp}{s₁:Shared}{vs:List Value}{ns:List Int}
 (KX:K.In s₁.heap)(hns:s₁.heap.Ns mainGlobals mg)(hb:s₁.heap.Ns builtinsNs mb)(hbb:∀x:Str,x≠"__name__"->mb x=bootBuiltins x)(hlim:s₁.heap.NoLimit)(hg:s₁.gens= #[])
 (ha:s₁.heap.get? a=some {cls:=.type "list",data:=.seq vs.toArray})(hi:IntsAre vs ns)(hl:ns.length<=sizeLine)(hr:Cw k callerA)
 (F:∀base:Heap,K.In base->base.Ns mainGlobals mg->E3 P w K mg base CX k fa fd [x] sp)(hbind:∀(s:Shared) (u:Value),BindsTo s fd ⟨[u],[]⟩ [(x,u)])
 (hsp:∀H:Hp,Uv H->Dt K H a (ns.map V.int)->sp [.ref a] H (λv _=>v= .bl true) λ_ _ _=>False)
 (hCX:∀H e s',CX [] H s₁ (λ_ _ _=>False) e s'->False):
 codeAny (model P w) callerA (.call (.ref fa) ⟨[.ref a],[]⟩) (λr s'=>r= .ok (.ret (.bool true))/\OldK s₁.heap s'.heap/\s'.os=s₁.os/\AllBare s'.gens) s₁:=by
 have rv:=HZ hi;have lenV:=hi.length
 have core :∀H:Hp,Uv H->Dt K H a (ns.map V.int)->Dg P w H s₁.heap->(∀b,H b≠none->b=a)->(H a≠none->K.lookup a=none)->
  codeAny (model P w) callerA (.call (.ref fa) ⟨[.ref a],[]⟩) (λr s'=>r= .ok (.ret (.bool true))/\OldK s₁.heap s'.heap/\s'.os=s₁.os/\AllBare s'.gens) s₁:=by
  intro H hO hS Aj hA hK;have base_of:∀{b:Addr} {o:Obj},s₁.heap.get? b=some o->H b=none->(Jy s₁.heap H).get? b=some o:=λe n=>QC e n
  have noA:∀{b:Addr} {o:Obj} {es:Array DictEntry} {ep:Nat},s₁.heap.get? b=some o->o.data= .dict es ep->H b=none:=λ{b o es ep} e d=>by
   cases q:H b with
   |none=>rfl
   | some u=>
     have e':b=a:=hA b (by rw[q];simp);subst e';rw[ha]at e;cases e;have d':Data.seq vs.toArray _=Data.dict es ep:=d;cases d'
  have nsK:∀{b:Addr} {m:Str->Option Value},s₁.heap.Ns b m->(Jy s₁.heap H).Ns b m:=λ{b m} ⟨o,es,ep,e,d,r⟩=>⟨o,es,ep,base_of e (noA e d),d,r⟩
  have hKb:K.In (Jy s₁.heap H):=λb o e=>base_of (KX b o e) (by
   cases q:H b with
   |none=>rfl
   | some u=>
     have e':b=a:=hA b (by rw[q];simp);subst e'
     rw[hK (by rw[q];simp)]at e;cases e)
  have hM:Mod K mg (Jy s₁.heap H):=⟨hKb,nsK hns,⟨mb,nsK hb,hbb⟩,let⟨mc,h1,h2⟩:=hlim;⟨mc,nsK h1,h2⟩⟩;have e0:Mt P w K mg (Jy s₁.heap H) callerA [] s₁ H:=⟨rfl,hM,λb o e=>T3 e,Nat.le_of_eq (Oh _ _),trivial,λb hb=>absurd (show b∈([]:List Addr)from hb) (by simp),Aj,.of_eq hg⟩;refine codeAny_mono ((F _ hKb (nsK hns)).run callerA [] s₁ H ⟨[.ref a],[]⟩ [.ref a] [.ref a] _ _ hr e0 (hbind s₁ (.ref a)) (.cons rfl .nil) (hsp H hO hS)) λr s' h=>?_
  cases r with
  |error e=>exact(hCX H e s' h).elim
  | ok fl =>
    cases fl with
    |next=>exact False.elim h
    |brk=>exact False.elim h
    |cont=>exact False.elim h
    | ret u=>
      obtain⟨v,H',os,bare,un,hok',r',q⟩:=h;have q':v= .bl true:=q;subst q';obtain rfl:u=Value.bool true:=r';refine⟨rfl,OldK.of_keep λb o e=>?_,os,bare⟩;cases q:H b with
      |none=>exact un.keep b o e q (by intro z;exact absurd (show b∈([]:List Addr)from z) (by simp)) (by simp)
      | some u=>
        rcases hO b with z|⟨ob,xs,z⟩
        . rw[q]at z;cases z
        . have z2:=un.JB b ob _ z;obtain⟨e1,_⟩:=Aj b _ z;obtain⟨e2,_⟩:=hok' b _ z2;rw[e]at e1;cases e1;exact e2
 cases hk:K.lookup a with
 | some o=>
   have e:=KX a o hk;rw[ha]at e;cases e;refine core (λ_=>none) (λ_=>.inl rfl) (.inr ⟨_,vs.toArray,_,hk,rfl,rfl,rfl,by rw[size_toArray,lenV];exact hl,by simpa using rv⟩) (λb u z=>by have z':(none:Option HO)=some u:=z;cases z') (λb z=>absurd rfl z) λz=>absurd rfl z
 | none=>
   refine core (λb=>if b=a then some (.N9 {cls:=.type "list",data:=.seq vs.toArray} (.lst (ns.map V.int)))else none) (λb=>?_) (.inl (.inr ⟨{cls:=.type "list",data:=.seq vs.toArray},iP rfl⟩)) (λb u z=>?_) (λb z=>?_) λ_=>hk
   . by_cases hb:b=a
     . exact .inr ⟨_,_,iP hb⟩
     . exact .inl (iN hb)
   . by_cases hb:b=a
     . have z':=(iP hb).symm.trans z;cases z';subst hb;exact⟨ha,by rw[lM];exact hl,vs,_,rv,ha⟩
     . have z':=(iN hb).symm.trans z;cases z'
   . by_cases hb:b=a
     . exact hb
     . exact absurd (iN hb) z
theorem RO{l:PySem.W.OpenLaw}{n k:Nat}{q:Program}{loose:List Str}{XP:(Str->Option Value)->Heap->Prop}{YP:World->Heap->Prop}{d:DefRec}{K:Params->PySem.W.Frag}{CX:World->Ux}{sp:World->Sp}{x:Str}
 (hn:l.most=some n)(hn2:n<=sizeLine)(hdf:d.params.defaults=[])(hr:Cw k callerA)
 (hY:∀(w:World) (h:Heap),YP w h->(K w.params).In h)
 (F:∀(w:World) (mg:Str->Option Value) (fa:Addr) (h:Heap),(K w.params).In h->h.Ns mainGlobals mg->mg d.name=some (.ref fa)->
   ∃ fd:FuncData,(∀(s:Shared) (u:Value),BindsTo s fd ⟨[u],[]⟩ [(x,u)])/\
     ∀base:Heap,(K w.params).In base->base.Ns mainGlobals mg->E3 l.prog w (K w.params) mg base (CX w) k fa fd [x] (sp w))
 (hsp:∀(w:World) (H:Hp) (a:Addr) (ns:List Int),ns.length<=n->Uv H->Dt (K w.params) H a (ns.map V.int)->sp w [.ref a] H (λv _=>v= .bl true) λ_ _ _=>False)
 (hCX:∀(w:World) (H:Hp) (s:Shared) (e:Value) (s':Shared),CX w [] H s (λ_ _ _=>False) e s'->False):
 PySem.W.WalkO q loose XP YP l.row.toRowW d [] (λf vs=>PySem.call f vs):=by
 refine Att.Lg hn hdf λw s₀ s₁ mg mb fa o pm cd doc a vs ns G Y ho hd hcd hmg hobj hints hlen hg=>?_
 have KX:=hY w _ Y;obtain⟨fd,hb,hF⟩:=F w mg fa _ KX G.T.g hmg;exact Qp KX G.T.g G.T.b G.T.builtins G.T.nolimit hg hobj hints (Nat.le_trans hlen hn2) hr hF hb (λH hO hS=>hsp w H a ns hlen hO hS) λH e s'=>hCX w H s₁ e s'
noncomputable def inClass(s:Stmt)(j:Nat):Stmt:=match s with
 | .ClassDef _ _ _ body _ _ _ _ _ _ _=>body.getD j (.Pass ⟨0,0,0,0⟩)
 |_=>.Pass ⟨0,0,0,0⟩
noncomputable def JJ(s:Stmt):Arguments:=match s with
 | .FunctionDef _ a _ _ _ _ _ _ _ _=>a
 |_=>{posonlyargs:=[],args:=[],vararg:=none,kwonlyargs:=[],kw_defaults:=[],kwarg:=none,defaults:=[]}
def DW(s:Stmt):List Stmt:=match s with
 | .FunctionDef _ _ b _ _ _ _ _ _ _=>b
 |_=>[]
noncomputable def Bk(s:Stmt):Scope:=match s with
 | .FunctionDef _ _ _ _ _ _ sc _ _ _=>sc
 |_=>{kind:=.function,names:=[],isGenerator:=false,isCoroutine:=false}
abbrev RC:Ux:=λ_ _ _ _ _ _=>False
abbrev E0:XK:=λ_ _ _=>False
theorem Ih{X:Cx}:Passes RC X E0:=λ_ _ _ _ _ _ _ h=>h.elim
structure F5(K:PySem.W.Frag)(x qual:Str)(st:Stmt)(f:Addr)(fd:FuncData):Prop where
 ex:∃(oc:Value) (od:Option Addr) (kV doc pm:Value) (an:Option Addr) (cdv ct:Value) (osl:Array (Option Value)),
   fd=PySem.W.fnOf x qual (JJ st) (DW st) (Bk st) .none kV doc pm an cdv ct/\K.lookup f=some ⟨oc,od,.func fd,osl⟩/\codeIn K cdv qual=true
 kp:keepIn K (.ref f)=true
section
variable{P:Program}{w:World}{K:PySem.W.Frag}{mg:Str->Option Value}{base:Heap}
variable{qual:Str}{fd:FuncData}{ps:List Str}
theorem F5.ok{st:Stmt}{N:List Str}{k:Nat}{sp:Sp}(F:F5 K x qual st f fd)(S:EC N ps (Bk st))(len:∀vs H Q E,sp vs H Q E->vs.length=ps.length)
 (hbody:∀(cdv:Value) (A:Around) (outer:List Env) (s:Shared) (H:Hp) (vs:List V) (Q:VK) (E:XK),Cw k (A.deeper (envOfC qual (Bk st) s.heap.objs.size f cdv))->sp vs H Q E->
  ∃t,Lm (L5 RC P w K mg base N qual (Bk st) f cdv A outer s H E).Xg (DW st) t/\t {nx:=λ_ H'=>Q .AG H',rt:=Q} (start N vs) H):E3 P w K mg base RC (k + 1) f fd ps sp:=by
 obtain⟨oc,od,kV,doc,pm,an,cdv,ct,osl,rfl,lk,hcd⟩:=F.ex;refine YK lk hcd S len λA outer s H vs Q E hr hsp=>?_
 obtain⟨t,h,q⟩:=hbody cdv A outer s H vs Q E hr hsp;exact⟨t,h.Xg,q⟩
theorem F5.binds{st:Stmt}(F:F5 K x qual st f fd)
 (h:∀(kV doc pm:Value) (an:Option Addr) (cdv ct:Value) (us:List Value),us.length=ps.length->bindArgs (PySem.W.fnOf x qual (JJ st) (DW st) (Bk st) .none kV doc pm an cdv ct) ⟨us,[]⟩=pure (ps.zip us)):Binds K fd ps []:=by
 obtain⟨oc,od,kV,doc,pm,an,cdv,ct,osl,rfl,lk,hcd⟩:=F.ex;exact .all (h kV doc pm an cdv ct)
end
variable{X:Cx}
theorem Tw{A B:Prop}(h:B):if false=true then A else B:=by
 rw[iN Bool.false_ne_true];exact h
theorem Tv{A B:Prop}(h:A):if true=true then A else B:=by
 rw[iP rfl];exact h
def Di(H H':Hp):Prop:=∀b o,H b=some o->H' b=some o
theorem Di.refl(H:Hp):Di H H:=λ_ _ h=>h
noncomputable def Lb(cells:List (Str×Addr)):List (Str×NameKind)->List (Str×Addr)->List (Str×Addr)
 |[],cs=>cs
 |(n,k)::r,cs=>if(k == NameKind.free)=true then Lb cells r ((n,(cells.lookup n).getD 0)::cs)else Lb cells r cs
variable{env:Env}
theorem Nt:∀(l:List (Str×NameKind)) (cs:List (Str×Addr)),(∀x∈l,x.2= .free->∃c,env.cells.lookup x.1=some c)->
 (forIn l cs (λ(x:Str×NameKind) (r:List (Str×Addr))=>(match x with|(name,kind)=>if(kind == NameKind.free)=true then(do let a <-cellOf env name;pure (ForInStep.yield ((name,a)::r)))else pure (ForInStep.yield r):Sem _)))=(pure (Lb env.cells l cs):Sem _)
 |[],cs,_=>by simp[Lb]
 | (n, k)::r,cs,h=>by
   have ih:=λcs'=>Nt r cs' λx hx=>h x (mC hx)
   rw[forIn_cons]
   by_cases hk:k= .free
   . subst hk;obtain⟨c,e⟩:=h (n,.free) mS rfl
     have hb:(if(NameKind.free == NameKind.free)=true then(do let a <-cellOf env n;pure (ForInStep.yield ((n,a)::cs)))else pure (ForInStep.yield cs):Sem (ForInStep (List (Str×Addr))))=pure (ForInStep.yield ((n,c)::cs)):=by
      have e:env.cells.lookup n=some c:=e;rw[iP (by rfl)];unfold cellOf;rw[e];exact pure_bind _ _
     show((if(NameKind.free == NameKind.free)=true then(do let a <-cellOf env n;pure (ForInStep.yield ((n,a)::cs)))else pure (ForInStep.yield cs):Sem (ForInStep (List (Str×Addr)))) >>= _)=_;rw[hb,pure_bind];refine(ih _).trans ?_;have e:env.cells.lookup n=some c:=e;show _=pure (if(NameKind.free == NameKind.free)=true then Lb env.cells r ((n,(env.cells.lookup n).getD 0)::cs)else Lb env.cells r cs);rw[iP (by rfl),e];rfl
   . have hb:(k == NameKind.free)=false:=by simpa using hk
     show((if(k == NameKind.free)=true then(do let a <-cellOf env n;pure (ForInStep.yield ((n,a)::cs)))else pure (ForInStep.yield cs):Sem (ForInStep (List (Str×Addr)))) >>= _)=_;rw[iN (by rw[hb];decide),pure_bind];refine(ih _).trans ?_;show _=pure (if(k == NameKind.free)=true then Lb env.cells r ((n,(env.cells.lookup n).getD 0)::cs)else Lb env.cells r cs);rw[iN (by rw[hb];decide)]
theorem El{scope:Scope}(h:∀x∈scope.names,x.2= .free->∃c,env.cells.lookup x.1=some c):closureFor scope env=pure (Lb env.cells scope.names []):=by
 unfold closureFor;have:=Nt (env:=env) scope.names [] h
 first
  |(simp only[bind_pure];exact this)
  |(rw[show(forIn scope.names ([]:List (Str×Addr)) _:Sem _)=_ from this];rfl)
theorem HJ{cells:List (Str×Addr)}{c:Addr}:∀(l:List (Str×NameKind)) (cs:List (Str×Addr)),(∀y∈l,y.2= .free->∃c,cells.lookup y.1=some c)->(∀y d,cs.lookup y=some d->cells.lookup y=some d)->
 (Lb cells l cs).lookup x=some c->cells.lookup x=some c
 |[],cs,_,hc,e=>hc x c e
 | (n, k)::r,cs,hl,hc,e=>by
   have hl':∀y∈r,y.2= .free->∃c,cells.lookup y.1=some c:=λy hy=>hl y (mC hy)
   unfold Lb at e
   by_cases hk:(k == NameKind.free)=true
   . rw[iP hk]at e;refine HJ r _ hl' (λy d q=>?_) e;obtain⟨d',e'⟩:=hl (n,k) mS (by simpa using hk);rw[lookup_cons]at q;cases hy:y == n with
     | true=>
       rw[hy]at q;have:y=n:=by simpa using hy
       subst this;dsimp only at e';rw[e']at q ⊢;exact q
     |false=>rw[hy]at q;exact hc y d q
   . rw[iN hk]at e;exact HJ r cs hl' hc e
theorem GF{cells:List (Str×Addr)}{x:Str}:∀(l:List (Str×NameKind)) (cs:List (Str×Addr)),((∃y∈l,y.1=x/\y.2= .free)\/∃c,cs.lookup x=some c)->∃c,(Lb cells l cs).lookup x=some c
 | [],cs,h=>by
   rcases h with⟨y,hy,_⟩|h
   . simp at hy
   . exact h
 | (n, k)::r,cs,h=>by
   unfold Lb
   by_cases hk:(k == NameKind.free)=true
   . rw [iP hk];refine GF r _ ?_;rcases h with⟨y,hy,e1,e2⟩|⟨c,h⟩
     . rcases mK hy with q|q
       . refine .inr ?_;subst q;have e1:n=x:=e1;subst e1;exact⟨_,by rw[lookup_cons];simp;rfl⟩
       . exact .inl ⟨y,q,e1,e2⟩
     . refine .inr ?_;rw[lookup_cons];cases hy:x == n with
       |true=>exact⟨_,rfl⟩
       |false=>exact⟨c,h⟩
   . rw [iN hk];refine GF r cs ?_;rcases h with⟨y,hy,e1,e2⟩|h
     . rcases mK hy with q|q
       . subst q;have e2:k= .free:=e2;subst e2;exact absurd rfl hk
       . exact .inl ⟨y,q,e1,e2⟩
     . exact .inr h
noncomputable def Bc(X:Cx)(N:List Str)(scope:Scope)(C:Addr)(s:Shared)(H:Hp)(fp:List Addr):Cx where
 prog:=X.prog
 w:=X.w
 K:=X.K
 mg:=X.mg
 base:=X.base
 A:=X.A
 N:=N
 s₀:=s
 H₀:=H
 env:=compEnvC scope (Lb X.env.cells scope.names []) C X.env
 outer:=X.stack
 stack:=X.stack
 ex:=fp
 calm:=X.calm
 fn:=λ_=>false
 pn:=[]
 xe:=λ_ _=>False
def CA(fr:List (Option Nat))(σ:St):St:=fr.map λo=>o.bind λi=>(σ[i]?).join
noncomputable def Mn(N0:List Str)(sc0:Scope)(N:List Str)(scope:Scope)(fr:List (Option Nat)):Bool:=
 (scope.kind == .function) && scope.names.all (λy=>y.2 != .cell) && scope.names.all (λy=>y.2 != .local || scope.names.lookup y.1 == some .local) &&
 scope.names.all (λy=>y.2 != .free || sc0.names.lookup y.1 == some .cell || sc0.names.lookup y.1 == some .free) && (fr.length == N.length) &&
 (List.range fr.length).all λj=>match fr[j]? with
  |some (some i)=>(N[j]? == N0[i]?) && (match N[j]? with|some x=>scope.names.lookup x == some .free|none=>false)
  |_=>true
structure E4(N0:List Str)(sc0:Scope)(N:List Str)(scope:Scope)(fr:List (Option Nat)):Prop where
 kind:scope.kind= .function
 Jf:∀y∈scope.names,y.2≠.cell
 own:∀y∈scope.names,y.2= .local->scope.names.lookup y.1=some .local
 free:∀y∈scope.names,y.2= .free->sc0.names.lookup y.1=some .cell\/sc0.names.lookup y.1=some .free
 len:fr.length=N.length
 TR:∀(j i:Nat),fr[j]? =some (some i)->∃x,N[j]? =some x/\N0[i]? =some x/\scope.names.lookup x=some .free
theorem E4.of{N0:List Str}{sc0:Scope}{N:List Str}{scope:Scope}{fr:List (Option Nat)}(h:Mn N0 sc0 N scope fr=true):E4 N0 sc0 N scope fr:=by
 unfold Mn at h;simp only[bA,all_eq_true]at h;obtain⟨⟨⟨⟨⟨h1,h2⟩,h3⟩,h4⟩,h5⟩,h6⟩:=h;refine⟨by simpa using h1,λy hy=>by simpa using h2 y hy,λy hy e=>?_,λy hy e=>?_,by simpa using h5,λj i e=>?_⟩
 . have:=h3 y hy;simp[e]at this;exact this
 . have:=h4 y hy;simp[e]at this;exact this
 . have hj:j < fr.length:=(List.getElem?_eq_some_iff.mp e).1;have q:=h6 j (mem_range.mpr hj);rw[e]at q;dsimp only at q;rw[bA]at q;obtain⟨q1,q2⟩:=q;cases ex:N[j]? with
   |none=>rw[ex]at q2;cases q2
   | some x=>
     rw[ex]at q1 q2;exact⟨x,rfl,(by simpa using q1:some x=N0[i]?).symm,by simpa using q2⟩
theorem Ce{env:Env}:∀{names:List (Str×NameKind)} {x:Str},names.lookup x=some .free->
 (names.map λ(n,k)=>if(k == NameKind.free && env.scope.kind == .function && env.kindOf n == some .cell)then(n,NameKind.cell)else(n,k)).lookup x=some .free\/
 (names.map λ(n,k)=>if(k == NameKind.free && env.scope.kind == .function && env.kindOf n == some .cell)then(n,NameKind.cell)else(n,k)).lookup x=some .cell
 |[],_,h=>by simp at h
 | (n,k)::r,x,h=>by
   have ih:=@Ce env r x;show List.lookup x ((if(k == NameKind.free && env.scope.kind == .function && env.kindOf n == some .cell)=true then(n,NameKind.cell)else(n,k))::_)=_\/List.lookup x ((if(k == NameKind.free && env.scope.kind == .function && env.kindOf n == some .cell)=true then(n,NameKind.cell)else(n,k))::_)=_;cases hx:x == n with
   | true=>
     simp only[lookup_cons,hx]at h;cases h
     by_cases hc:(NameKind.free == NameKind.free && env.scope.kind == .function && env.kindOf n == some .cell)=true
     . rw[iP hc];right;rw[lookup_cons,hx]
     . rw[iN hc];left;rw[lookup_cons,hx]
   | false=>
     simp only[lookup_cons,hx]at h
     by_cases hc:(k == NameKind.free && env.scope.kind == .function && env.kindOf n == some .cell)=true
     . rw[iP hc];simp only[lookup_cons,hx];exact ih h
     . rw[iN hc];simp only[lookup_cons,hx];exact ih h
theorem Fh{env:Env}:∀{names:List (Str×NameKind)} {x:Str},(∀y∈names,y.2≠.cell)->
 ((names.map λ(n,k)=>if(k == NameKind.free && env.scope.kind == .function && env.kindOf n == some .cell)then(n,NameKind.cell)else(n,k)).lookup x=some .cell\/
 (names.map λ(n,k)=>if(k == NameKind.free && env.scope.kind == .function && env.kindOf n == some .cell)then(n,NameKind.cell)else(n,k)).lookup x=some .free)->∃y∈names,y.1=x/\y.2= .free
 |[],_,_,h=>by simp at h
 | (n, k)::r,x,hn,h=>by
   have ih:=@Fh env r x λy hy=>hn y (mC hy)
   have hnk:k≠.cell:=hn (n,k) mS
   have h:List.lookup x ((if(k == NameKind.free && env.scope.kind == .function && env.kindOf n == some .cell)=true then(n,NameKind.cell)else(n,k))::(r.map λ(n,k)=>if(k == NameKind.free && env.scope.kind == .function && env.kindOf n == some .cell)then(n,NameKind.cell)else(n,k)))=some .cell\/
    List.lookup x ((if(k == NameKind.free && env.scope.kind == .function && env.kindOf n == some .cell)=true then(n,NameKind.cell)else(n,k))::(r.map λ(n,k)=>if(k == NameKind.free && env.scope.kind == .function && env.kindOf n == some .cell)then(n,NameKind.cell)else(n,k)))=some .free:=h
   by_cases hc:(k == NameKind.free && env.scope.kind == .function && env.kindOf n == some .cell)=true
   . rw [iP hc]at h;cases hx:x == n with
     | true=>
       have hk:k= .free:=by
        simp only[bA]at hc;simpa using hc.1.1
       exact⟨(n,k),mS,(by simpa using hx:x=n).symm,hk⟩
     | false=>
       simp only[lookup_cons,hx]at h;obtain⟨y,hy,q⟩:=ih h;exact⟨y,mC hy,q⟩
   . rw[iN hc]at h;cases hx:x == n with
     | true=>
       simp only[lookup_cons,hx,Option.some.injEq]at h;refine⟨(n,k),mS,(by simpa using hx:x=n).symm,?_⟩;rcases h with h|h
       . exact absurd h hnk
       . exact h
     | false=>
       simp only[lookup_cons,hx]at h;obtain⟨y,hy,q⟩:=ih h;exact⟨y,mC hy,q⟩
section
variable{pins:List (Addr×Obj)}{σ:St}{H:Hp}{s:Shared}{N:List Str}{scope:Scope}{fr:List (Option Nat)}{fp:List Addr}{C:Addr}
theorem Rg(I:Inv X pins σ H s)(ok:E4 X.N X.env.scope N scope fr)(hf:∀b∈fp,G6 X pins H b)(hfl:∀b∈fp,b < s.heap.objs.size){h1:Heap}{m:Str->Option Value}{tk:Nat}(hC:s.heap.objs.size<=C)(hns:h1.Ns C m)
 (k:∀b o,s.heap.get? b=some o->h1.get? b=some o):Inv (Bc X N scope C s H fp) [] (CA fr σ) H {s with heap:=h1,toks:=tk}:=by
 have hcl:∀y∈scope.names,y.2= .free->∃c,X.env.cells.lookup y.1=some c:=λy hy e=>I.ok.has y.1 (ok.free y hy e)
 have TR:∀{x:Str} {c:Addr},(Lb X.env.cells scope.names []).lookup x=some c->X.env.cells.lookup x=some c:=λ{x c} e=>HJ scope.names [] hcl (λy d q=>by simp at q) e
 refine⟨⟨I.ok.mod,ok.kind,I.ok.glob,I.ok.blt,hC,λx y c e1 e2=>I.ok.inj x y c (TR e1) (TR e2),λx hx=>?_,λx c hf' _=>?_,I.ok.hd,I.ok.frames,.inl rfl,λb hb=>⟨?_,λx c e=>?_⟩,I.bs,Nat.le_trans I.ok.Ul I.sz,λb o e hb=>?_,λb hb hs=>?_,I.stack,I.MB⟩,
  rfl,I.bare,Un.kept k,⟨m,hns,λj x v e1 e2 e3=>?_⟩,λx c e=>?_,I.Aj.fresh hC,λx c e=>I.EL x c (TR e),λp hp=>?_,I.Aj.kept k,?_⟩
 . obtain⟨y,hy,e1,e2⟩:=Fh (env:=X.env) ok.Jf hx;exact GF scope.names [] (.inl ⟨y,hy,e1,e2⟩)
 . exact absurd hf' (by show ¬(false=true);decide)
 . exact Nat.ne_of_lt (Nat.lt_of_lt_of_le (hfl b hb) hC)
 . exact(hf b hb).2.2.2.2.1 x c (TR e)
 . rcases(hf b hb).2.2.2.1 with z|z
   . exact I.ok.Qb b o e z
   . exact absurd (Nat.lt_of_lt_of_le (Heap.lt_size e) (Nat.le_trans I.ok.Ul z)) (Nat.lt_irrefl _)
 . rcases mK (I.IZ b hs)with e|e
   . exact(hf b hb).2.1 e
   . exact(hf b hb).2.2.1 e
 . have e2:(fr.map λo=>o.bind λi=>(σ[i]?).join)[j]? =some (some v):=e2;rw[List.getElem?_map]at e2;cases ef:fr[j]? with
   |none=>rw[ef]at e2;cases e2
   | some o=>
     rw[ef]at e2;have e2:(o.bind λi=>(σ[i]?).join)=some v:=Option.some.inj e2;cases o with
     |none=>cases e2
     | some i=>
       have e2:(σ[i]?).join=some v:=e2
       have eσ:σ[i]? =some (some v):=by
        cases q:σ[i]? with
        |none=>rw[q]at e2;cases e2
        |some z=>rw[q]at e2;exact congrArg some e2
       obtain⟨x',n1,n2,fx⟩:=ok.TR j i ef;have:x'=x:=Option.some.inj (n1.symm.trans e1);subst this;have hsc:=ok.free _ (PySem.mem_of_lookup fx) rfl;obtain⟨m0,hn0,hl0⟩:=I.loc;obtain⟨u,r,l⟩:=hl0 i x' v n2 eσ (by rcases hsc with z|z;exact .inr (.inl z);exact .inr (.inr z));refine⟨u,r,?_⟩;rcases l with⟨q,_⟩|⟨_,c,ec,⟨oc,hoc,hod⟩⟩
       . have q:X.env.scope.names.lookup x'=some .local:=q;rcases hsc with z|z
         . rw[z]at q;cases q
         . rw[z]at q;cases q
       . obtain⟨c',e'⟩:=GF (cells:=X.env.cells) scope.names [] (.inl ⟨_,PySem.mem_of_lookup fx,rfl,rfl⟩);have:c'=c:=Option.some.inj ((TR e').symm.trans ec);subst this;refine .inr ⟨?_,c',e',oc,k _ _ hoc,hod⟩;rcases Ce (env:=X.env) fx with z|z
         . exact .inr z
         . exact .inl z
 . obtain⟨v,oc,hoc,hod⟩:=I.cell x c (TR e);exact⟨v,oc,k _ _ hoc,hod⟩
 . exact absurd (show p∈([]:List (Addr×Obj))from hp) (by simp)
 . unfold CA;rw[lM];exact ok.len
theorem Inv.XA{xs:List V}{its:List Value}{n:Nat}(I:Inv X pins σ H s)(hD:G6 X pins H D)(hz:xs.length<=sizeLine)(r:Vals xs its)(e:s.heap.get? D=some {cls:=.type "list",data:=.seq its.toArray n}):
 Inv X pins σ (upd H D (.lst xs)) s:=by
 have hn:=hD.1;have ne:∀b u,H b=some u->b≠D:=λb u q=>B1 q hn
 refine I.step (h':=s.heap) (g':=s.gens) (d':=s.drawn) (t':=s.toks) (ch:=[D]) (λb hb=>?_) (λb o _ _ _ q _=>q) (λb o _ _ _ q _=>⟨o.slots,q⟩) (λb o hb _ q=>?_) (λb o _ q=>⟨o,q⟩)
  (λb xs q=>by rw[Au (ne b _ q)];exact q) (λb o u q=>by rw[Au (ne b _ q)];exact q) (λb ps q=>⟨#[],by rw[Au (ne b _ q),q];simp⟩) (λm q=>q) (λb u q=>?_) I.bare
 . have:b=D:=by simpa using hb
   subst this;exact⟨hD.2.2.2.1,hD.2.1,hD.2.2.2.2.1,hD.2.2.2.2.2⟩
 . rw[Au (λz=>hb (by simp[z]))];exact q
 . by_cases hb:b=D
   . subst hb;rw[AH]at q;cases q;exact⟨hz,its,n,r,e⟩
   . rw[Au hb]at q;exact(I.Aj b u q).Lx (λc v _ z=>z) (λc z=>by rw[Au (ne c _ z)];exact z) λc xs z=>by rw[Au (ne c _ z)];exact z
def CompEnd(X:Cx)(pins:List (Addr×Obj))(σ:St)(Q:List V->Hp->Prop)(acc:Value)(C:Addr)(r:Result)(s':Shared):Prop:=
 r= .ok .next/\∃(D:Addr) (H':Hp) (xs:List V),acc= .ref D/\H' D=none/\Inv X pins σ (upd H' D (.lst xs)) s'/\(∃m,s'.heap.Ns C m)/\G6 X pins (upd H' D (.lst xs)) C/\Q xs H'
end
variable{prog:Program}{w:World}{A:Around}{R:Result->Shared->Prop}{s:Shared}
end L2
namespace PySem
open Sem (wp)
open AutoSeq1 (wpAny_loadPart')
namespace RV
theorem NP:Slot "reversed" "__init__" "object.__init__":=
 .of (owner:="object") (n:="__init__") (by rw[typeLookup_type,builtinLookup_eq_fast];kernel_rfl) (by decide +kernel) (by decide +kernel) (by decide +kernel)
  (by first|exact .inl (by decide +kernel)|exact .inr (by decide +kernel)) (by rw[isSubtype_type];kernel_rfl)
theorem Mo:TypeCalled "reversed" "reversed.__new__" "object.__init__":=
 ⟨by decide +kernel,by decide +kernel,⟨_,_,F.mro_reversed⟩,F.made_reversed,by decide +kernel,F.sub_reversed_self,NP⟩
theorem K7:typeLookup (.type "tuple") "__reversed__"=pure none:=by rw[typeLookup_type,builtinLookup_eq_fast];kernel_rfl
theorem IW:isSubtype (.type "tuple") (.type "dict")=pure false:=by rw[isSubtype_type];kernel_rfl
theorem slot_next:Slot "reversed" "__next__" "reversed.__next__":=
 .of (owner:="reversed") (n:="__next__") (by rw[typeLookup_type,builtinLookup_eq_fast];kernel_rfl) (by decide +kernel) (by decide +kernel) (by decide +kernel)
  (by first|exact .inl (by decide +kernel)|exact .inr (by decide +kernel)) (by rw[isSubtype_type];kernel_rfl)
theorem entry_next:entryFor table "reversed.__next__"=some Builtin.«reversed.__next__»:=entryFor_of_tree (by kernel_rfl)
theorem GX:Manifest.owners.lookup (String.ofList ['d','e','s','r','e','v','e','r'].reverse)=some Manifest.sig_reversed:=by kernel_rfl
theorem args_next(a:Value):argsOk "reversed.__next__" ⟨[a],[]⟩:=by
 unfold argsOk;rw[signature?_of (id:="reversed.__next__") (n:=['_','_','t','x','e','n','_','_']) (o:=['d','e','s','r','e','v','e','r']) (by kernel_rfl) GX];kernel_rfl
theorem Ia:Slot "reversed" "__iter__" "reversed.__iter__":=
 .of (owner:="reversed") (n:="__iter__") (by rw[typeLookup_type,builtinLookup_eq_fast];kernel_rfl) (by decide +kernel) (by decide +kernel) (by decide +kernel)
  (by first|exact .inl (by decide +kernel)|exact .inr (by decide +kernel)) (by rw[isSubtype_type];kernel_rfl)
theorem OB(a:Value):argsOk "reversed.__iter__" ⟨[a],[]⟩:=by
 unfold argsOk;rw[signature?_of (id:="reversed.__iter__") (n:=['_','_','r','e','t','i','_','_']) (o:=['d','e','s','r','e','v','e','r']) (by kernel_rfl) GX];kernel_rfl
theorem Mg:entryFor table "reversed.__iter__"=some Builtin.«dict_keyiterator.__iter__»:=
 entryFor_alias (id':="dict_keyiterator.__iter__") (by kernel_rfl) (by first|rfl|decide +kernel|(unfold String.splitOn;simp +decide [String.splitOnAux])) (by decide +kernel) (by kernel_rfl)
theorem Es:Slot "reversed" "__length_hint__" "reversed.__length_hint__":=
 .of (owner:="reversed") (n:="__length_hint__") (by rw[typeLookup_type,builtinLookup_eq_fast];kernel_rfl) (by decide +kernel) (by decide +kernel) (by decide +kernel)
  (by first|exact .inl (by decide +kernel)|exact .inr (by decide +kernel)) (by rw[isSubtype_type];kernel_rfl)
theorem Hw:entryFor table "reversed.__length_hint__"=some Builtin.«reversed.__length_hint__»:=entryFor_of_tree (by kernel_rfl)
theorem IM(a:Value):argsOk "reversed.__length_hint__" ⟨[a],[]⟩:=by
 unfold argsOk;rw[signature?_of (id:="reversed.__length_hint__") (n:=['_','_','t','n','i','h','_','h','t','g','n','e','l','_','_']) (o:=['d','e','s','r','e','v','e','r']) (by kernel_rfl) GX];kernel_rfl
theorem Jg:typeLookup (.type "reversed") "__len__"=pure none:=by rw[typeLookup_type,builtinLookup_eq_fast];kernel_rfl
end RV
def D4(t:Addr)(i:Int):Obj:={cls:=.type "reversed",data:=.fields #[.ref t,rawInt i]}
open Sem (wp)
open AutoSeq1 (wpAny_loadPart')
open PyProof.Rows
variable{prog:Program}{w:World}{A:Around}{E:Value->Shared->Prop}{s:Shared}
theorem XN{i n:Nat}(h:i < n):seqIndex? (i:Int) n=some i:=by
 have hng:¬((i:Int) < 0):=by lia
 unfold seqIndex?;simp[hng,h]
theorem Vr{items:Array Value}(hz:(items.size:Int) < 2 ^ 63):
 Meets (Builtin.«reversed.__new__» ⟨[.type "reversed",.ref t],[]⟩) (λ_ R s=>IsTup s.heap t items/\∀tk,R (.ok (.ret (.ref s.heap.objs.size))) {s with heap:=s.heap.push (D4 t ((items.size:Int) - 1)),toks:=tk}):=
 .of_wp λprog w A R s h=>by
  obtain⟨ht,h⟩:=h;unfold Builtin.«reversed.__new__»;refine wB (wpAny_of_eq (newClass_reversed _) ?_)
  try dsimp only
  refine wB (wpAny_of_eq (a:=()) (by first|rfl|kernel_rfl) ?_);refine wB (wpAny_of_eq (a:=()) (by first|rfl|kernel_rfl) ?_)
  try dsimp only
  refine wB (wpAny_specialOf ht.typeIs RV.K7 ?_)
  try dsimp only
  refine wB ?_
  wp_delta
  refine wB (wpAny_isInstance (T:="tuple") (b:=false) ht.typeIs RV.IW ?_);refine wpAny_ite_split (λhab=>absurd hab (by decide)) (λ_=>?_);refine wB (wpAny_specialOf ht.typeIs F.slot_tuple_getitem.lookup ?_)
  try dsimp only
  refine wpAny_ite_split (λ_=>?_) (λhab=>absurd (by decide +kernel) hab);refine wP ?_;refine wpAny_ite_split (λhab=>absurd hab (by decide)) (λ_=>?_);refine wB (len_tuple ht hz ?_);refine wB (m:=asInt? _) (wP ?_)
  try dsimp only
  refine wB ?_;show wpAny _ _ (newObj (.type "reversed") (.fields #[.ref t,rawInt ((items.size:Int) - 1)])) _ _ _;refine wpAny_newObj_type ?_ (by size_fits);exact wP ⟨_,rfl,h _⟩
theorem Ud{items:Array Value}{Q:Value->Shared->Prop}(ht:IsTup s.heap t items)(hz:(items.size:Int) < 2 ^ 63)
 (h:∀tk,Q (.ref s.heap.objs.size) {s with heap:=s.heap.push (D4 t ((items.size:Int) - 1)),toks:=tk}):wpAny (model prog w) A (call (.type "reversed") [.ref t]) Q E s:=
 callType_new RV.Mo (by decide) (F.typeCall_reversed_1 _) (F.newCall_reversed_1 _) (λobj=>F.args_object_init_2 obj _) F.entry_reversed_new (Vr hz)
  ⟨ht,λtk=>⟨⟨_,Heap.get?_push_size _ rfl,rfl⟩,h tk⟩⟩
theorem Ca(hr:s.heap.get? r=some (D4 t i)):s.TypeIs (.ref r) "reversed":=⟨_,hr,rfl⟩
theorem MI{Q:Value->Shared->Prop}(hr:s.heap.get? r=some (D4 t i))(h:Q (.ref r) s):wpAny (model prog w) A (pyIter (.ref r)) Q E s:=by
 refine wpAny_pyIter_slot (Ca hr) RV.Ia (wpAny_call_entry RV.Ia (Ca hr) RV.Mg ?_ (RV.OB _));show wpAny _ _ (ret (.ref r)) _ _ s;exact wP ⟨_,rfl,"reversed",_,Ca hr,RV.slot_next.lookup,h⟩
theorem Sa{i:Nat}{items:Array Value}{x:Value}{Q:Option Value->Shared->Prop}(hr:s.heap.get? r=some (D4 t (i:Int)))(ht:IsTup s.heap t items)(hx:items[i]? =some x)(hz:(items.size:Int) < 2 ^ 63)
 (hQ:∀h' tk,h'.get? r=some (D4 t ((i:Int) - 1))->Heap.SameBut r s.heap h'->Q (some x) {s with heap:=h',toks:=tk}):wpAny (model prog w) A (pyNext (.ref r)) Q E s:=by
 have hi:i < items.size:=by
  rcases Nat.lt_or_ge i items.size with z|z
  . exact z
  . rw[Array.getElem?_eq_none z]at hx;cases hx
 unfold pyNext
 refine wB (wpAny_attempt (wpAny_callSpecial?_slot (name:=Str.ofString "__next__") (Ca hr) RV.slot_next
  (wpAny_call_entry RV.slot_next (Ca hr) RV.entry_next ?_ (RV.args_next _))))
 unfold Builtin.«reversed.__next__»;refine wB (wpAny_of_eq (a:=(Value.ref r,[])) rfl ?_)
 try dsimp only
 refine wB (wpAny_field hr rfl (x:=.ref t) rfl ?_);refine wB (wpAny_field hr rfl (x:=rawInt (i:Int)) rfl ?_);show wpAny _ _ (if(i:Int) < 0 then _ else _) _ _ s;rw[iN (by lia)];refine wB (wpAny_specialOf ht.typeIs F.slot_tuple_getitem.lookup ?_);refine wpAny_ite_split (λhab=>absurd hab (by decide)) (λ_=>?_);refine wB (wpAny_mkInt' ?_);refine wB (wpAny_attempt (PyProof.Rows.getItem_tuple (j:=i) (x:=x) (by exact ht) (by lia) (by lia) (XN hi) hx ?_))
 try dsimp only
 refine wB (wpAny_field (s:={s with toks:=_}) hr rfl (x:=rawInt (i:Int)) rfl ?_)
 try dsimp only
 refine wB (wpAny_setField hr rfl (by simp) ?_);refine wP ⟨x,rfl,wP (hQ _ _ ?_ (Heap.SameBut.update ..))⟩;exact Heap.get?_update_self _ hr rfl
theorem Vs{items:Array Value}{Q:Option Value->Shared->Prop}(hh:A.handled=none)(hr:s.heap.get? r=some (D4 t (-1)))
 (hQ:∀h' tk,Heap.ExtBut r s.heap h'->Q none {s with heap:=h',toks:=tk}):wpAny (model prog w) A (pyNext (.ref r)) Q E s:=by
 unfold pyNext
 refine wB (wpAny_attempt (wpAny_callSpecial?_slot (name:=Str.ofString "__next__") (Ca hr) RV.slot_next
  (wpAny_call_entry RV.slot_next (Ca hr) RV.entry_next ?_ (RV.args_next _))))
 unfold Builtin.«reversed.__next__»;refine wB (wpAny_of_eq (a:=(Value.ref r,[])) rfl ?_)
 try dsimp only
 refine wB (wpAny_field hr rfl (x:=.ref t) rfl ?_);refine wB (wpAny_field hr rfl (x:=rawInt (-1)) rfl ?_);show wpAny _ _ (if(-1:Int) < 0 then _ else _) _ _ s;rw[iP (by decide)];refine wB (wpAny_rule ?_);refine wB ?_
 wp_delta
 refine wB (wpAny_setField hr rfl (by simp) ?_);have hr2:=Heap.get?_update_self (Obj.mapFields λxs=>xs.setIfInBounds 1 (rawInt (-1))) hr rfl;refine wpAny_setField (s:={s with heap:=_}) hr2 rfl (by simp) ?_;refine wB ?_;show wpAny _ _ (newExc (.type "StopIteration") [] >>= _) _ _ _;refine wB ?_;simp only[newExc,newTuple];refine wB (wpAny_newObj_type ?_ (by size_fits));refine wB (m:=firstArgMember _ _) (wpAny_of_eq (a:=Value.none) (by first|rfl|(simp only[firstArgMember];rfl)) ?_);refine wpAny_newObj_type ?_ (by size_fits);simp only[raiseNew];refine wB (wpAny_handled ?_)
 first|rw[show A.in1.handled=none from hh]|rw[hh]
 refine wB (wP (wpAny_throw ?_));refine wB (wpAny_isInstance (T:="StopIteration") (b:=true) ⟨_,Heap.get?_push_size _ rfl,rfl⟩ isSubtype_stop ?_);refine wP (hQ _ _ ?_);refine Heap.ExtBut.push ?_ _;refine Heap.ExtBut.push ?_ _;intro b o hb e;exact(Heap.get?_update_other _ _ (Ne.symm hb)).trans ((Heap.get?_update_other _ _ (Ne.symm hb)).trans e)
theorem Sd{items:Array Value}{Q:Bool->Shared->Prop}(hr:s.heap.get? r=some (D4 t ((items.size:Int) - 1)))(ht:IsTup s.heap t items)(hz:items.size<=sizeLine)
 (h:∀b tk,Q b {s with toks:=tk}):wpAny (model prog w) A (Builtin.List.listLengthHint (.ref r)) Q E s:=by
 have hz':(items.size:Int) < 2 ^ 63:=by rw[sizeLine_eq]at hz;lia
 unfold Builtin.List.listLengthHint;refine wB (wpAny_specialOf (Ca hr) RV.Jg ?_)
 try dsimp only
 refine wpAny_ite_split (λhab=>absurd hab (by decide +kernel)) (λ_=>?_);refine wpAny_ite_split (λhab=>absurd hab (by decide)) (λ_=>?_);refine wB (wpAny_specialOf (Ca hr) RV.Es.lookup ?_);generalize hid:("reversed.__length_hint__":String)=id0
 try dsimp only
 rw[show splitId id0=some ("reversed","__length_hint__")from by subst hid;decide +kernel];subst hid
 try dsimp only
 refine wB (wpAny_isInstance (T:="reversed") (b:=true) (Ca hr) F.sub_reversed_self ?_);refine wpAny_ite_split (λhab=>absurd hab (by decide)) (λ_=>?_);refine wpAny_ite_split (λhab=>absurd hab (by decide +kernel)) (λ_=>?_);refine wB (wpAny_rule ?_);refine wB (wpAny_of_eq (RV.Es.bind _) ?_)
 try dsimp only
 refine wB (wpAny_attempt (wpAny_call_entry RV.Es (Ca hr) RV.Hw ?_ (RV.IM _)));unfold Builtin.«reversed.__length_hint__»;refine wB (wpAny_of_eq (a:=Value.ref r) rfl ?_);refine wB (wpAny_field hr rfl (x:=.ref t) rfl ?_);refine wpAny_ite_split (λhab=>absurd hab (by intro z;cases z)) (λ_=>?_);refine wB (len_tuple ht hz' ?_);refine wB (m:=asInt? _) (wP ?_)
 try dsimp only
 refine wB (wpAny_field (s:={s with toks:=_}) hr rfl (x:=rawInt ((items.size:Int) - 1)) rfl ?_);show wpAny _ _ (if(items.size:Int) < (items.size:Int) - 1 + 1 then _ else _) _ _ _;rw[iN (by lia)];refine wB (wpAny_mkInt' (wP ⟨_,rfl,?_⟩))
 try dsimp only
 refine wB (m:=asInt? _) (wP ?_)
 try dsimp only
 have e1:(items.size:Int) - 1 + 1=(items.size:Int):=by lia
 rw[e1]
 have hfit:Builtin.List.listFitsIndex (items.size:Int)=true:=by
  have h2:(-(2 ^ 63):Int)<=(items.size:Int):=by lia
  simp only[Builtin.List.listFitsIndex,bA,decide_eq_true_eq];exact⟨h2,hz'⟩
 have hneg:¬((items.size:Int) < 0):=by lia
 have hlong:Builtin.List.listTooLong ((items.size:Int).toNat)=false:=by
  rw[Int.toNat_natCast];unfold Builtin.List.listTooLong;exact dF (by lia)
 simp only[hfit,hneg,hlong,Bool.not_true,Bool.false_eq_true,if_false];exact wP (h _ _)
theorem Pm(hh:A.handled=none)(I t:Addr)(hne:t≠I)(items:Array Value)(hz:(items.size:Int) < 2 ^ 63):
 Walks prog w A I [I,t] [I] items.size (λi v=>items[items.size - 1 - i]? =some v) (λi h=>i<=items.size/\h.get? I=some (D4 t ((items.size:Int) - 1 - (i:Int)))/\IsTup h t items) where
 sub:=λb hb=>by simp at hb;simp[hb]
 frame:=λ_ _ _ x hk=>⟨x.1,hk I (by simp) _ x.2.1,let⟨o,ho,q⟩:=x.2.2;⟨o,hk t (by simp) o ho,q⟩⟩
 item:=λi s Q E hi x hQ=>by
  have e:(items.size:Int) - 1 - (i:Int)=((items.size - 1 - i:Nat):Int):=by lia
  have hit:=x.2.1;rw[e]at hit;have hx:items[items.size - 1 - i]? =some (items[items.size - 1 - i]'(by lia)):=Array.getElem?_eq_getElem (by lia);refine Sa hit x.2.2 hx hz λh' tk hit' hs'=>?_
  have e2:((items.size - 1 - i:Nat):Int) - 1=(items.size:Int) - 1 - ((i + 1:Nat):Int):=by lia
  rw[e2]at hit';exact hQ _ h' tk hx ⟨hi,hit',x.2.2.extBut hs'.extBut hne⟩ λb o hb eo=>hs'.extBut b o (λh=>hb (by simp[h])) eo
 done:=λs Q E x hQ=>by
  have e:(items.size:Int) - 1 - (items.size:Int)= -1:=by lia
  have hit:=x.2.1;rw[e]at hit;exact Vs (items:=items) hh hit λh' tk he'=>hQ h' tk λb o hb eo=>he' b o (λh=>hb (by simp[h])) eo
 self:=λ_ _ _ _ x hQ=>MI x.2.1 hQ
variable{R:Result->Shared->Prop}
theorem NS{items:Array Value}(hh:A.handled=none)(hr:s.heap.get? r=some (D4 t ((items.size:Int) - 1)))(ht:IsTup s.heap t items)(hz:items.size<=sizeLine)(hrt:t≠r)(S:Addr)(hSr:S≠r)(hSt:S≠t)(res:Value)(c₀:Nat)
 (hS:s.heap.get? S=some {cls:=.type "list",data:=.seq #[] c₀})
 (hR:∀h' tk acc' c',(∀b o,b≠S->b≠r->s.heap.get? b=some o->h'.get? b=some o)->h'.get? S=some {cls:=.type "list",dict:=none,data:=.seq acc' c',slots:=#[]}->ItemsOf (λi v=>items[items.size - 1 - i]? =some v) acc' items.size->R (.ok (.ret res)) {s with heap:=h',toks:=tk}):
 wpAny (model prog w) A.in1 (Builtin.List.listExtendWith (.ref S) (.ref r) res)
  (λfin s'=>match fin with| .done f=>R (.ok f) s'| .again c'=>c'.quiet=true/\codeAny (model prog w) A c' R s') (λe s'=>R (.error e) s') s:=by
 have hz':(items.size:Int) < 2 ^ 63:=by rw[sizeLine_eq]at hz;lia
 have hSf:S∉[r,t]:=by simp only[mem_cons,not_mem_nil,or_false,not_or];exact⟨hSr,hSt⟩
 have W:=Pm (prog:=prog) (w:=w) (A:=A.in1) hh r t hrt items hz'
 have key:∀(h:Heap) (c₁ tk:Nat),(h.get? r=some (D4 t ((items.size:Int) - 1))/\IsTup h t items)->(∀b o,b≠S->s.heap.get? b=some o->h.get? b=some o)->
  h.get? S=some {cls:=.type "list",data:=.seq #[] c₁}->codeAny (model prog w) A (.builtin "list.extend.loop" ⟨[.ref S,.ref r,res],[]⟩) R {s with heap:=h,toks:=tk}:=by
  intro h c₁ tk hst hk hS₁;refine codeAny_extend_loopS W.toS hz S hSf res items.size 0 _ #[] c₁ rfl (Nat.zero_le _) ⟨Nat.zero_le _,by simpa using hst.1,hst.2⟩ hS₁ (ItemsOf.nil _) λs' acc' c' hm hS' hacc=>?_
  have hb0:=λb o (hb:b≠S) (hb2:b≠r) (e:s.heap.get? b=some o)=>hm.heap b o (λhmem=>by
   rcases mK hmem with e'|hmem
   . exact hb e'
   . exact hb2 (mE hmem)) (hk b o hb e)
  rw[Moved.eq_with hm];exact hR s'.heap s'.toks acc' c' hb0 hS' hacc
 unfold Builtin.List.listExtendWith;refine wB (wpAny_typeOf (T:="reversed") (Ca hr) ?_);have h1:Builtin.List.listSameRef (.ref S) (.ref r)=false:=by simp[Builtin.List.listSameRef,hSr]
 have h2:(Value.type "reversed" == Value.type "list")=false:=by decide
 have h3:(Value.type "reversed" == Value.type "tuple")=false:=by decide
 simp only[h1,h2,h3,Bool.or_false,Bool.false_eq_true,if_false];refine wB (MI hr ?_);refine wB (wpAny_holding (Sd hr ht hz λb tk=>?_));refine wpAny_ite_split (λ_=>?_) (λ_=>wP ⟨plainId_quiet PySem.F.plain_extend_loop _,key _ c₀ _ ⟨hr,ht⟩ (λb o _ e=>e) hS⟩);refine wB (wpAny_rule ?_);refine wB ?_;show wpAny _ _ (updateSeq S (·.push .none) >>= λ_=>updateSeq S (·.pop)) _ _ _;refine wB (wpAny_updateSeq hS rfl ?_);have hS₂:=Heap.get?_update_self (Obj.mapSeq (·.push Value.none)) hS rfl;refine wpAny_updateSeq (hz:=by seq_fits) hS₂ rfl ?_;have hS₃:=Heap.get?_update_self (Obj.mapSeq (·.pop)) hS₂ rfl
 have oth:∀b o,b≠S->s.heap.get? b=some o->((s.heap.update S (Obj.mapSeq (·.push Value.none))).update S (Obj.mapSeq (·.pop))).get? b=some o:=λb o hb e=>
  (Heap.get?_update_other _ _ (Ne.symm hb)).trans ((Heap.get?_update_other _ _ (Ne.symm hb)).trans e)
 refine wP ⟨plainId_quiet PySem.F.plain_extend_loop _,key _ _ _ ⟨oth _ _ (Ne.symm hSr) hr,?_⟩ oth hS₃⟩;obtain⟨o,ho,q⟩:=ht;exact⟨o,oth _ _ (Ne.symm hSt) ho,q⟩
theorem Sb{items:Array Value}(hh:A.handled=none)(hr:s.heap.get? r=some (D4 t ((items.size:Int) - 1)))(ht:IsTup s.heap t items)(hz:items.size<=sizeLine)(hrt:t≠r)(S:Addr)(hSr:S≠r)(hSt:S≠t)
 (hS:s.heap.get? S=some {cls:=.type "list",data:=.seq #[]})
 (hR:∀h' tk acc' c',(∀b o,b≠S->b≠r->s.heap.get? b=some o->h'.get? b=some o)->h'.get? S=some {cls:=.type "list",dict:=none,data:=.seq acc' c',slots:=#[]}->ItemsOf (λi v=>items[items.size - 1 - i]? =some v) acc' items.size->R (.ok (.ret .none)) {s with heap:=h',toks:=tk}):
 wpAny (model prog w) A.in1 (Builtin.«list.__init__» ⟨[.ref S,.ref r],[]⟩)
  (λfin s'=>match fin with| .done f=>R (.ok f) s'| .again c'=>c'.quiet=true/\codeAny (model prog w) A c' R s') (λe s'=>R (.error e) s') s:=by
 show wpAny _ _ (do let old <-Builtin.List.listItems (.ref S);Builtin.List.listUpdate (.ref S) (λ_=>#[]);letGo old.toList.reverse;Builtin.List.listExtendWith (.ref S) (.ref r) .none) _ _ s;refine wB ?_;unfold Builtin.List.listItems;refine wB (wpAny_seqItems hS rfl (wP ?_));show wpAny _ _ (updateSeq S (λ_=>#[]) >>= λ_=>letGo (#[]:Array Value).toList.reverse >>= λ_=>Builtin.List.listExtendWith (.ref S) (.ref r) .none) _ _ s;refine wB (wpAny_updateSeq hS rfl ?_);have hS₂:=Heap.get?_update_self (Obj.mapSeq (λ_=>(#[]:Array Value))) hS rfl
 have oth:∀b o,b≠S->s.heap.get? b=some o->(s.heap.update S (Obj.mapSeq (λ_=>(#[]:Array Value)))).get? b=some o:=
  λb o hb e=>(Heap.get?_update_other _ _ (Ne.symm hb)).trans e
 refine wB (wpAny_letGo ?_);refine NS (s:={s with heap:=_}) hh (oth _ _ (Ne.symm hSr) hr) (let⟨o,ho,q⟩:=ht;⟨o,oth _ _ (Ne.symm hSt) ho,q⟩) hz hrt S hSr hSt .none _ hS₂ (λh' tk acc' c' hk hS' hacc=>?_);exact hR h' tk acc' c' (λb o hb hb2 e=>hk b o hb hb2 (oth b o hb e)) hS' hacc
theorem S9{Q:Value->Shared->Prop}{items:Array Value}(hh:A.handled=none)(hr:s.heap.get? r=some (D4 t ((items.size:Int) - 1)))(ht:IsTup s.heap t items)(hz:items.size<=sizeLine)(hrt:t≠r)
 (hQ:∀h' tk acc' c',(∀b o,b≠r->s.heap.get? b=some o->h'.get? b=some o)->h'.get? s.heap.objs.size=some {cls:=.type "list",dict:=none,data:=.seq acc' c',slots:=#[]}->ItemsOf (λi v=>items[items.size - 1 - i]? =some v) acc' items.size->Q (.ref s.heap.objs.size) {s with heap:=h',toks:=tk}):
 wpAny (model prog w) A (call (.type "list") [.ref r]) Q E s:=by
 refine callType_codes (Q₁:=λobj s₁=>obj= .ref s.heap.objs.size/\s₁={s with heap:=s.heap.push {cls:=.type "list",data:=.seq #[]}}) PySem.F.called_list (PySem.F.typeCall_list_1 _) PySem.F.entry_list_init
  (code_list_new _ ⟨rfl,rfl⟩) λobj s₁ h₁=>?_
 obtain⟨rfl,rfl⟩:=h₁;have hS:(s.heap.push {cls:=.type "list",data:=.seq #[]}).get? s.heap.objs.size=some {cls:=.type "list",data:=.seq #[]}:=Heap.get?_push_size _ rfl;have lt1:=Heap.lt_size hr;have lt2:t < s.heap.objs.size:=let⟨o,ho,_⟩:=ht;Heap.lt_size ho;refine⟨⟨_,hS,rfl⟩,PySem.F.args_list_init_2 _ _,Sb (A:=A.in1) (s:={s with heap:=_}) hh (gP hr) (let⟨o,ho,q⟩:=ht;⟨o,gP ho,q⟩) hz hrt _ (Nat.ne_of_gt lt1) (Nat.ne_of_gt lt2) hS (λh' tk acc' c' hk hS' hacc=>?_)⟩;exact⟨rfl,hQ h' tk acc' c' (λb o hb e=>hk b o (Nat.ne_of_lt (Heap.lt_size e)) hb (gP e)) hS' hacc⟩
end PySem
namespace L2
open PySem PySem.Spec PyProof.Rows
section
variable{X:Cx}{tg e:Expr}{pos p p1 p2 p3:Pos}{ta te:TE}
noncomputable def bB(K:PySem.W.Frag)(a:Addr)(xs:List V):It:=
 ⟨λi H=>i < xs.length/\Dt K H a xs,λi H x H'=>H'=H/\xs[xs.length - 1 - i]? =some x,λi H=>xs.length<=i⟩
theorem OX{P:Program}{w:World}{K:PySem.W.Frag}{tg:Expr}(a it:Addr)(xs:List V):Turn P w K tg (bB K a xs) [it] it (λi h=>i<=xs.length/\h.IsRevIter it a ((xs.length:Int) - 1 - (i:Int))) where
 mem:=by simp
 obj:=λi h st b hb=>by
  have e:b=it:=by simpa using hb
  subst e;obtain⟨_,o,e,c,d⟩:=st;exact⟨o,e,λv z=>by rw[d]at z;cases z⟩
 keep:=λi h h' st k=>⟨st.1,st.2.at λo e=>k it (by simp) o e⟩
 item:=by
  intro X hP hw hK hc i pins s σ H E I hf st hg;subst hP hw hK;obtain⟨hi,hq⟩:=hg;obtain⟨its,rv,p,hz⟩:=I.list hq;have hlen:=rv.length;have hx:xs[xs.length - 1 - i]? =some (xs[xs.length - 1 - i]'(by lia)):=List.getElem?_eq_getElem (by lia);obtain⟨u,hu,ru⟩:=rv.get hx;obtain⟨f0,f1,f2,f3,f4,f5⟩:=hf it (by simp);have e1:(xs.length:Int) - 1 - (i:Int)=((xs.length - 1 - i:Nat):Int):=by lia
  have st2:=st.2;rw[e1]at st2;refine wpAny_pyNext_rev_item st2 p.isList (x:=u) (by simpa using hu) λh' st' sb=>?_
  have e2:((xs.length - 1 - i:Nat):Int) - 1=(xs.length:Int) - 1 - ((i + 1:Nat):Int):=by lia
  rw[e2]at st';have I1:Inv X pins σ H {s with heap:=h'}:=I.turned (t':=s.toks) (λb o hb e=>(sb.2 b hb).trans e) f0 f1 f3 f4 f5;obtain⟨o,e,c,d⟩:=id st';exact⟨u,rfl,Hm (s:={s with heap:=h'}) e c d (by decide) ⟨_,H,I1,ru,⟨rfl,hx⟩,⟨hi,st'⟩,λb hb=>(hf b hb).1⟩⟩
 done:=by
  intro X hP hw hK hc i pins s σ H E I hf st hg;subst hP hw hK;have hg:xs.length<=i:=hg;have hi:i=xs.length:=Nat.le_antisymm st.1 hg;obtain⟨f0,f1,f2,f3,f4,f5⟩:=hf it (by simp);have st2:=st.2;rw[show(xs.length:Int) - 1 - (i:Int)= -1 by lia]at st2;exact wpAny_pyNext_rev_end (I.ok.hd hc) st2 λh' eb=>⟨rfl,I.turned (t':=s.toks) (λb o hb e=>eb b o hb e) f0 f1 f3 f4 f5⟩
 self:=λ_ _ _ _ _ st h=>wpAny_pyIter_revIter st.2 h
noncomputable def b7(K:PySem.W.Frag)(tl:TE):TI:=λσ H R=>tl σ H λx H1=>∃a xs,x= .ref a/\Dt K H1 a xs/\R (bB K a xs) H1
theorem ay{tl:TE}(hg:Gl X "reversed")(hm:X.mg "reversed"=none)(hl:PE X l tl)(hs:starEach [l] X.env=[(false,eval l X.env)]:=by rfl):PI X tg (.Call (.Name "reversed" p) [l] [] pos) (b7 X.K tl):=by
 intro pins s σ H R I h;have h':D3 tl FO σ H (λvs H1=>match vs with|[x]=>(∃a xs,x= .ref a/\Dt X.K H1 a xs/\R (bB X.K a xs) H1)|_=>False):=h;refine Call_ (CT I hg hm boot_reversed (PyProof.Rows.callWith_type1 (BB (DT hl FU hs pos pins s σ H _ I h') λus s1 ⟨vs,H1,I1,r1,q1⟩=>?_) hs rfl))
 match vs,r1,q1 with
 | [x],r1,q1=>
   obtain⟨u,rfl,ru⟩:=vals1 r1;obtain⟨a,xs,rfl,hq,q⟩:=q1;cases ru;obtain⟨its,rv,pl,hz⟩:=I1.list hq;have hlen:=rv.length;refine call_reversed_list pl.isList ?_;have e0:(its.toArray.size:Int) - 1=(xs.length:Int) - 1:=by rw[size_toArray,hlen]
   rw[e0];have st:(s1.heap.push (revObj a ((xs.length:Int) - 1))).IsRevIter s1.heap.objs.size a ((xs.length:Int) - 1 - ((0:Nat):Int)):=⟨_,Heap.get?_push_size _ rfl,rfl,by simp[revObj]⟩;refine wpAny_pyIter_revIter st ?_;refine⟨s1.heap.objs.size,[s1.heap.objs.size],_,_,H1,rfl,I1.kept (t':=s1.toks) λb o e=>gP e,OX a _ xs,⟨Nat.zero_le _,st⟩,λb hb=>?_,q⟩;have e:b=s1.heap.objs.size:=by simpa using hb
   subst e;exact I1.Md (lR) (I1.Aj.fresh (lR))
noncomputable def ck(K:PySem.W.Frag)(ta:TE):TE:=λσ H Q=>ta σ H λx H1=>∃t xs,x= .ref t/\En K H1 t xs/\∀l,H1 l=none->Q (.ref l) (upd H1 l (.lst xs.reverse))
theorem LJ(hc:X.calm=true)(hg1:Gl X "list")(hm1:X.mg "list"=none)(hg2:Gl X "reversed")(hm2:X.mg "reversed"=none)(he:PE X e te)(hs2:starEach [e] X.env=[(false,eval e X.env)]:=by rfl)
 (hs1:starEach [.Call (.Name "reversed" p2) [e] [] p3] X.env=[(false,eval (.Call (.Name "reversed" p2) [e] [] p3) X.env)]:=by rfl):
 PE X (.Call (.Name "list" p1) [.Call (.Name "reversed" p2) [e] [] p3] [] pos) (ck X.K te):=by
 intro pins s σ H Q I h;refine wpAny_Call_Name_kw (CT I hg1 hm1 boot_list ?_ (by decide) (by decide));refine PyProof.Rows.callWith_type1 ?_ hs1 rfl;rw[hs1];show wpAny _ _ (spliced ((false,eval (.Call (.Name "reversed" p2) [e] [] p3) X.env)::backTo pos [])) _ _ s;refine Calls.spliced_cons ?_;refine wpAny_Call_Name_kw (CT I hg2 hm2 boot_reversed ?_ (by decide) (by decide));have h':D3 te FO σ H (λvs H1=>match vs with|[x]=>(∃t xs,x= .ref t/\En X.K H1 t xs/\∀l,H1 l=none->Q (.ref l) (upd H1 l (.lst xs.reverse)))|_=>False):=h;refine PyProof.Rows.callWith_type1 (BB (DT he FU hs2 p3 pins s σ H _ I h') λus s1 ⟨vs,H1,I1,r1,q1⟩=>?_) hs2 rfl
 match vs,r1,q1 with
 | [x],r1,q1=>
   obtain⟨u,rfl,ru⟩:=vals1 r1;obtain⟨t,xs,rfl,hq,q⟩:=q1;cases ru;obtain⟨its,rv,pl,hz⟩:=I1.tuple hq;have hlen:=rv.length;have hzs:its.toArray.size<=sizeLine:=by rw[size_toArray];lia
   refine Ud pl (by rw[size_toArray];have:=EU;lia) λtk=>?_
   refine Calls.spliced_nil ?_;have lt:t < s1.heap.objs.size:=let⟨o,ho,_⟩:=pl;Heap.lt_size ho;refine S9 (t:=t) (items:=its.toArray) (I1.ok.hd hc) (Heap.get?_push_size _ rfl) (let⟨o,ho,z⟩:=pl;⟨o,gP ho,z⟩) hzs (Nat.ne_of_lt lt) λh' tk' acc c' hk hS hacc=>?_
   have hD:s1.heap.objs.size<=(s1.heap.push (D4 t ((its.toArray.size:Int) - 1))).objs.size:=by rw[Heap.size_push];exact Nat.le_succ _
   have eacc:acc.toList=its.reverse:=by
    apply ext_getElem?;intro j;have hsz:acc.size=its.length:=by rw[hacc.1,size_toArray]
    by_cases hj:j < its.length
    . have ha:acc.toList[j]? =some (acc[j]'(by lia)):=by simp[hsz,hj]
      have hP:=hacc.2 j (acc[j]'(by lia)) (by simp[hsz,hj]);rw[ha,List.getElem?_reverse hj];have hP:its.toArray[its.toArray.size - 1 - j]? =some (acc[j]'(by lia)):=hP;rw[size_toArray,List.getElem?_toArray]at hP;rw[<-hP]
    . rw[List.getElem?_eq_none (by simp;lia),List.getElem?_eq_none (by simp;lia)]
   refine⟨.ref (s1.heap.push (D4 t ((its.toArray.size:Int) - 1))).objs.size,_,I1.laid (t':=tk') (o:=.lst xs.reverse) (λb o e=>hk b o (Nat.ne_of_lt (Heap.lt_size e)) (gP e)) hD ?_,rfl,q _ (I1.Aj.fresh hD)⟩;refine⟨by rw[length_reverse];exact hz,its.reverse,c',rv.reverse,?_⟩;rw[hS,<-eacc]
def ai:V->Option Int->Option Int->Hp->VK->Prop:=λx lo hi H Q=>∃y,x= .str y/\y.length<=sizeLine/\Q (.str (Txt.slice y lo hi)) H
theorem Pd:Xt X ai:=by
 intro pins s σ H x v vl vu lo hi sl Q I rx hs pl pu h;obtain⟨y,rfl,hz,q⟩:=h;obtain⟨t,rfl⟩:=rx;refine⟨"str",_,F.slot_str_getitem.lookup,typeIs_str _ _ _,?_⟩;have fin:∀t' k,EP X pins σ Q (.str (Txt.slice y lo hi) t') {s with toks:=k}:=λt' k=>⟨.str (Txt.slice y lo hi),H,I.tok k,⟨t',rfl⟩,q⟩
 obtain⟨o,h1,h2,h3⟩:=hs;cases pl with
 | none=>
   cases pu with
   |none=>exact wpAny_getItem_str_slice (l:=none) (u:=none) (st:=none) ⟨o,h1,h2,h3⟩ rfl (post_val_or_str ⟨Nat.le_trans (Txt.slice_le y _ _) hz,fin⟩)
   |int j u=>exact wpAny_getItem_str_slice (l:=none) (u:=some (j,u)) (st:=none) ⟨o,h1,h2,h3⟩ rfl (post_val_or_str ⟨Nat.le_trans (Txt.slice_le y _ _) hz,fin⟩)
 | int i u=>
   cases pu with
   |none=>exact wpAny_getItem_str_slice (l:=some (i,u)) (u:=none) (st:=none) ⟨o,h1,h2,h3⟩ rfl (post_val_or_str ⟨Nat.le_trans (Txt.slice_le y _ _) hz,fin⟩)
   |int j u'=>exact wpAny_getItem_str_slice (l:=some (i,u)) (u:=some (j,u')) (st:=none) ⟨o,h1,h2,h3⟩ rfl (post_val_or_str ⟨Nat.le_trans (Txt.slice_le y _ _) hz,fin⟩)
theorem Ld(hc:X.calm=true):B4 X (.builtin "all") (λxs H Q=>∃(l:Addr) (bs:List Bool),xs=[.ref l]/\Dt X.K H l (bs.map V.bl)/\Q (.bl (bs.all id)) H):=by
 intro pins s σ H xs us Q I r h;obtain⟨l,bs,rfl,hq,q⟩:=h;obtain⟨u,rfl,ru⟩:=vals1 r;cases ru;obtain⟨its,rv,pl,hz⟩:=I.list hq;have hlen:=rv.length;rw[lM]at hlen;refine call_all_walk (wpAny_pyIter_list pl.isList ?_);have lt:l < s.heap.objs.size:=Heap.lt_size pl.isList.choose_spec.1;refine⟨_,_,_,_,_,_,λi=>(bs[i]?).getD true,rfl,Walks.list (A:=X.A.in1) (show X.A.in1.handled=none from I.ok.hd hc) _ l (Nat.ne_of_lt lt) its.toArray,⟨⟨_,Heap.get?_push_size _ rfl,rfl,rfl⟩,pl.isList.at λo e=>gP e⟩,?_,λh' tk hk=>?_⟩
 . intro i v s' Q' E' hP hQ;have hP:its.toArray[i]? =some v:=hP;rw[List.getElem?_toArray]at hP
   have hi:i < bs.length:=by
    have:=(List.getElem?_eq_some_iff.mp hP).1
    lia
   have hb:(bs.map V.bl)[i]? =some (.bl bs[i]):=by rw[List.getElem?_map,List.getElem?_eq_getElem hi];rfl
   obtain⟨u,hu,ru⟩:=rv.get hb;have:u=v:=Option.some.inj (hu.symm.trans hP);subst this;cases ru;refine wpAny_truthy_bool ?_;have e:(bs[i]?).getD true=bs[i]:=by rw[List.getElem?_eq_getElem hi];rfl
   have hQ:Q' ((bs[i]?).getD true) s':=hQ;rw[e]at hQ;exact hQ
 . have e:(List.range its.toArray.size).all (λi=>(bs[i]?).getD true)=bs.all id:=by
    rw[size_toArray,<-hlen];rw[Bool.eq_iff_iff,all_eq_true,all_eq_true];constructor
    . intro h b hb;obtain⟨i,hi,e⟩:=List.mem_iff_getElem.mp hb;have:=h i (mem_range.mpr hi);rw[List.getElem?_eq_getElem hi,e]at this;exact this
    . intro h i hi;have hi:=mem_range.mp hi;have:=h bs[i] (getElem_mem hi);rw[List.getElem?_eq_getElem hi];exact this
   have ee:EP X pins σ Q (.bool (bs.all id)) {s with heap:=h',toks:=tk}:=by
    refine⟨.bl (bs.all id),H,I.kept (t':=tk) λb o e=>hk b o (λz=>?_) (gP e),rfl,q⟩;exact absurd (Heap.lt_size e) (by rw[mE z];exact Nat.lt_irrefl _)
   rw[e];exact ee
theorem G9{ns:List Int}:∀{n:Nat},n<=ns.length->preSum (λi=>(ns[i]?).getD 0) n=(ns.take n).sum
 |0,_=>by simp[preSum]
 | n + 1,h=>by
   have ih:=G9 (ns:=ns) (n:=n) (by lia);show preSum _ n + (ns[n]?).getD 0=_;rw[ih,List.take_succ,List.sum_append,List.getElem?_eq_getElem (by lia)];simp
theorem JN(hc:X.calm=true):B4 X (.builtin "sum") (λxs H Q=>∃(l:Addr) (ns:List Int),xs=[.ref l]/\Dt X.K H l (ns.map V.int)/\Q (.int ns.sum) H):=by
 intro pins s σ H xs us Q I r h;obtain⟨l,ns,rfl,hq,q⟩:=h;obtain⟨u,rfl,ru⟩:=vals1 r;cases ru;obtain⟨its,rv,pl,hz⟩:=I.list hq;have hlen:=rv.length;rw[lM]at hlen;refine call_sum_walkAnyS (wpAny_pyIter_list pl.isList ?_);have lt:l < s.heap.objs.size:=Heap.lt_size pl.isList.choose_spec.1;refine⟨_,_,_,_,_,_,_,λi=>(ns[i]?).getD 0,rfl,(Walks.list (A:=X.A.in1) (show X.A.in1.handled=none from I.ok.hd hc) _ l (Nat.ne_of_lt lt) its.toArray).toS,⟨⟨_,Heap.get?_push_size _ rfl,rfl,rfl⟩,pl.isList.at λo e=>gP e⟩,λb hb=>?_,λi v hP=>?_,λs' t' hm=>?_⟩
 . have hb:b=s.heap.objs.size\/b=l:=by simpa using hb
   show b < (s.heap.push _).objs.size;rw[Heap.size_push];rcases hb with rfl|rfl
   . exact Nat.lt_succ_self _
   . exact Nat.lt_succ_of_lt lt
 . have hP:its.toArray[i]? =some v:=hP;rw[List.getElem?_toArray]at hP
   have hi:i < ns.length:=by
    have:=(List.getElem?_eq_some_iff.mp hP).1
    lia
   have hb:(ns.map V.int)[i]? =some (.int ns[i]):=by rw[List.getElem?_map,List.getElem?_eq_getElem hi];rfl
   obtain⟨u,hu,ru⟩:=rv.get hb;have:u=v:=Option.some.inj (hu.symm.trans hP);subst this;obtain⟨t,e⟩:=ru;exact⟨t,by rw[e];show Value.int ns[i] t=Value.int ((ns[i]?).getD 0) t;rw[List.getElem?_eq_getElem hi];rfl⟩
 . rw[Moved.eq_with hm]
   have e:preSum (λi=>(ns[i]?).getD 0) its.toArray.size=ns.sum:=by
    rw[size_toArray,<-hlen,G9 (lR),take_length]
   rw[e];refine⟨.int ns.sum,H,I.kept (t':=s'.toks) λb o e=>hm.heap b o (λz=>?_) (gP e),⟨t',rfl⟩,q⟩;exact absurd (Heap.lt_size e) (by rw[mE z];exact Nat.lt_irrefl _)
end
variable{g:TG}{te:TE}{σ:St}{H:Hp}{Q:List V->Hp->Prop}{K:PySem.W.Frag}{a:Addr}{xs:List V}
end L2
namespace L2
open PySem PySem.Spec PyProof.Rows
section
variable{X:Cx}{tg e:Expr}{pos p p1 p2 p3:Pos}{ta te:TE}
def bC(lo c:Int)(n:Nat):It:=⟨λi _=>i < n,λi H x H'=>H'=H/\x= .int (lo + i * c),λi _=>n<=i⟩
theorem K5{P:Program}{w:World}{K:PySem.W.Frag}{tg:Expr}(it:Addr)(lo c:Int)(n:Nat):Turn P w K tg (bC lo c n) [it] it (λi h=>IsRangeIter h it (lo + (i:Nat) * c) ((n:Int) - (i:Nat)) c) where
 mem:=by simp
 obj :=λi h st b hb=>by
  have e:b=it:=by simpa using hb
  subst e
  exact⟨_,st,λv z=>by
   have z':Data.fields _=Data.cell v:=z
   cases z'⟩
 keep:=λi h h' st k=>k it (by simp) _ st
 item:=by
  intro X hP hw hK hc i pins s σ H E I hf st hg;subst hP hw hK;obtain⟨f0,f1,f2,f3,f4,f5⟩:=hf it (by simp);have W:=Walks.range (prog:=X.prog) (w:=X.w) (I.ok.hd hc) it lo c n;refine W.item i s _ _ hg st λv h' tk hv st' kk=>?_
  obtain⟨t,rfl⟩:=hv;have I1:Inv X pins σ H {s with heap:=h',toks:=tk}:=I.turned (λb o hb e=>kk b o (by simpa using hb) e) f0 f1 f3 f4 f5;exact⟨_,rfl,Hm (s:={s with heap:=h',toks:=tk}) (n:="range_iterator") st' rfl rfl (by decide) ⟨.int (lo + i * c),H,I1,⟨t,rfl⟩,⟨rfl,rfl⟩,st',λb hb=>(hf b hb).1⟩⟩
 done:=by
  intro X hP hw hK hc i pins s σ H E I hf st hg;subst hP hw hK;obtain⟨f0,f1,f2,f3,f4,f5⟩:=hf it (by simp);exact wpAny_pyNext_range_end (I.ok.hd hc) st (by have:n<=i:=hg;lia) λh' eb=>⟨rfl,I.turned (t':=s.toks) (λb o hb e=>eb b o hb e) f0 f1 f3 f4 f5⟩
 self:=λ_ _ _ _ _ st h=>wpAny_pyIter_rangeiter st h
noncomputable def YF(ta:TA):TI:=λσ H R=>ta σ H λvs H1=>∃(i j k:Int) (n:Nat),vs=[.int i,.int j,.int k]/\0 < k/\k < 1000000/\Builtin.Range.small i j k=true/\Builtin.Range.rangeSize i j k=n/\R (bC i k n) H1
theorem O3{a b c:Expr}{ta:TA}{p pos:Pos}(hg:Gl X "range")(hm:X.mg "range"=none)(ha:PA X [a,b,c] ta)(hs:starEach [a,b,c] X.env=[(false,eval a X.env),(false,eval b X.env),(false,eval c X.env)]:=by rfl)
 (hs2:starEach [b,c] X.env=[(false,eval b X.env),(false,eval c X.env)]:=by rfl):PI X tg (.Call (.Name "range" p) [a,b,c] [] pos) (YF ta):=by
 intro pins s σ H R I h;refine Call_ (CT I hg hm boot_range (PyProof.Rows.callWith_type1 (BB (ha pos pins s σ H _ I h) λus s1 ⟨vs,H1,I1,r1,q1⟩=>?_) (by rw[hs,hs2]) (by rw[hs2];rfl)));obtain⟨i,j,k,n,e,q1,q2,q3,q4,q⟩:=q1;subst e;cases r1 with
 | cons r rr=>
   cases rr with
   | cons r' rr=>
     cases rr with
     | cons r'' rr=>
       cases rr;obtain⟨t,rfl⟩:=r;obtain⟨t',rfl⟩:=r';obtain⟨t'',rfl⟩:=r'';refine call_range_3 (by lia) ?_ (.inl (PyProof.noPylong_small (by lia)));have I2:Inv X pins σ H1 {s1 with heap:=s1.heap.push {cls:=.type "range",data:=.fields #[.int i t,.int j t',.int k t'']}}:=I1.kept (t':=s1.toks) λb o e=>gP e
       refine wpAny_pyIter_range (IsRange.new ..) q3 ?_;refine⟨_,[(s1.heap.push {cls:=.type "range",data:=.fields #[.int i t,.int j t',.int k t'']}).objs.size],_,_,H1,rfl,I2.kept (t':=s1.toks) λb o e=>gP e,K5 _ i k n,?_,λb hb=>?_,q⟩
       . show IsRangeIter _ _ (i + ((0:Nat):Int) * k) ((n:Int) - ((0:Nat):Int)) k;rw[show i + ((0:Nat):Int) * k=i by simp,show(n:Int) - ((0:Nat):Int)=Builtin.Range.rangeSize i j k by rw[q4];simp];exact Heap.get?_push_size _ rfl
       . have e:b=(s1.heap.push {cls:=.type "range",data:=.fields #[.int i t,.int j t',.int k t'']}).objs.size:=by simpa using hb
         subst e;exact I2.Md (lR) (I2.Aj.fresh (lR))
end
end L2
namespace PySem
open Sem (wp)
open AutoSeq1 (wpAny_loadPart')
open PyProof.Rows
namespace LV
theorem Es:Slot "list_reverseiterator" "__length_hint__" "list_reverseiterator.__length_hint__":=
 .of (owner:="list_reverseiterator") (n:="__length_hint__") (by rw[typeLookup_type,builtinLookup_eq_fast];kernel_rfl) (by decide +kernel) (by decide +kernel) (by decide +kernel)
  (by first|exact .inl (by decide +kernel)|exact .inr (by decide +kernel)) (by rw[isSubtype_type];kernel_rfl)
theorem Hw:entryFor table "list_reverseiterator.__length_hint__"=some Builtin.«list_reverseiterator.__length_hint__»:=entryFor_of_tree (by kernel_rfl)
theorem Q3:Manifest.owners.lookup (String.ofList ['r','o','t','a','r','e','t','i','e','s','r','e','v','e','r','_','t','s','i','l'].reverse)=some Manifest.sig_list_reverseiterator:=by kernel_rfl
theorem IM(a:Value):argsOk "list_reverseiterator.__length_hint__" ⟨[a],[]⟩:=by
 unfold argsOk;rw[signature?_of (id:="list_reverseiterator.__length_hint__") (n:=['_','_','t','n','i','h','_','h','t','g','n','e','l','_','_']) (o:=['r','o','t','a','r','e','t','i','e','s','r','e','v','e','r','_','t','s','i','l']) (by kernel_rfl) Q3];kernel_rfl
theorem Jg:typeLookup (.type "list_reverseiterator") "__len__"=pure none:=by rw[typeLookup_type,builtinLookup_eq_fast];kernel_rfl
end LV
variable{prog:Program}{w:World}{A:Around}{E:Value->Shared->Prop}{s:Shared}
end PySem
namespace HT
open PySem PyProof.Rows
variable{prog:Program}{w:World}{A:Around}{E:Value->Shared->Prop}{s:Shared}
theorem EH{sl:Addr}{items:Array Value}{vl vu:Value}{lo hi:Option Int}{Q:Value->Shared->Prop}(ht:IsTup s.heap t items)(hs:s.heap.IsSliceOf sl vl vu .none)(pl:IsPart vl lo)(pu:IsPart vu hi)
 (hw:C9 items.size 0 lo=0/\C9 items.size items.size hi=items.size)(h:Q (.ref t) s):wpAny (model prog w) A (getItem (.ref t) (.ref sl)) Q E s:=by
 obtain⟨os,hos,hcs,hds⟩:=id hs;have hTs:s.TypeIs (.ref sl) "slice":=⟨os,hos,hcs⟩;unfold getItem
 try with_reducible refine wpAny_holding ?_
 first|refine wB (wP ?_)|skip
 refine wB (wpAny_sequenceKey ht.typeIs (by decide) ?_)
 refine wB (wpAny_callSpecial?_slot (name:=Str.ofString "__getitem__") ht.typeIs PyProof.Rows.slot_tuple_getitem
  (wpAny_call_entry PyProof.Rows.slot_tuple_getitem ht.typeIs entry_tuple_getitem ?_ (args_tuple_getitem _ _)))
 show wpAny _ _ (Builtin.Tuple.tupleItemsOf (.ref t) >>= _) _ _ s;refine wB (tupleItemsOf_ ht ?_);refine wB (wpAny_typeOf hTs ?_);rw[iP (by decide)];refine wB (DE hs pl pu ?_)
 have hyes:((((C9 items.size 0 lo:Nat):Int) == 0 && (1:Int) == 1 && (C9 items.size items.size hi - C9 items.size 0 lo) == items.size)=true):=by
  rw[hw.1,hw.2];simp
 show wpAny _ _ (if(((C9 items.size 0 lo:Nat):Int) == 0 && (1:Int) == 1 && (C9 items.size items.size hi - C9 items.size 0 lo) == items.size)=true then _ else _) _ _ s;rw[iP hyes];unfold Builtin.Tuple.tupleIsExact;refine wB (wB (wpAny_typeOf ht.typeIs (wP ?_)));rw[iP (by decide)];refine wB (wpAny_rule ?_);exact wP ⟨_,rfl,wP h⟩
end HT
namespace L2
open PySem PySem.Spec PyProof.Rows
variable{X:Cx}
def XX(K:PySem.W.Frag):V->Option Int->Option Int->Hp->VK->Prop:=λx lo hi H Q=>∃a xs,x= .ref a/\En K H a xs/\
 (HT.C9 xs.length 0 lo=0/\HT.C9 xs.length xs.length hi=xs.length)/\Q (.ref a) H
theorem S5:Xt X (XX X.K):=by
 intro pins s σ H x v vl vu lo hi sl Q I rx hs pl pu h;obtain⟨a,xs,rfl,hx,hw,q⟩:=h;cases rx;obtain⟨its,r,ht,hz⟩:=I.tuple hx;have hlen:its.toArray.size=xs.length:=by rw[size_toArray];exact r.length.symm
 refine⟨"tuple",_,PyProof.Rows.slot_tuple_getitem.lookup,ht.typeIs,?_⟩;refine HT.EH ht hs pl pu (by rw[hlen];exact hw) ?_;exact⟨.ref a,_,I,rfl,q⟩
end L2
namespace Kd
open PySem L2
def dd(ks:List Int)(n:Int):List Int:=if n∈ks then ks else ks++[n]
theorem Pc{x:Str}{j:Int}(h0:0<=j)(h1:j<=x.length):Txt.slice x none (some j)=⟨((x.cps.toList.drop 0).take j.toNat).toArray⟩:=by
 have:=eq_of_beq (PyProof.Rows.slice_closes_toL (x:=x) h0 h1);rw[this];simp
theorem Ly{x:Str}{i:Int}(h0:0<=i)(h1:i<=x.length):Txt.slice x (some i) none=⟨((x.cps.toList.drop i.toNat).take ((x.length:Int) - i).toNat).toArray⟩:=PyProof.Rows.slice_from_eq h0 h1 rfl
end Kd
namespace PySem
open Sem (wp)
open AutoSeq1 (wpAny_loadPart')
open PyProof.Rows
variable{prog:Program}{w:World}{A:Around}{E:Value->Shared->Prop}{s:Shared}
def ED(prog:Program)(w:World)(s:Shared)(v:Value):Prop:=∀(A:Around) (E:Value->Shared->Prop) (Q:Bool->Shared->Prop),Q true s->wpAny (model prog w) A (eqIsQuiet 8 v) Q E s
variable{key:Value}
theorem HU{stored:List Value}(hk:ED prog w s key)(hs:∀v∈stored,ED prog w s v){Q:Bool->Shared->Prop}(h:Q false s):wpAny (model prog w) A (tableMayTell key stored) Q E s:=by
 unfold tableMayTell;refine wpAny_ite_split (λ_=>wP h) (λ_=>?_);refine wB (hk _ _ _ ?_);refine wpAny_ite_split (λhab=>absurd hab (by decide)) (λ_=>?_);refine wB ?_;refine wpAny_forIn_list _ (λrest b s'=>(∀v∈rest,ED prog w s v)/\b=(none,())/\s'=s) _ ?_ ?_ _ _ ⟨hs,rfl,rfl⟩
 . rintro x rest b s' ⟨hm,rfl,rfl⟩
   refine wB (hm x mS _ _ _ ?_);refine wpAny_ite_split (λhab=>absurd hab (by decide)) (λ_=>wP ?_);exact⟨λv hv=>hm v (mC hv),rfl,rfl⟩
 . rintro b s' ⟨_,rfl,rfl⟩
   exact wP h
theorem D8{es:Array DictEntry}{i:Nat}(hi:i∈placesWithHash es.size (λi=>Option.map (λx=>x.hash) es[i]?) h):∃e,es[i]? =some e/\e.hash=h:=by
 unfold placesWithHash at hi;obtain⟨h1,h2⟩:=mem_filter.mp hi;have h1:=mem_range.mp h1;refine⟨es[i],Array.getElem?_eq_getElem h1,?_⟩;have h2:(Option.map (λx=>x.hash) es[i]? == some h)=true:=h2;rw[Array.getElem?_eq_getElem h1]at h2;have h2:(some es[i].hash == some h)=true:=h2;exact Option.some.inj (eq_of_beq h2)
theorem Hb{es:Array DictEntry}{h:Int}{i:Nat}{e:DictEntry}(he:es[i]? =some e)(hh:e.hash=h):i∈placesWithHash es.size (λi=>Option.map (λx=>x.hash) es[i]?) h:=by
 unfold placesWithHash;refine mem_filter.mpr ⟨mem_range.mpr (Array.getElem?_eq_some_iff.mp he).1,?_⟩;show(Option.map (λx=>x.hash) es[i]? == some h)=true;rw[he];show(some e.hash == some h)=true;rw[hh];exact beq_self_eq_true _
theorem Ja{es:Array DictEntry} :(placesWithHash es.size (λi=>Option.map (λx=>x.hash) es[i]?) h).Nodup:=by
 unfold placesWithHash;exact List.Pairwise.filter _ List.nodup_range
theorem QQ{h:Int}{o:Obj}{es:Array DictEntry}{ep:Nat}{b:Nat->Bool}{Q:Option Nat->Shared->Prop}
 (hd:s.heap.get? d=some o)(ho:o.data= .dict es ep)(hk:(∃n t,key= .int n t)\/∃a,key= .ref a)
 (hr:(es.any λe=>e.key == key && e.hash != h)=false)
 (eqs:∀i e,es[i]? =some e->e.hash=h->SeqAt.EqAt A s e.key key (b i))
 (hq:ED prog w s key)(hs:∀(i:Nat) (e:DictEntry),es[i]? =some e->ED prog w s e.key)
 (one:∀i j e f,es[i]? =some e->es[j]? =some f->e.hash=h->f.hash=h->b i=true->b j=true->i=j)
 (hn:(∀i e,es[i]? =some e->e.hash=h->b i=false)->Q none s)
 (hy:∀i e,es[i]? =some e->e.hash=h->b i=true->Q (some i) s):wpAny (model prog w) A (dictFind d key h) Q E s:=by
 unfold dictFind;refine wpAny_holding ?_;refine wB (wpAny_dictEntries hd ho ?_)
 have plain:wpAny (model prog w) A (dictWalkPlain d key h es (placesWithHash es.size (λi=>Option.map (λx=>x.hash) es[i]?) h)) Q E s:=by
  unfold dictWalkPlain;refine wB ?_;refine wpAny_forIn_list _ (λrest st s'=>s'=s/\st=(none,())/\(∀i∈rest,i∈placesWithHash es.size (λi=>Option.map (λx=>x.hash) es[i]?) h)/\∀i∈placesWithHash es.size (λi=>Option.map (λx=>x.hash) es[i]?) h,i∉rest->b i=false) _ ?_ ?_ _ _ ⟨rfl,rfl,λi hi=>hi,λi hi hni=>absurd hi hni⟩
  . rintro i rest st s' ⟨rfl,rfl,hm,hf⟩
    obtain⟨e,he,hh⟩:=D8 (hm i mS);simp only[he,hh,beq_self_eq_true,if_true];refine wB (wpAny_dictEpoch hd ho ?_);refine wB (eqs i e he hh prog w _ _ ?_);refine wB (wpAny_dictEpoch hd ho ?_);refine wpAny_ite_split (λhab=>absurd hab (by simp)) (λ_=>?_);refine wpAny_ite_split (λhb=>?_) (λhb=>?_)
    . exact wB (wpAny_rule (wP (wP (hy i e he hh hb))))
    . refine wB (wpAny_rule (wP ⟨rfl,rfl,λj hj=>hm j (mC hj),λj hj hnj=>?_⟩))
      by_cases ej:j=i
      . rw[ej];simpa using hb
      . exact hf j hj (by simp[ej,hnj])
  . rintro st s' ⟨rfl,rfl,_,hf⟩
    exact wP (hn λi e he hh=>hf i (Hb he hh) (by simp))
 have nodup:=Ja (es:=es) (h:=h)
 have hst:∀v∈List.filterMap (λi=>Option.map (λx=>x.key) es[i]?) (placesWithHash es.size (λi=>Option.map (λx=>x.hash) es[i]?) h),ED prog w s v:=by
  intro v hv;obtain⟨i,hi,e⟩:=mem_filterMap.mp hv;obtain⟨f,hf1,hf2⟩:=D8 hi;rw[hf1]at e;have e:f.key=v:=Option.some.inj e;rw[<-e];exact hs i f hf1
 rcases hk with⟨n,t,rfl⟩|⟨a,rfl⟩
 all_goals try dsimp only
 all_goals refine wpAny_ite_split (λ_=>plain) (λ_=>?_)
 all_goals try (rw[hr];refine wpAny_ite_split (λhab=>absurd hab (by simp)) (λ_=>?_))
 all_goals refine wpAny_ite_split (λ_=>?_) (λ_=>?_)
 all_goals first
  |refine wB (HU hq hst ?_)
  |refine wB (wP ?_)
 all_goals
  refine wpAny_ite_split (λhab=>absurd hab (by simp)) (λ_=>?_);refine wB ?_
  refine wpAny_forIn_list _ (λrest st s'=>s'=s/\st.1=none/\rest.Nodup/\(∀i∈rest,i∈placesWithHash es.size (λi=>Option.map (λx=>x.hash) es[i]?) h)/\
   ((st.2=none/\∀i∈placesWithHash es.size (λi=>Option.map (λx=>x.hash) es[i]?) h,i∉rest->b i=false)\/∃j,st.2=some j/\j∈placesWithHash es.size (λi=>Option.map (λx=>x.hash) es[i]?) h/\j∉rest/\b j=true)) _ ?_ ?_ _ _
   ⟨rfl,rfl,nodup,λi hi=>hi,.inl ⟨rfl,λi hi hni=>absurd hi hni⟩⟩
  . rintro i rest ⟨r1,hit⟩ s' ⟨rfl,hr1,hnd,hm,hf⟩
    have hr1:r1=none:=hr1;subst hr1;obtain⟨e,he,hh⟩:=D8 (hm i mS);simp only[he,hh,beq_self_eq_true,if_true];refine wB (wpAny_dictEpoch hd ho ?_);refine wB (eqs i e he hh prog w _ _ ?_);refine wB (wpAny_dictEpoch hd ho ?_);refine wpAny_ite_split (λhab=>absurd hab (by simp)) (λ_=>?_);have hnd':=nodup_cons.mp hnd;refine wpAny_ite_split (λhb=>?_) (λhb=>?_)
    . have hit0:hit=none:=by
       rcases hf with⟨z,_⟩|⟨j,z,hj,hjn,hbj⟩
       . exact z
       . obtain⟨f,hf1,hf2⟩:=D8 hj;have:=one i j e f he hf1 hh hf2 hb hbj;exact absurd (this▸mS) hjn
      subst hit0;refine wpAny_ite_split (λhab=>absurd hab (by simp)) (λ_=>?_);refine wB (wpAny_rule ?_);refine wpAny_ite_split (λ_=>wP (wP (hy i e he hh hb))) (λ_=>wP ⟨rfl,rfl,hnd'.2,λj hj=>hm j (mC hj),.inr ⟨i,rfl,hm i mS,hnd'.1,hb⟩⟩)
    . refine wB (wpAny_rule ?_);refine wpAny_ite_split (λhab=>absurd hab (by simp)) (λ_=>wP ⟨rfl,rfl,hnd'.2,λj hj=>hm j (mC hj),?_⟩);rcases hf with⟨z,hf⟩|⟨j,z,hj,hjn,hbj⟩
      . refine .inl ⟨z,λj hj hnj=>?_⟩
        by_cases ej:j=i
        . rw[ej];simpa using hb
        . exact hf j hj (by simp[ej,hnj])
      . exact .inr ⟨j,z,hj,λy=>hjn (mC y),hbj⟩
  . rintro⟨r1,hit⟩ s' ⟨rfl,hr1,_,_,hf⟩
    have hr1:r1=none:=hr1;subst hr1;rcases hf with⟨z,hf⟩|⟨j,z,hj,_,hbj⟩
    . have z:hit=none:=z;subst z;exact wP (hn λi e he hh=>hf i (Hb he hh) (by simp))
    . have z:hit=some j:=z;subst z;obtain⟨f,hf1,hf2⟩:=D8 hj;exact wP (hy j f hf1 hf2 hbj)
end PySem
namespace Iv
open PySem
inductive P where
 |AG|bl (b:Bool)|int (i:Int)|str (x:Str)|tup (ps:List P)|fn (i:Nat)
 deriving Inhabited
noncomputable instance:DecidableEq P:=λa b=>Classical.propDecidable (a=b)
mutual
def P.depth:P->Nat
 | .tup ps=>P.Ao ps + 1
 |_=>0
def P.Ao:List P->Nat
 |[]=>0
 |p::ps=>max p.depth (P.Ao ps)
end
inductive B where
 |p (x:P)|lst (ps:List P)|AJ (kvs:List (P×P))|ro (ps:List P)
instance:DecidableEq B:=λ_ _=>Classical.propDecidable _
inductive C where
 |b (x:B)|obj (c:Nat)(fs:List (Str×B))
instance:DecidableEq C:=λ_ _=>Classical.propDecidable _
abbrev C.p(x:P):C:=.b (.p x)
abbrev C.lst(x:List P):C:=.b (.lst x)
abbrev C.AJ(x:List (P×P)):C:=.b (.AJ x)
def C.cp:C->Bool
 | .b (.p _)=>true
 | .b (.ro _)=>true
 |_=>false
def C.nf:C->C
 | .b (.ro ps)=>.b (.lst ps)
 |c=>c
abbrev Env:=List (Option C)
inductive Res(α:Type) where
 |stuck|ok (a:α)(ρ:Env)
namespace Res
variable{α β:Type}
def bind(r:Res α)(f:α->Env->Res β):Res β:=match r with
 | .stuck=>.stuck
 | .ok a ρ=>f a ρ
@[simp] theorem WZ (f:α->Env->Res β):(Res.stuck:Res α).bind f= .stuck:=rfl
@[simp] theorem A5 (a:α) (ρ:Env) (f:α->Env->Res β):(Res.ok a ρ).bind f=f a ρ:=rfl
def of(o:Option α)(ρ:Env):Res α:=match o with
 |some a=>.ok a ρ
 |none=>.stuck
@[simp] theorem Je (a:α) (ρ:Env):of (some a) ρ= .ok a ρ:=rfl
@[simp] theorem of_none (ρ:Env):of (none:Option α) ρ= .stuck:=rfl
end Res
inductive CR where
 |stuck|ok (c:C)(outs:List (Option C))
inductive Ty where
 |int|bool|str|tuple|list|dict|cls (cs:List Nat)
inductive IK where
 |op|Et|enum|zip|rev|items|vals
inductive O where
 |add|sub|mul|mod|fdiv|pow|band|shr|neg
 |eq|ne|lt|le|gt|ge|is|YE|Og|Yy|chain (a b:O)
 |idx|Gj (lo hi:Bool)
 |len|Js (t:Ty)|list (k:IK)|tuple (k:IK)|dict (k:IK)|min|max|sum|all|any|sorted|abs|str|int|aR
 |join|upper|cy|cx|index|iter (k:IK)|cu
inductive MO where
 |append|extend|pop|bN|clear|reverse|insert|update
inductive Tg where
 |nm (i:Nat)|tup (is:List Nat)
def Tg.slots:Tg->List Nat
 | .nm i=>[i]
 | .tup is=>is
inductive T where
 |cst (p:P)|var (i:Nat)|bor (i:Nat)|fld (i:Nat)(f:Str)
 |tup (ts:List T)|lst (ts:List T)|AJ (ks vs:List T)
 |prim (o:O)(ts:List T)|F4 (m:MO)(o:T)(ts:List T)|Jz (o:T)(ts:List T)
 |and (a b:T)|or (a b:T)|not (a:T)|ite (c a b:T)
 |call (f:Nat)(ts:List T)|Bs (m:Str)(o:T)(ts:List T)|make (c:Nat)(ts:List T)|OC (i:Nat)(ts:List T)
 |comp (g:Tg)(k:IK)(its:List T)(cond:List T)(elt:T)(fr:List (Option Nat))
inductive S where
 |asg (g:Tg)(t:T)|Dx (o:T)(i:T)(v:T)|LA (i:Nat)(f:Str)(v:T)|expr (t:T)
 |ret (t:Option T)|ifs (c:T)(a b:List S)|K2 (c:T)(b:List S)|CW (g:Tg)(k:IK)(its:List T)(b:List S)
 |brk|cnt|pass|raise
def IK.ok:IK->Bool
 | .op=>true
 | .Et=>true
 | .rev=>true
 |_=>false
noncomputable def O.ok:O->Bool
 | .add| .sub| .mul| .mod| .fdiv| .pow| .neg| .eq| .ne| .lt| .le| .gt| .ge| .is| .YE| .Og| .Yy| .idx| .len| .min| .sum| .all| .sorted=>true
 | .Gj a b=>a != b
 | .Js t=>match t with
   | .cls _=>false
   |_=>true
 | .list k=>match k with
   | .op| .rev| .zip=>true
   |_=>false
 | .tuple k=>match k with
   | .op=>true
   |_=>false
 |_=>false
def MO.ok:MO->Bool
 | .append=>true
 | .extend=>true
 | .pop=>true
 | .reverse=>true
 |_=>false
def big:Nat:=100000
def B.pure:B->Option P
 | .p x=>some x
 |_=>none
def C.pure:C->Option P
 | .b (.p x)=>some x
 |_=>none
noncomputable def Bz:P->P->Bool
 | .bl _,.int _=>false
 | .int _,.bl _=>false
 | .fn _,_=>false
 |_,.fn _=>false
 |_,_=>true
mutual
def AQ:P->P->Bool
 | .tup a,.tup b=>BK a b
 |a,b=>Bz a b
def BK:List P->List P->Bool
 |x::a,y::b=>AQ x y && BK a b
 |_,_=>true
end
def flat(p:P):Bool:=decide (p.depth<=8)
noncomputable def GC(a b:P):Option Bool:=if AQ a b && decide (a.depth<=60) && decide (b.depth<=60)then some (decide (a=b))else none
noncomputable def JF(a b:List P):Option Bool:=if BK a b && decide (P.Ao a<=60) && decide (P.Ao b<=60)then some (decide (a=b))else none
def Af(kvs:List (P×P))(k:P):Option P:=(kvs.find? λq=>decide (q.1=k)).map (·.2)
noncomputable def dput(kvs:List (P×P))(k v:P):List (P×P):=if(kvs.any λq=>decide (q.1=k))=true then kvs.map λq=>if q.1=k then(q.1,v)else q else kvs++[(k,v)]
mutual
def AS:P->Bool
 | .int _=>true
 | .str _=>true
 | .tup ps=>BZ ps
 |_=>false
def BZ:List P->Bool
 |[]=>true
 |p::ps=>AS p && BZ ps
end
def Jt:P->Bool
 | .str _=>true
 |_=>false
def keyOk(k:P):Bool:=AS k && flat k && !Jt k
noncomputable def FN(n:Nat)(i:Int):Option Nat:=if 0<=i then(if i < n then some i.toNat else none)else(if -(n:Int)<=i then some (i + n).toNat else none)
def Mm(n d:Nat):Option Int->Nat
 |none=>d
 |some v=>if v < 0 then(v + n).toNat else min v.toNat n
noncomputable def cut{α:Type}(xs:List α)(lo hi:Option Int):List α:=(xs.drop (Mm xs.length 0 lo)).take (Mm xs.length xs.length hi - Mm xs.length 0 lo)
def sign(c:Nat):P:=.str ⟨#[c]⟩
def P.cv:P->Option Int
 | .int i=>some i
 |_=>none
def Ad(lo hi:Int):List P:=(List.range (hi - lo).toNat).map λk=>.int (lo + (k:Nat))
def Fy:List P->Option (List Int)
 |[]=>some []
 | .int i::r=>(Fy r).map (i::·)
 |_::_=>none
def JQ:List P->Option (List Bool)
 |[]=>some []
 | .bl i::r=>(JQ r).map (i::·)
 |_::_=>none
def insI(i:Int):List Int->List Int
 |[]=>[i]
 |j::r=>if i<=j then i::j::r else j::insI i r
def sortI:List Int->List Int
 |[]=>[]
 |i::r=>insI i (sortI r)
noncomputable def Cm(t:Ty)(c:C):Option Bool:=match t,c with
 | .int,.b (.p (.int _))=>some true
 | .int,.b (.p (.bl _))=>some true
 | .bool,.b (.p (.bl _))=>some true
 | .str,.b (.p (.str _))=>some true
 | .tuple,.b (.p (.tup _))=>some true
 | .list,.b (.lst _)=>some true
 | .list,.b (.ro _)=>some true
 | .dict,.b (.AJ _)=>some true
 | .cls cs,.obj c _=>some (cs.contains c)
 |_,.obj _ _=>none
 |_,.b (.p (.fn _))=>none
 | .cls _,_=>none
 |_,_=>some false
def EE{α:Type}(xs:List α):Option (List α):=if xs.length<=big then some xs else none
noncomputable def C7:C->C->Option C
 | .b (.p (.int i)),.b (.p (.int j))=>some (.p (.int (i + j)))
 | .b (.p (.str i)),.b (.p (.str j))=>if i.length + j.length<=big then some (.p (.str (i++j)))else none
 | .b (.p (.tup i)),.b (.p (.tup j))=>if i.isEmpty then none else(EE (i++j)).map λz=>.p (.tup z)
 | .b (.lst i),.b (.lst j)=>(EE (i++j)).map λz=>.lst z
 |_,_=>none
def KH:P->P->Option Bool
 | .int i,.int j=>some (decide (i < j))
 |_,_=>none
noncomputable def E7:C->C->Option Bool
 | .b (.p a),.b (.p b)=>GC a b
 | .b (.lst a),.b (.lst b)=>JF a b
 | .b (.AJ []),.b (.AJ [])=>some true
 |_,_=>none
noncomputable def memC(x:P):C->Option Bool
 | .b (.AJ kvs)=>if keyOk x then some (Af kvs x).isSome else none
 |_=>none
noncomputable def AK(o:O)(a b:C):Option Bool:=match o with
 | .eq=>E7 a b
 | .ne=>(E7 a b).map (!·)
 | .lt=>match a,b with| .b (.p x),.b (.p y)=>KH x y|_,_=>none
 | .gt=>match a,b with| .b (.p x),.b (.p y)=>KH y x|_,_=>none
 | .is=>match a,b with|x,.b (.p .AG)=>some (decide (x= .p .AG))|_,_=>none
 | .YE=>match a,b with|x,.b (.p .AG)=>some (!decide (x= .p .AG))|_,_=>none
 | .Og=>match a with| .b (.p x)=>memC x b|_=>none
 | .Yy=>match a with| .b (.p x)=>(memC x b).map (!·)|_=>none
 |_=>none
noncomputable def AN(c i:C):Option C:=match c.nf,i with
 | .b (.lst ps),.b (.p (.int i))=>(FN ps.length i).bind λk=>(ps[k]?).map λx=>.p x
 | .b (.p (.tup ps)),.b (.p (.int i))=>(FN ps.length i).bind λk=>(ps[k]?).map λx=>.p x
 | .b (.p (.str x)),.b (.p (.int i))=>if x.length<=big then(FN x.length i).bind λk=>(x.cps.toList[k]?).map λc=>.p (sign c)else none
 | .b (.AJ kvs),.b (.p k)=>if keyOk k then(Af kvs k).map λx=>.p x else none
 |_,_=>none
noncomputable def IY(x:Str)(lo hi:Option Int):Option Str:=match lo,hi with
 |none,some j=>if 0<=j/\j<=x.length/\x.length<=big then some ⟨(x.cps.toList.take j.toNat).toArray⟩else none
 |some i,none=>if 0<=i/\i<=x.length/\x.length<=big then some ⟨(x.cps.toList.drop i.toNat).toArray⟩else none
 |_,_=>none
noncomputable def Dw(x:C)(lo hi:Option Int):Option C:=match x.nf with
 | .b (.lst ps)=>some (.lst (cut ps lo hi))
 | .b (.p (.tup ps))=>some (.p (.tup (cut ps lo hi)))
 | .b (.p (.str x))=>(IY x lo hi).map λy=>.p (.str y)
 |_=>none
noncomputable def EF(c:C):Option (List P):=match c.nf with
 | .b (.lst ps)=>some ps
 | .b (.p (.tup ps))=>some ps
 | .b (.AJ kvs)=>some (kvs.map (·.1))
 |_=>none
noncomputable def NQ(c:C):Option (List P):=match c.nf with
 | .b (.lst ps)=>some ps
 | .b (.p (.tup ps))=>some ps
 | .b (.AJ kvs)=>some (kvs.map (·.1))
 |_=>none
noncomputable def Pj(c:C):Option (List P):=match c.nf with
 | .b (.lst ps)=>some ps
 | .b (.AJ kvs)=>some (kvs.map (·.1))
 |_=>none
def Ln:List P->List P->List P:=List.zipWith λa b=>.tup [a,b]
noncomputable def E5(c:C):Option (List P):=match c.nf with
 | .b (.lst ps)=>some ps
 | .b (.p (.tup ps))=>some ps
 |_=>none
def Gk:C->Option (List P)
 | .b (.p (.tup ps))=>some ps
 |_=>none
noncomputable def Ah(k:IK)(cs:List C):Option (List P):=match k,cs with
 | .op,[c]=>EF c
 | .Et,[.b (.p (.int n))]=>if n.natAbs < 2 ^ 61 then some (Ad 0 n)else none
 | .Et,[.b (.p (.int a)),.b (.p (.int n))]=>if a.natAbs < 2 ^ 61/\n.natAbs < 2 ^ 61 then some (Ad a n)else none
 | .Et,[.b (.p (.int a)),.b (.p (.int n)),.b (.p (.int s))]=>if 0 < s/\s < 1000000/\a.natAbs < 2 ^ 61/\n.natAbs < 2 ^ 61 then some ((List.range ((n - a + s - 1) / s).toNat).map λk=>.int (a + s * (k:Nat)))else none
 | .rev,[c]=>match c.nf with| .b (.lst ps)=>some ps.reverse|_=>none
 |_,_=>none
noncomputable def DJ(c:C):Option C:=match c.nf with
 | .b (.lst ps)=>some (.p (.int ps.length))
 | .b (.AJ ps)=>some (.p (.int ps.length))
 | .b (.p (.tup ps))=>some (.p (.int ps.length))
 | .b (.p (.str x))=>if x.length<=big then some (.p (.int x.length))else none
 |_=>none
noncomputable def AR(f:Int->Int->Option Int):C->C->Option C
 | .b (.p (.int i)),.b (.p (.int j))=>(f i j).map λk=>.p (.int k)
 |_,_=>none
def IX(i j:Int):Option Int:=some (i - j)
noncomputable def Ha(i j:Int):Option Int:=if(-(2 ^ 64) < i/\i < 2 ^ 64)\/(-(2 ^ 64) < j/\j < 2 ^ 64)then some (i * j)else none
def B2(i j:Int):Option Int:=if 0 < j then some (i % j)else none
def AY(i j:Int):Option Int:=if 0 < j/\j < 1073741824 then some (i / j)else none
def PJ(i j:Int):Option Int:=if 0<=j/\j<=1000/\i.natAbs < 2 ^ 64 then some (i ^ j.toNat)else none
def Qd(i j:Int):Option Int:=some (if j < i then j else i)
def mulC(a b:C):Option C:=AR Ha a b
def Jw(f:Int->Option P):C->Option C
 | .b (.p (.int i))=>(f i).map λk=>.p k
 |_=>none
def Kz(i:Int):Option P:=some (.int (-i))
def Qi(f:List P->Option C)(c:C):Option C:=match c.nf with
 | .b (.lst ps)=>f ps
 |_=>none
def RQ:C->Option C:=Qi λps=>(Fy ps).map λns=>.p (.int ns.sum)
def X9:C->Option C:=Qi λps=>(JQ ps).map λns=>.p (.bl (ns.all id))
noncomputable def Gs(c:C):Option C:=((Pj c).bind Fy).bind λns=>if ns.length < 64 then some (.lst ((sortI ns).map .int))else none
def DI:C->Option Int
 | .b (.p (.int i))=>some i
 |_=>none
noncomputable def HV(c k d:C):Option C:=match c,k,d with
 | .b (.AJ kvs),.b (.p k),.b (.p d)=>if keyOk k then some (.p ((Af kvs k).getD d))else none
 |_,_,_=>none
def Gv(g:C->Option C):List C->Option C
 |[c]=>g c
 |_=>none
def Lk(g:C->C->Option C):List C->Option C
 |[c,d]=>g c d
 |_=>none
@[simp] theorem bP (g:C->Option C) (c:C):Gv g [c]=g c:=rfl
@[simp] theorem bO (g:C->C->Option C) (c d:C):Lk g [c,d]=g c d:=rfl
def EI(o:O):C->C->Option C:=λa b=>(AK o a b).map λx=>.p (.bl x)
noncomputable def Aa(o:O)(cs:List C):Option C:=match o with
 | .add=>Lk C7 cs
 | .sub=>Lk (AR IX) cs
 | .mul=>Lk mulC cs
 | .mod=>Lk (AR B2) cs
 | .fdiv=>Lk (AR AY) cs
 | .pow=>Lk (AR PJ) cs
 | .neg=>Gv (Jw Kz) cs
 | .idx=>Lk AN cs
 | .Gj lo _=>Lk (λa i=>(DI i).bind λi=>if lo then Dw a (some i) none else Dw a none (some i)) cs
 | .len=>Gv DJ cs
 | .Js t=>Gv (λc=>(Cm t c).map λb=>.p (.bl b)) cs
 | .list k=>match k with
   | .op=>Gv (λc=>(NQ c).map .lst) cs
   | .zip=>Lk (λa b=>(Gk a).bind λx=>(Gk b).map λy=>.lst (Ln x y)) cs
   |_=>Gv (λc=>(Gk c).map λx=>.lst x.reverse) cs
 | .tuple _=>Gv (λc=>(E5 c).map λx=>.p (.tup x)) cs
 | .min=>Lk (AR Qd) cs
 | .sum=>Gv RQ cs
 | .all=>Gv X9 cs
 | .sorted=>Gv Gs cs
 |o=>Lk (EI o) cs
noncomputable def Bh(ps:List P):List C->Option (C×B)
 |[.b (.p x)]=>if ps.length < big then some (.p .AG,.lst (ps++[x]))else none
 |_=>none
noncomputable def Fs(ps:List P):List C->Option (C×B)
 |[.b (.lst xs)]=>if ps.length + xs.length<=big then some (.p .AG,.lst (ps++xs))else none
 |_=>none
def Jn(ps:List P):List C->Option (C×B)
 |[]=>(ps.getLast?).map λx=>(.p x,.lst ps.dropLast)
 |_=>none
def We(ps:List P):List C->Option (C×B)
 |[]=>some (.p .AG,.lst [])
 |_=>none
def Fq(ps:List P):List C->Option (C×B)
 |[]=>some (.p .AG,.lst ps.reverse)
 |_=>none
noncomputable def Tb(ps:List P):List C->Option (C×B)
 |[.b (.p (.int i)),.b (.p x)]=>if 0<=i/\i<=ps.length/\ps.length < big then some (.p .AG,.lst (ps.take i.toNat++x::ps.drop i.toNat))else none
 |_=>none
noncomputable def CL(m:MO)(b:B)(cs:List C):Option (C×B):=match b with
 | .lst ps=>(match m with
   | .append=>Bh ps cs
   | .extend=>Fs ps cs
   | .pop=>Jn ps cs
   | .clear=>We ps cs
   | .reverse=>Fq ps cs
   | .insert=>Tb ps cs
   |_=>none)
 |_=>none
noncomputable def Dy(b:B)(i:P)(v:P):Option B:=match b with
 | .AJ kvs=>if keyOk i && decide (kvs.length < big)then some (.AJ (dput kvs i v))else none
 |_=>none
noncomputable def D2(c:C):Option Bool:=match c.nf with
 | .b (.p (.bl b))=>some b
 | .b (.lst ps)=>some (!ps.isEmpty)
 |_=>none
inductive Hd where
 |BG (c:C)|slot (i:Nat)|fld (i:Nat)(f:Str)
def A9(ρ:Env)(i:Nat):Option C:=(ρ[i]?).join
noncomputable def BE(ρ:Env)(i:Nat)(f:Str):Option C:=match A9 ρ i with
 |some (.obj _ fs)=>(fs.lookup f).map .b
 |_=>none
def Hd.cont(ρ:Env):Hd->Option C
 | .BG c=>some c
 | .slot i=>A9 ρ i
 | .fld i f=>BE ρ i f
noncomputable def AB(ρ:Env):List Hd->Option (List C)
 |[]=>some []
 |h::hs=>(h.cont ρ).bind λc=>(AB ρ hs).map (c::·)
def HM:P->Bool
 | .tup _=>false
 | .fn _=>false
 |_=>true
def T.calm:T->Bool
 | .cst p=>HM p
 | .bor _=>true
 | .var _=>true
 | .fld _ _=>true
 |_=>false
noncomputable def Br(f:Str)(b:B):List (Str×B)->List (Str×B)
 |[]=>[(f,b)]
 |(g,c)::r=>if g=f then(g,b)::r else(g,c)::Br f b r
noncomputable def setB(ρ:Env)(h:Hd)(b:B):Option Env:=match h with
 | .slot i=>some (ρ.set i (some (.b b)))
 | .fld i f=>match A9 ρ i with
   |some (.obj c fs)=>some (ρ.set i (some (.obj c (Br f b fs))))
   |_=>none
 | .BG _=>none
noncomputable def Cp(hs:List Hd)(cs:List C):List Nat:=(hs.zip cs).filterMap λq=>if q.2.cp then none else match q.1 with
 | .slot i=>some i
 | .fld i _=>some i
 | .BG _=>none
noncomputable def back(ρ:Env):List Hd->List C->List (Option C)->Option Env
 | .slot i::hs,c::cs,o::os=>if c.cp then back ρ hs cs os else back (ρ.set i o) hs cs os
 | .fld _ _::hs,c::cs,_::os=>if c.cp then back ρ hs cs os else none
 | .BG _::hs,_::cs,_::os=>back ρ hs cs os
 |[],[],_=>some ρ
 |_,_,_=>none
abbrev CF:=Nat->List C->CR
structure MT where
 m:Nat->Str->Option Nat
 f:Nat->Str->Bool
noncomputable def guards(hs:List Hd)(cs:List C):List (Nat×C):=(hs.zip cs).filterMap λq=>if q.2.cp then none else match q.1 with
 | .slot i=>some (i,q.2)
 |_=>none
noncomputable def A8(hs:List Hd)(cs:List C):Bool:=(hs.zip cs).all λq=>q.2.cp || match q.1 with
 | .fld _ _=>false
 |_=>true
def lend(ρ:Env)(hs:List Hd)(cs:List C):Env:=(Cp hs cs).foldl (λr i=>r.set i none) ρ
noncomputable def B3(cf:CF)(f:Nat)(hs:List Hd)(ρ:Env):Res C:=match AB ρ hs with
 |none=>.stuck
 | some cs=>if(Cp hs cs).Nodup/\A8 hs cs=true then
    match cf f cs with
    | .stuck=>.stuck
    | .ok c outs=>(Res.of (back (lend ρ hs cs) hs cs outs) ρ).bind λρ' _=>.ok c ρ'
   else .stuck
def holds(gs:List (Nat×C))(ρ:Env):Bool:=gs.all λq=>decide (A9 ρ q.1=some q.2)
noncomputable def DF(g:Tg)(v:P)(ρ:Env):Option Env:=match g,v with
 | .nm i,v=>some (ρ.set i (some (.p v)))
 | .tup is,.tup vs=>if is.length=vs.length then some ((is.zip vs).foldl (λr q=>r.set q.1 (some (.p q.2))) ρ)else none
 |_,_=>none
def Bd(fr:List (Option Nat))(ρ:Env):Env:=fr.map λo=>o.bind λi=>A9 ρ i
noncomputable def AD(ρ:Env):List (Option Nat)->Env->Env
 |some i::fr,c::β=>AD (ρ.set i c) fr β
 |none::fr,_::β=>AD ρ fr β
 |_,_=>ρ
noncomputable def Cv(g:Tg)(gs:List (Nat×C))(cond:Env->Res Bool)(elt:Env->Res C):List P->List P->Env->Res (List P)
 |[],acc,β=>if holds gs β then .ok acc β else .stuck
 | x ::xs,acc,β=>if holds gs β then(Res.of (DF g x β) β).bind λβ1 _=>(cond β1).bind λb β2=>if b then(elt β2).bind λc β3=>match c with
     | .b (.p y)=>Cv g gs cond elt xs (acc++[y]) β3
     |_=>.stuck
   else Cv g gs cond elt xs acc β2
   else .stuck
def inner(fr:List (Option Nat))(i:Nat):Option Nat:=fr.findIdx? λo=>o == some i
def BX(fr:List (Option Nat))(ρ:Env):Env:=(fr.filterMap id).foldl (λr i=>r.set i none) ρ
noncomputable def BW(g:Tg)(fr:List (Option Nat)):Bool:=decide ((fr.filterMap id).Nodup) && g.slots.all λj=>decide (fr[j]? =some none)
noncomputable def Bv(fr:List (Option Nat))(hs:List Hd)(cs:List C):List (Nat×C):=(guards hs cs).filterMap λq=>(inner fr q.1).map λj=>(j,q.2)
noncomputable def DP(k:IK)(g:Tg)(fr:List (Option Nat))(cond:Env->Res Bool)(elt:Env->Res C)(hs:List Hd)(ρ:Env):Res C:=match AB ρ hs with
 | some cs=>match Ah k cs with
   | some xs=>if A8 hs cs && BW g fr && decide (xs.length<=big)then match Cv g (Bv fr hs cs) cond elt xs [] (Bd fr ρ)with
      | .ok ys β=>.ok (.lst ys) (AD (BX fr ρ) fr β)
      |_=>.stuck
     else .stuck
   |none=>.stuck
 |none=>.stuck
noncomputable def BV(t:T)(v:Env->Res C)(ρ:Env):Res Hd:=match t with
 | .bor i=>if(A9 ρ i).isSome then .ok (.slot i) ρ else .stuck
 | .var i=>if(A9 ρ i).isSome then .ok (.slot i) ρ else .stuck
 | .fld i f=>if(BE ρ i f).isSome then .ok (.fld i f) ρ else .stuck
 |_=>(v ρ).bind λc ρ=>.ok (.BG c) ρ
inductive Fl where
 |nx|brk|cnt|ret (c:C)
def placeOf:T->Option Hd
 | .var i=>some (.slot i)
 | .fld i f=>some (.fld i f)
 |_=>none
def Wq:Option C->Bool
 |some (.b (.lst _))=>true
 |_=>false
def Hd.CQ:Hd->Bool
 | .fld _ _=>true
 |_=>false
noncomputable def Jl(m:MO)(h:Hd)(hs:List Hd)(ρ:Env):Res C:=match h.cont ρ,AB ρ hs with
 | some (.b b),some cs=>if(Cp (h::hs) (.b b::cs)).Nodup then match CL m b cs with
   |some (c,b')=>(Res.of (setB ρ h b') ρ).bind λρ' _=>.ok c ρ'
   |none=>.stuck
   else .stuck
 |_,_=>.stuck
def Dz:Option C->Bool
 |some (.b (.lst _))=>true
 |some (.b (.AJ _))=>true
 |_=>false
noncomputable def BH(h:Hd)(k:C)(v:P)(ρ:Env):Res Fl:=match h.cont ρ,k with
    |some (.b b),.b (.p k)=>(Res.of ((Dy b k v).bind λb'=>setB ρ h b') ρ).bind λρ' _=>.ok .nx ρ'
    |_,_=>.stuck
noncomputable def BS(h:Hd)(i:Env->Res C)(v:C)(ρ:Env):Res Fl:=match v with
    | .b (.p v)=>if Dz (h.cont ρ)then(i ρ).bind λk ρ=>BH h k v ρ else .stuck
    |_=>.stuck
noncomputable def MG(mt:MT)(i:Nat)(f:Str)(v:C)(ρ:Env):Res Fl:=match A9 ρ i,v with
    |some (.obj c fs),.b b=>if mt.f c f && decide (fs.length < 900)then .ok .nx (ρ.set i (some (.obj c (Br f b fs))))else .stuck
    |_,_=>.stuck
def M8:Option C->Bool
 |some (.b (.AJ _))=>true
 |_=>false
noncomputable def JA(h:Hd)(hs:List Hd)(ρ:Env):Res C:=match h.cont ρ,AB ρ hs with
 |some c,some [k]=>Res.of (HV c k (.p .AG)) ρ
 |some c,some [k,d]=>Res.of (HV c k d) ρ
 |_,_=>.stuck
noncomputable def Hc(cf:CF)(f c:Nat)(hs:List Hd)(ρ:Env):Res C:=match AB ρ hs with
 |none=>.stuck
 | some cs=>if(Cp hs cs).Nodup/\A8 hs cs=true then match cf f (.obj c []::cs)with
    | .ok (.b (.p .AG)) (some s::outs)=>(Res.of (back (lend ρ hs cs) hs cs outs) ρ).bind λρ' _=>.ok s ρ'
    |_=>.stuck
   else .stuck
structure Sm where
 v:Env->Res C
 b:Env->Res Bool
noncomputable def Sm.of(t:T)(v:Env->Res C):Sm:=⟨v,λρ=>(BV t v ρ).bind λh ρ=>Res.of ((h.cont ρ).bind D2) ρ⟩
mutual
noncomputable def den (cf:CF) (mt:MT):T->Sm
 | .cst p=>Sm.of (.cst p) λρ=>.ok (.p p) ρ
 | .var i=>Sm.of (.var i) λρ=>match A9 ρ i with
   |some c=>if c.cp then .ok c ρ else .ok c (ρ.set i none)
   |none=>.stuck
 | .bor i=>Sm.of (.bor i) λρ=>match A9 ρ i with
   |some c=>if c.cp then .ok c ρ else .stuck
   |none=>.stuck
 | .fld i f=>Sm.of (.fld i f) λρ=>match BE ρ i f with
   |some c=>if c.cp then .ok c ρ else .stuck
   |none=>.stuck
 | .tup ts=>Sm.of (.tup []) λρ=>if ts.length<=1000 then(HE cf mt ts ρ).bind λps ρ=>.ok (.p (.tup ps)) ρ else .stuck
 | .lst ts=>Sm.of (.tup []) λρ=>if ts.length<=1000 then(HE cf mt ts ρ).bind λps ρ=>.ok (.lst ps) ρ else .stuck
 | .AJ ks vs=>Sm.of (.tup []) λρ=>if ks.isEmpty && vs.isEmpty then .ok (.AJ []) ρ else .stuck
 | .prim o ts=>Sm.of (.tup []) λρ=>if o.ok then(An cf mt ts ρ).bind λhs ρ=>Res.of ((AB ρ hs).bind (Aa o)) ρ else .stuck
 | .F4 m o ts=>Sm.of (.tup []) λρ=>match placeOf o with
   |some h=>if m.ok && Wq (h.cont ρ) && (!h.CQ || ts.all T.calm)then(An cf mt ts ρ).bind λhs ρ=>Jl m h hs ρ else .stuck
   |none=>.stuck
 | .Jz o ts=>Sm.of (.tup []) λρ=>match placeOf o with
   |some h=>if M8 (h.cont ρ) && (!h.CQ || ts.all T.calm)then(An cf mt ts ρ).bind λhs ρ=>JA h hs ρ else .stuck
   |none=>.stuck
 | .and a b=>⟨λρ=>((den cf mt a).v ρ).bind λc ρ=>match c with
   | .b (.p (.bl true))=>(den cf mt b).v ρ
   | .b (.p (.bl false))=>.ok (.p (.bl false)) ρ
   |_=>.stuck,λρ=>((den cf mt a).b ρ).bind λc ρ=>if c then(den cf mt b).b ρ else .ok false ρ⟩
 | .or a b=>⟨λρ=>((den cf mt a).v ρ).bind λc ρ=>match c with
   | .b (.p (.bl true))=>.ok (.p (.bl true)) ρ
   | .b (.p (.bl false))=>(den cf mt b).v ρ
   |_=>.stuck,λρ=>((den cf mt a).b ρ).bind λc ρ=>if c then .ok true ρ else(den cf mt b).b ρ⟩
 | .not a=>⟨λρ=>((den cf mt a).v ρ).bind λc ρ=>match c with
   | .b (.p (.bl b))=>.ok (.p (.bl (!b))) ρ
   |_=>.stuck,λρ=>((den cf mt a).b ρ).bind λb ρ=>.ok (!b) ρ⟩
 | .ite c a b=>⟨λρ=>((den cf mt c).b ρ).bind λx ρ=>if x then(den cf mt a).v ρ else(den cf mt b).v ρ,λρ=>((den cf mt c).b ρ).bind λx ρ=>if x then(den cf mt a).b ρ else(den cf mt b).b ρ⟩
 | .call f ts=>Sm.of (.tup []) λρ=>(An cf mt ts ρ).bind λhs ρ=>B3 cf f hs ρ
 | .Bs m o ts=>Sm.of (.tup []) λρ=>match o with
   | .var i=>match A9 ρ i with
     | some (.obj c fs)=>match fs.lookup m,mt.m c m with
       |none,some f=>(An cf mt ts ρ).bind λhs ρ=>B3 cf f (.slot i::hs) ρ
       |_,_=>.stuck
     |_=>.stuck
   |_=>.stuck
 | .make c ts=>Sm.of (.tup []) λρ=>match mt.m c (Str.ofString "__init__")with
   |some f=>(An cf mt ts ρ).bind λhs ρ=>Hc cf f c hs ρ
   |none=>.stuck
 | .OC i ts=>Sm.of (.tup []) λρ=>.stuck
 | .comp g k its cond elt fr=>Sm.of (.tup []) λρ=>if k.ok then(An cf mt its ρ).bind λhs ρ=>DP k g fr (Ea cf mt cond) (den cf mt elt).v hs ρ else .stuck
noncomputable def HE (cf:CF) (mt:MT):List T->Env->Res (List P)
 |[],ρ=>.ok [] ρ
 | t::ts,ρ=>((den cf mt t).v ρ).bind λc ρ=>match c with
   | .b (.p x)=>(HE cf mt ts ρ).bind λxs ρ=>.ok (x::xs) ρ
   |_=>.stuck
noncomputable def An (cf:CF) (mt:MT):List T->Env->Res (List Hd)
 |[],ρ=>.ok [] ρ
 | t::ts,ρ=>(BV t (den cf mt t).v ρ).bind λh ρ=>match h with
   | .fld i f=>if ts.all T.calm then(An cf mt ts ρ).bind λhs ρ=>.ok (.fld i f::hs) ρ else .stuck
   |h=>(An cf mt ts ρ).bind λhs ρ=>.ok (h::hs) ρ
noncomputable def Ea (cf:CF) (mt:MT):List T->Env->Res Bool
 |[],ρ=>.ok true ρ
 |t::_,ρ=>(den cf mt t).b ρ
end
abbrev ev(cf:CF)(mt:MT)(t:T):Env->Res C:=(den cf mt t).v
abbrev tv(cf:CF)(mt:MT)(t:T):Env->Res Bool:=(den cf mt t).b
abbrev WH:=(Env->Res Bool)->(Env->Res Fl)->Env->Res Fl
noncomputable def AE(c:Env->Res Bool)(b:Env->Res Fl):Nat->Env->Res Fl
 |0,_=>.stuck
 | n + 1,ρ=>(c ρ).bind λx ρ=>if x then(b ρ).bind λf ρ=>match f with
     | .nx=>AE c b n ρ
     | .cnt=>AE c b n ρ
     | .brk=>.ok .nx ρ
     | .ret r=>.ok (.ret r) ρ
   else .ok .nx ρ
noncomputable def forL(g:Tg)(gs:List (Nat×C))(b:Env->Res Fl):List P->Env->Res Fl
 |[],ρ=>if holds gs ρ then .ok .nx ρ else .stuck
 | x ::xs,ρ=>if holds gs ρ then(Res.of (DF g x ρ) ρ).bind λρ1 _=>(b ρ1).bind λf ρ=>match f with
     | .nx=>forL g gs b xs ρ
     | .cnt=>forL g gs b xs ρ
     | .brk=>.ok .nx ρ
     | .ret r=>.ok (.ret r) ρ
   else .stuck
noncomputable def E9(k:IK)(g:Tg)(bs:List Nat)(B:Env->Res Fl)(hs:List Hd)(ρ:Env):Res Fl:=match AB ρ hs with
 | some cs=>match Ah k cs with
   |some xs=>if A8 hs cs && (guards hs cs).all (λq=>!(g.slots++bs).contains q.1)then forL g (guards hs cs) B xs ρ else .stuck
   |none=>.stuck
 |none=>.stuck
noncomputable def XM(g:Tg)(c:C)(ρ:Env):Option Env:=match g,c with
 | .nm i,c=>some (ρ.set i (some c))
 | .tup is,.b (.p (.tup vs))=>DF (.tup is) (.tup vs) ρ
 |_,_=>none
mutual
noncomputable def EZ:S->List Nat
 | .asg g _=>g.slots
 | .ifs _ a b=>BA a++BA b
 | .K2 _ b=>BA b
 | .CW g _ _ b=>g.slots++BA b
 |_=>[]
noncomputable def BA:List S->List Nat
 |[]=>[]
 |s::ss=>EZ s++BA ss
end
mutual
noncomputable def exec (cf:CF) (mt:MT) (wh:WH):S->Env->Res Fl
 | .asg g t,ρ=>match g with
   | .nm i=>(ev cf mt t ρ).bind λc ρ=>.ok .nx (ρ.set i (some c))
   | .tup is=>(BV t (ev cf mt t) ρ).bind λh ρ=>Res.of ((h.cont ρ).bind λc=>XM (.tup is) c ρ) ρ |>.bind λρ' _=>.ok .nx ρ'
 | .Dx o i v,ρ=>match placeOf o with
   |some h=>if !h.CQ || i.calm then(ev cf mt v ρ).bind λv ρ=>BS h (ev cf mt i) v ρ else .stuck
   |none=>.stuck
 | .LA i f v,ρ=>(ev cf mt v ρ).bind λv ρ=>MG mt i f v ρ
 | .expr t,ρ=>(ev cf mt t ρ).bind λ_ ρ=>.ok .nx ρ
 | .ret none,ρ=>.ok (.ret (.p .AG)) ρ
 | .ret (some t),ρ=>(ev cf mt t ρ).bind λc ρ=>.ok (.ret c) ρ
 | .ifs c a b,ρ=>(tv cf mt c ρ).bind λx ρ=>if x then execs cf mt wh a ρ else execs cf mt wh b ρ
 | .K2 c b,ρ=>wh (tv cf mt c) (execs cf mt wh b) ρ
 | .CW g k its b,ρ=>if k.ok then(An cf mt its ρ).bind (E9 k g (BA b) (execs cf mt wh b))else .stuck
 | .brk,ρ=>.ok .brk ρ
 | .cnt,ρ=>.ok .cnt ρ
 | .pass,ρ=>.ok .nx ρ
 | .raise,ρ=>.stuck
noncomputable def execs (cf:CF) (mt:MT) (wh:WH):List S->Env->Res Fl
 |[],ρ=>.ok .nx ρ
 | s::ss,ρ=>(exec cf mt wh s ρ).bind λf ρ=>match f with
   | .nx=>execs cf mt wh ss ρ
   |f=>.ok f ρ
end
structure OF where
 np:Nat
 nl:Nat
 body:List S
 deriving Inhabited
noncomputable def FV(fi:OF)(ρ:Env):List (Option C):=(List.range fi.np).map λi=>if(BA fi.body).contains i then none else A9 ρ i
noncomputable def Gm(cf:CF)(mt:MT)(wh:WH)(fi:OF)(args:List C):CR:=
 if args.length=fi.np then match execs cf mt wh fi.body (args.map some++List.replicate (fi.nl - fi.np) none)with
  | .ok .nx ρ=>.ok (.p .AG) (FV fi ρ)
  | .ok (.ret c) ρ=>.ok c (FV fi ρ)
  |_=>.stuck
 else .stuck
noncomputable def A0(fns:List OF)(mt:MT)(wh:WH):Nat->CF
 |0,_,_=>.stuck
 | k + 1,f,args=>match fns[f]? with
   |some fi=>Gm (A0 fns mt wh k) mt wh fi args
   |none=>.stuck
structure Ct where
 N:List Str
 sc:Scope
 fns:List (Str×Nat)
 cls:List (Str×Nat)
 gl:List (Str×P)
 sub:List (Str×List Nat)
 df:Bool
noncomputable def GZ(x:Str):Bool:=!(x == ("__debug__":Str)) && !(x == ("__classdict__":Str)) && decide (x≠"__name__")
def seen:Option NameKind->Bool
 |some .local=>true
 |some .cell=>true
 |some .free=>true
 |_=>false
noncomputable def Ct.slot(ct:Ct)(x:Str):Option Nat:=if GZ x && seen (ct.sc.names.lookup x)then ct.N.idxOf? x else none
def bound(df:Bool):Option NameKind->Bool
 |some .local=>true
 |some .cell=>df
 |_=>false
noncomputable def Ct.F9(ct:Ct)(x:Str):Option Nat:=if GZ x && bound ct.df (ct.sc.names.lookup x)then ct.N.idxOf? x else none
def Ct.glob(ct:Ct)(x:Str):Bool:=GZ x && decide (ct.sc.names.lookup x=some .globalImplicit)
noncomputable def Ct.name(ct:Ct)(x:Str):Option T:=match ct.slot x with
 |some i=>some (.var i)
 | none=>if ct.glob x then(match ct.gl.lookup x with
   |some p=>some (.cst p)
   |none=>none)else none
noncomputable def JR:List Str:=["len","list","tuple","dict","sum","all","any","sorted","abs","str","int","bool","range","enumerate","reversed","set","min","max","zip","isinstance"]
noncomputable def Ct.own(ct:Ct)(x:Str):Bool:=ct.glob x && JR.contains x && (ct.gl.lookup x).isNone && (ct.fns.lookup x).isNone && (ct.cls.lookup x).isNone
noncomputable def cq:Operator->Option O
 | .Add=>some .add| .Sub=>some .sub| .Mult=>some .mul| .Mod=>some .mod| .FloorDiv=>some .fdiv| .Pow=>some .pow
 | .BitAnd=>some .band| .RShift=>some .shr|_=>none
noncomputable def Tn:CmpOp->O
 | .Eq=>.eq| .NotEq=>.ne| .Lt=>.lt| .LtE=>.le| .Gt=>.gt| .GtE=>.ge| .Is=>.is| .IsNot=>.YE| .In=>.Og| .NotIn=>.Yy
def Bp:T->IK×List T
 | .prim (.iter k) ts=>(k,ts)
 |t=>(.op,[t])
noncomputable def tyName(x:Str):Option Ty:=
 if x="int" then some .int else if x="bool" then some .bool else if x="str" then some .str else if x="tuple" then some .tuple
 else if x="list" then some .list else if x="dict" then some .dict else none
noncomputable def Qh:T->Option T
 | .prim (.iter .rev) [u]=>some (.prim (.list .rev) [u])
 | .prim (.iter .zip) [u,w]=>some (.prim (.list .zip) [u,w])
 | .prim (.iter _) _=>none
 |t=>some (.prim (.list .op) [t])
def OY:T->Option T
 | .prim (.iter _) _=>none
 |t=>some (.prim (.tuple .op) [t])
noncomputable def ZL(x:Str)(ts:List T):Option T:=match ts with
 | [t]=>
   if x="len" then some (.prim .len [t])
   else if x="list" then Qh t
   else if x="tuple" then OY t
   else if x="sum" then some (.prim .sum [t])else if x="all" then some (.prim .all [t])
   else if x="sorted" then some (.prim .sorted [t])else if x="range" then some (.prim (.iter .Et) [t])
   else if x="reversed" then some (.prim (.iter .rev) [t])else none
 | [t,u]=>if x="min" then some (.prim .min [t,u])else if x="zip" then some (.prim (.iter .zip) [t,u])
   else if x="range" then some (.prim (.iter .Et) [t,u])else none
 |[t,u,v]=>if x="range" then some (.prim (.iter .Et) [t,u,v])else none
 |_=>none
noncomputable def bu(m:Str)(o:T)(ts:List T):Option T:=match ts with
 |[]=>if m="pop" then some (.F4 .pop o [])else if m="reverse" then some (.F4 .reverse o [])else none
 |[t]=>if m="append" then some (.F4 .append o [t])else if m="extend" then some (.F4 .extend o [t])else none
 |[t,u]=>if m="get" then some (.Jz o [t,u])else none
 |_=>none
noncomputable def Od(ct:Ct):List Expr->Option (List Nat)
 |[]=>some []
 | .Name x _::es=>(ct.F9 x).bind λi=>(Od ct es).map λis=>i::is
 |_::_=>none
noncomputable def Xl(ct:Ct):Expr->Option Tg
 | .Name x _=>(ct.F9 x).map .nm
 | .Tuple es _ _=>(Od ct es).map .tup
 |_=>none
noncomputable def Qy(ct:Ct)(x:Str)(ts:List T):Option T:=match ct.fns.lookup x with
 |some f=>some (.call f ts)
 |none=>(ct.cls.lookup x).map λc=>.make c ts
noncomputable def Ct.block(ct:Ct)(sc:Scope):Ct×List (Option Nat):=
 let own:=(sc.names.filter λq=>q.2 == .local).map (·.1)
 let free:=(sc.names.filter λq=>q.2 == .free).map (·.1)
 ({ct with N:=own++free,sc:=sc,df:=false},own.map (λ_=>none)++free.map λx=>ct.N.idxOf? x)
noncomputable def Rn(N0:List Str)(sc0:Scope)(N:List Str)(scope:Scope)(fr:List (Option Nat)):Bool:=
 (scope.kind == .function) && scope.names.all (λy=>y.2 != .cell) && scope.names.all (λy=>y.2 != .local || scope.names.lookup y.1 == some .local) &&
 scope.names.all (λy=>y.2 != .free || sc0.names.lookup y.1 == some .cell || sc0.names.lookup y.1 == some .free) && (fr.length == N.length) &&
 (List.range fr.length).all λj=>match fr[j]? with
  |some (some i)=>(N[j]? == N0[i]?) && (match N[j]? with|some x=>scope.names.lookup x == some .free|none=>false)
  |_=>true
noncomputable def kM(m:Str)(o:T)(ts:List T):Option T:=match bu m o ts with
 |some z=>some z
 |none=>some (.Bs m o ts)
noncomputable def Xh(m:Str)(n:Nat)(apos pos:Pos):Bool:=(apos.endLine == pos.line) && decide (n < 29) && decide (m≠Str.ofString "__init__")
def aO:List Expr->Option Str
 |[_,.Name y _]=>some y
 |_=>none
mutual
noncomputable def kE (ct:Ct):Expr->Option T
 | .Constant c _ _=>match c with
   | .none=>some (.cst .AG)
   | .bool b=>some (.cst (.bl b))
   | .int i=>some (.cst (.int i))
   | .str x=>some (.cst (.str x))
   |_=>none
 | .Name x _=>ct.name x
 | .Attribute (.Name x _) f _=>(ct.slot x).map λi=>.fld i f
 | .Tuple es _ _=>(M3 ct es).map .tup
 | .List es _=>(M3 ct es).map .lst
 | .Dict ks vs _=>if ks.isEmpty && vs.isEmpty then some (.AJ [] [])else none
 | .BinOp a op b _=>(cq op).bind λo=>(kE ct a).bind λx=>(kE ct b).map λy=>.prim o [x,y]
 | .UnaryOp .Not a _=>(kE ct a).map .not
 | .UnaryOp .USub a _=>(kE ct a).map λx=>.prim .neg [x]
 | .BoolOp op es _=>if 2<=es.length then kB ct op es else none
 | .Compare a [op] [b] _=>(kE ct a).bind λx=>(kE ct b).map λy=>.prim (Tn op) [x,y]
 | .Compare a [o1,o2] [b,c] _=>(kE ct a).bind λx=>(kE ct b).bind λy=>(kE ct c).bind λz=>match z with
   | .cst p=>if HM p then some (.prim (.chain (Tn o1) (Tn o2)) [x,y,.cst p])else none
   |_=>none
 | .Subscript v (.Slice lo hi none _) _=>(kE ct v).bind λx=>(kO ct lo).bind λl=>(kO ct hi).map λh=>.prim (.Gj (!l.isEmpty) (!h.isEmpty)) (x::(l++h))
 | .Subscript v i _=>(kE ct v).bind λx=>(kE ct i).map λy=>.prim .idx [x,y]
 | .ListComp elt [⟨tg,it,ifs,ia⟩] sc _=>(kE ct it).bind λx=>(Xl (ct.block sc).1 tg).bind λg=>(M3 (ct.block sc).1 ifs).bind λcs=>(kE (ct.block sc).1 elt).bind λe=>
  if decide (ia=0) && decide (cs.length<=1) && Rn ct.N ct.sc (ct.block sc).1.N sc (ct.block sc).2 && decide ((ct.block sc).1.N.Nodup)then some (.comp g (Bp x).1 (Bp x).2 cs e (ct.block sc).2)else none
 | .Call (.Name x _) args [] _=>
   if ct.own x then(if x="isinstance" then(aO args).bind λy=>(bR ct args).bind λt=>if ct.own y then(tyName y).map λk=>.prim (.Js k) [t]else none else(M3 ct args).bind (ZL x))
   else(M3 ct args).bind λts=>match ct.slot x with
    |some i=>some (.OC i ts)
    |none=>if ct.glob x then Qy ct x ts else none
 | .Call (.Attribute (.Name x _) m apos) args [] pos=>if Xh m args.length apos pos then(ct.slot x).bind λi=>(M3 ct args).bind (kM m (.var i))else none
 | .Call (.Attribute (.Attribute (.Name x _) f _) m apos) args [] pos=>if Xh m args.length apos pos then(ct.slot x).bind λi=>(M3 ct args).bind (kM m (.fld i f))else none
 |_=>none
noncomputable def M3 (ct:Ct):List Expr->Option (List T)
 |[]=>some []
 |e::es=>(kE ct e).bind λt=>(M3 ct es).map λts=>t::ts
noncomputable def bR (ct:Ct):List Expr->Option T
 |[]=>none
 |e::_=>kE ct e
noncomputable def kO (ct:Ct):Option Expr->Option (List T)
 |none=>some []
 |some e=>(kE ct e).map λt=>[t]
noncomputable def kB (ct:Ct) (op:PySem.BoolOp):List Expr->Option T
 |[]=>none
 |[e]=>kE ct e
 |e::es=>(kE ct e).bind λx=>(kB ct op es).map λy=>match op with| .And=>.and x y| .Or=>.or x y
end
noncomputable def Cc:Expr->Bool
 | .ListComp _ _ _ _=>true
 | .SetComp _ _ _ _=>true
 | .DictComp _ _ _ _ _=>true
 |_=>false
mutual
noncomputable def kS (ct:Ct):Stmt->Option S
 | .Assign [tg] e _=>(kE ct e).bind λt=>match tg with
   | .Name x _=>(ct.F9 x).map λi=>.asg (.nm i) t
   | .Subscript (.Name x _) i _=>(ct.slot x).bind λj=>(kE ct i).map λb=>.Dx (.var j) b t
   | .Subscript (.Attribute (.Name x _) f _) i _=>(ct.slot x).bind λj=>(kE ct i).map λb=>.Dx (.fld j f) b t
   | .Attribute (.Name x _) f _=>(ct.slot x).map λi=>.LA i f t
   |_=>none
 | .Expr (.Constant (.str _) _ _) _=>some .pass
 | .Expr e _=>if Cc e then none else(kE ct e).map .expr
 | .Return none _=>some (.ret none)
 | .Return (some e) _=>(kE ct e).map λt=>.ret (some t)
 | .If c a b _=>(kE ct c).bind λt=>(Qw ct a).bind λx=>(Qw ct b).map λy=>.ifs t x y
 | .While c b [] _=>(kE ct c).bind λt=>(Qw ct b).map λx=>.K2 t x
 | .For tg it b [] _=>(Xl ct tg).bind λg=>(kE ct it).bind λt=>(Qw ct b).map λx=>.CW g (Bp t).1 (Bp t).2 x
 | .Break _=>some .brk
 | .Continue _=>some .cnt
 | .Pass _=>some .pass
 | .Raise _ _ _=>some .raise
 |_=>none
noncomputable def Qw (ct:Ct):List Stmt->Option (List S)
 |[]=>some []
 |s::ss=>(kS ct s).bind λt=>(Qw ct ss).map λts=>t::ts
end
def bV:Stmt->Str
 | .FunctionDef n ..=>n
 |_=>⟨#[]⟩
def JK:Stmt->Scope
 | .FunctionDef _ _ _ _ _ _ sc ..=>sc
 |_=>⟨.module,[],false,false,[]⟩
def Ra:Stmt->List Stmt
 | .FunctionDef _ _ b ..=>b
 |_=>[]
def EM:Stmt->List Str
 | .FunctionDef _ a ..=>a.args.map (·.arg)
 |_=>[]
noncomputable def namesOf(st:Stmt):List Str:=
 let ps:=EM st
 ps++((JK st).names.filter λq=>(q.2 == .local || q.2 == .cell) && !ps.contains q.1).map (·.1)
noncomputable def U6(st:Stmt)(fn cl:List (Str×Nat))(gl:List (Str×P))(sub:List (Str×List Nat)):Ct:=⟨namesOf st,JK st,fn,cl,gl,sub,true⟩
def ZD(st:Stmt)(ct:Ct):Option OF:=(Qw ct (Ra st)).map λb=>⟨(EM st).length,ct.N.length,b⟩
end Iv
namespace Iv
open PySem L2
structure Wd where
 K:PySem.W.Frag
 w:World
 FJ:Nat->Addr
 IA:Nat->Addr
mutual
noncomputable def Av (W:Wd) (H:Hp):P->V->Prop
 | .AG,v=>v= .AG
 | .bl b,v=>v= .bl b
 | .int i,v=>v= .int i
 | .str x,v=>v= .str x
 | .fn i,v=>v= .ref (W.IA i)
 | .tup ps,v=>∃a vs,v= .ref a/\En W.K H a vs/\A7 W H ps vs
noncomputable def A7 (W:Wd) (H:Hp):List P->List V->Prop
 |[],vs=>vs=[]
 |p::ps,vs=>∃v r,vs=v::r/\Av W H p v/\A7 W H ps r
end
def Bm(H H':Hp):Prop:=∀a,(∀xs,H a=some (.tup xs)->H' a=some (.tup xs))/\∀o u,H a=some (.N9 o u)->H' a=some (.N9 o u)
variable{H H1 H2:Hp}
theorem Bm.trans(a:Bm H H1)(b:Bm H1 H2):Bm H H2:=λc=>⟨λxs h=>(b c).1 xs ((a c).1 xs h),λo u h=>(b c).2 o u ((a c).2 o u h)⟩
variable{H':Hp}
theorem Bm.of(h:Di H H'):Bm H H':=λa=>⟨λ_ q=>h a _ q,λ_ _ q=>h a _ q⟩
variable{xs:List V}
theorem Bm.cn{K:PySem.W.Frag}(k:Bm H H')(h:En K H a xs):En K H' a xs:=by
 rcases h with(h|⟨o,h⟩)|h
 . exact .inl (.inl ((k a).1 _ h))
 . exact .inl (.inr ⟨o,(k a).2 _ _ h⟩)
 . exact .inr h
mutual
theorem Av.mono {W:Wd} {H H':Hp} (k:Bm H H'):∀{p:P} {v:V},Av W H p v->Av W H' p v
 | .AG,_,h=>h
 | .bl _,_,h=>h
 | .int _,_,h=>h
 | .str _,_,h=>h
 | .fn _,_,h=>h
 | .tup ps,v,h=>by
   unfold Av at h ⊢;obtain⟨a,vs,e,h1,h2⟩:=h;exact⟨a,vs,e,k.cn h1,A7.mono k h2⟩
theorem A7.mono {W:Wd} {H H':Hp} (k:Bm H H'):∀{ps:List P} {vs:List V},A7 W H ps vs->A7 W H' ps vs
 |[],_,h=>h
 | p::ps,vs,h=>by
   unfold A7 at h ⊢;obtain⟨v,r,e,h1,h2⟩:=h;exact⟨v,r,e,Av.mono k h1,A7.mono k h2⟩
end
variable{W:Wd}
theorem A7.nil:A7 W H [] []:=rfl
theorem A7.cons{W:Wd}{H:Hp}{ps:List P}{vs:List V}(h:Av W H p v)(t:A7 W H ps vs):A7 W H (p::ps) (v::vs):=by unfold A7;exact⟨v,vs,rfl,h,t⟩
variable{vs:List V}
theorem A7.Bo{p:P}{v:V}{ps:List P}(h:A7 W H (p::ps) (v::vs)):Av W H p v/\A7 W H ps vs:=by
 unfold A7 at h;obtain⟨_,_,e,h1,h2⟩:=h;cases e;exact⟨h1,h2⟩
theorem A7.length:∀{ps:List P} {vs:List V},A7 W H ps vs->vs.length=ps.length
 | [],vs,h=>by
   unfold A7 at h;rw[h];rfl
 | p::ps,vs,h=>by
   unfold A7 at h;obtain⟨v,r,e,_,h2⟩:=h;rw[e,lC,lC,A7.length h2]
theorem A7.append{qs:List P}{ws:List V}(k:A7 W H qs ws):∀{ps:List P} {vs:List V},A7 W H ps vs->A7 W H (ps++qs) (vs++ws)
 | [],vs,h=>by
   unfold A7 at h;rw[h];exact k
 | p::ps,vs,h=>by
   unfold A7 at h;obtain⟨v,r,e,h1,h2⟩:=h;rw[e];exact .cons h1 (A7.append k h2)
theorem A7.get:∀{ps:List P} {vs:List V} {i:Nat} {p:P},A7 W H ps vs->ps[i]? =some p->∃v,vs[i]? =some v/\Av W H p v
 |[],vs,i,p,_,e=>by simp at e
 | q ::ps,vs,i,p,h,e=>by
   unfold A7 at h;obtain⟨v,r,e',h1,h2⟩:=h;subst e';cases i with
   | zero=>
     simp at e;subst e;exact⟨v,rfl,h1⟩
   | succ i=>
     obtain⟨u,g1,g2⟩:=A7.get (i:=i) h2 (by simpa using e);exact⟨u,by simpa using g1,g2⟩
theorem A7.get':∀{ps:List P} {vs:List V} {i:Nat} {v:V},A7 W H ps vs->vs[i]? =some v->∃p,ps[i]? =some p/\Av W H p v
 | [],vs,i,p,h,e=>by
   unfold A7 at h;rw[h]at e;simp at e
 | q ::ps,vs,i,p,h,e=>by
   unfold A7 at h;obtain⟨v,r,e',h1,h2⟩:=h;subst e';cases i with
   | zero=>
     simp at e;subst e;exact⟨q,rfl,h1⟩
   | succ i=>
     obtain⟨u,g1,g2⟩:=A7.get' (i:=i) h2 (by simpa using e);exact⟨u,by simpa using g1,g2⟩
theorem A7.drop{ps:List P}(h:A7 W H ps vs)(n:Nat):A7 W H (ps.drop n) (vs.drop n):=by
 induction n generalizing ps vs with
 |zero=>exact h
 | succ n ih=>
   cases ps with
   |nil=>unfold A7 at h;rw[h];simp;exact .nil
   | cons p ps=>
     cases vs with
     |nil=>unfold A7 at h;obtain⟨_,_,e,_⟩:=h;cases e
     |cons v vs=>exact ih h.Bo.2
theorem A7.take{ps:List P}(h:A7 W H ps vs)(n:Nat):A7 W H (ps.take n) (vs.take n):=by
 induction n generalizing ps vs with
 |zero=>simp;exact .nil
 | succ n ih=>
   cases ps with
   |nil=>unfold A7 at h;rw[h];simp;exact .nil
   | cons p ps=>
     cases vs with
     |nil=>unfold A7 at h;obtain⟨_,_,e,_⟩:=h;cases e
     |cons v vs=>exact .cons h.Bo.1 (ih h.Bo.2)
theorem A7.reverse{ps:List P}(h:A7 W H ps vs):A7 W H ps.reverse vs.reverse:=by
 induction ps generalizing vs with
 |nil=>unfold A7 at h;rw[h];exact .nil
 | cons p ps ih=>
   cases vs with
   |nil=>unfold A7 at h;obtain⟨_,_,e,_⟩:=h;cases e
   | cons v vs=>
     rw[reverse_cons,reverse_cons];exact A7.append (.cons h.Bo.1 .nil) (ih h.Bo.2)
mutual
noncomputable def Dp (w:World):P->Int
 | .int i=>hashInt i
 | .str x=>hashStr w x
 | .tup ps=>reduceHash (Builtin.Tuple.tupleHashOf (Hl w ps))
 |_=>0
noncomputable def Hl (w:World):List P->List Int
 |[]=>[]
 |p::ps=>Dp w p::Hl w ps
end
noncomputable def DX(a:Addr)(es:List DictEntry):HO:=.ext λh=>∃o,h.get? a=some o/\o.ExactDict/\o.data= .dict es.toArray es.length
def FL(W:Wd)(H:Hp)(q:P×P)(e:DictEntry):Prop:=e.hash=Dp W.w q.1/\(∃k,RelV k e.key/\Av W H q.1 k)/\∃v,RelV v e.val/\Av W H q.2 v
structure Dj(W:Wd)(H:Hp)(a:Addr)(kvs:List (P×P)):Prop where
 ex:∃es:List DictEntry,H a=some (DX a es)/\Paired (FL W H) kvs es
 nd:(kvs.map (·.1)).Nodup
 ks:∀q∈kvs,keyOk q.1=true
 len:kvs.length<=big
 sm:(a == sysModules)=false
theorem FL.mono(k:Bm H H'){q:P×P}{e:DictEntry}(h:FL W H q e):FL W H' q e:=
 ⟨h.1,let⟨v,a,b⟩:=h.2.1;⟨v,a,b.mono k⟩,let⟨v,a,b⟩:=h.2.2;⟨v,a,b.mono k⟩⟩
theorem Dj.mono{kvs:List (P×P)}(k:Bm H H')(h:Dj W H a kvs)(ha:H' a=H a):Dj W H' a kvs:=
 ⟨let⟨es,e,r⟩:=h.ex;⟨es,by rw[ha];exact e,Paired.Qf r λ_ _ z=>z.mono k⟩,h.nd,h.ks,h.len,h.sm⟩
def Ut(K:PySem.W.Frag)(H:Hp)(a:Addr)(xs:List V):Prop:=(∃o,H a=some (.N9 o (.lst xs)))\/
    ∃(o:Obj) (its:Array Value) (n:Nat),K.lookup a=some o/\o.cls= .type "list"/\o.dict=none/\o.data= .seq its n/\its.size<=sizeLine/\Vals xs its.toList
theorem Ut.mono{K:PySem.W.Frag}(k:Bm H H')(h:Ut K H a xs):Ut K H' a xs:=by
 rcases h with⟨o,h⟩|h
 . exact .inl ⟨o,(k a).2 _ _ h⟩
 . exact .inr h
theorem Ut.sq{K:PySem.W.Frag}(h:Ut K H a xs):Dt K H a xs:=by
 rcases h with⟨o,h⟩|h
 . exact .inl (.inr ⟨o,h⟩)
 . exact .inr h
noncomputable def C4(W:Wd)(H:Hp):B->V->List Addr->Prop
 | .p x,v,o=>Av W H x v/\o=[]
 | .ro ps,v,o=>(∃a vs,v= .ref a/\Ut W.K H a vs/\A7 W H ps vs)/\o=[]
 | .lst ps,v,o=>∃a vs,v= .ref a/\H a=some (.lst vs)/\A7 W H ps vs/\o=[a]
 | .AJ kvs,v,o=>∃a,v= .ref a/\Dj W H a kvs/\o=[a]
noncomputable def BL(W:Wd)(H:Hp):List (Str×B)->List (Str×V)->List Addr->Prop
 |[],vs,o=>vs=[]/\o=[]
 |(f,b)::fs,vs,o=>∃v r o1 o2,vs=(f,v)::r/\C4 W H b v o1/\BL W H fs r o2/\o=o1++o2
def Uw(W:Wd)(c:Nat)(fs:List (Str×B)):Prop:=JZ W.K (W.FJ c)/\∀q∈fs,Ci W.K (W.FJ c) q.1
theorem KC{f:Str}{b:B}:∀{fs:List (Str×B)} {q:Str×B},q∈Br f b fs->q.1=f\/∃q'∈fs,q'.1=q.1
 | [],q,h=>by
   have h:q∈[(f,b)]:=h;rw[mE h];exact .inl rfl
 | (g, c)::fs,q,h=>by
   unfold Br at h;split at h
   . rename_i hg;rcases mK h with z|z
     . rw[z];exact .inl hg
     . exact .inr ⟨q,mC z,rfl⟩
   . rcases mK h with z|z
     . rw[z];exact .inr ⟨(g,c),mS,rfl⟩
     . rcases KC z with y|⟨q',y1,y2⟩
       . exact .inl y
       . exact .inr ⟨q',mC y1,y2⟩
theorem Uw.put{c:Nat}{fs:List (Str×B)}(h:Uw W c fs)(n:Ci W.K (W.FJ c) f):Uw W c (Br f b fs):=⟨h.1,λq hq=>by
 rcases KC hq with z|⟨q',z1,z2⟩
 . rw[z];exact n
 . rw[<-z2];exact h.2 q' z1⟩
noncomputable def Bt(W:Wd)(H:Hp):C->V->List Addr->Prop
 | .b x,v,o=>C4 W H x v o
 | .obj c fs,v,o=>∃a dx vs os,v= .ref a/\H a=some (.ins (W.FJ c) dx vs)/\BL W H fs vs os/\o=a::os/\Uw W c fs
def Mu(x:HO):Prop:=(∀xs,x≠.tup xs)/\∀o u,x≠.N9 o u
theorem C4.own(h:C4 W H b v o):∀a∈o,∃x,H a=some x/\Mu x:=by
 cases b with
 |p x=>rw[h.2];intro a ha;cases ha
 |ro x=>rw[h.2];intro a ha;cases ha
 | lst ps=>
   obtain⟨a,vs,e,ha,_,rfl⟩:=h;intro b hb;rw[mE hb];exact⟨_,ha,λ_ z=>HO.noConfusion z,λ_ _ z=>HO.noConfusion z⟩
 | AJ kvs=>
   obtain⟨a,e,ha,rfl⟩:=h;intro b hb;rw[mE hb];obtain⟨es,h1,_⟩:=ha.ex;exact⟨_,h1,λ_ z=>HO.noConfusion z,λ_ _ z=>HO.noConfusion z⟩
theorem BL.own:∀{fs:List (Str×B)} {vs:List (Str×V)} {o:List Addr},BL W H fs vs o->∀a∈o,∃x,H a=some x/\Mu x
 |[],_,_,h=>by rw[h.2];intro a ha;cases ha
 | (f,b)::fs,_,_,⟨v,r,o1,o2,_,h1,h2,e⟩=>by
   rw[e];intro a ha;rcases mem_append.mp ha with z|z
   . exact h1.own a z
   . exact BL.own h2 a z
theorem Bt.own(h:Bt W H c v o):∀a∈o,∃x,H a=some x/\Mu x:=by
 cases c with
 |b x=>exact C4.own h
 | obj c fs=>
   obtain⟨a,dx,vs,os,e,ha,hf,rfl,_⟩:=h;intro b hb;rcases mK hb with z|z
   . rw[z];exact⟨_,ha,λ_ z=>HO.noConfusion z,λ_ _ z=>HO.noConfusion z⟩
   . exact hf.own b z
def JX(os:List Addr)(H H':Hp):Prop:=∀b x,H b=some x->b∉os->H' b=some x
variable{os:List Addr}
theorem JX.keep(h:JX os H H')(m:∀a∈os,∃x,H a=some x/\Mu x):Bm H H':=λa=>by
 refine⟨λxs e=>h a _ e λz=>?_,λo u e=>h a _ e λz=>?_⟩
 . obtain⟨x,e',m1,_⟩:=m a z;rw[e]at e';exact m1 xs (Option.some.inj e').symm
 . obtain⟨x,e',_,m2⟩:=m a z;rw[e]at e';exact m2 o u (Option.some.inj e').symm
theorem JX.refl(os:List Addr)(H:Hp):JX os H H:=λ_ _ h _=>h
theorem JX.of(os:List Addr)(h:Di H H'):JX os H H':=λb x e _=>h b x e
theorem C4.frame(h:C4 W H b v o)(k:Bm H H')(f:JX os H H')(d:∀a∈o,a∉os):C4 W H' b v o:=by
 cases b with
 |p x=>exact⟨h.1.mono k,h.2⟩
 | ro x=>
   obtain⟨⟨a,vs,e,h1,h2⟩,h3⟩:=h;exact⟨⟨a,vs,e,h1.mono k,h2.mono k⟩,h3⟩
 | lst ps=>
   obtain⟨a,vs,e,ha,hp,rfl⟩:=h;exact⟨a,vs,e,f _ _ ha (d a mS),hp.mono k,rfl⟩
 | AJ kvs=>
   obtain⟨a,e,ha,rfl⟩:=h;obtain⟨es,h1,_⟩:=ha.ex;exact⟨a,e,ha.mono k (by rw[h1];exact f _ _ h1 (d a mS)),rfl⟩
theorem BL.frame(k:Bm H H')(f:JX os H H'):∀{fs:List (Str×B)} {vs:List (Str×V)} {o:List Addr},BL W H fs vs o->(∀a∈o,a∉os)->BL W H' fs vs o
 |[],_,_,h,_=>h
 | (g,b)::fs,_,_,⟨v,r,o1,o2,e1,h1,h2,e⟩,d=>by
   subst e;exact⟨v,r,o1,o2,e1,h1.frame k f (λa ha=>d a (mL ha)),BL.frame k f h2 (λa ha=>d a (mR ha)),rfl⟩
theorem Bt.frame(h:Bt W H c v o)(k:Bm H H')(f:JX os H H')(d:∀a∈o,a∉os):Bt W H' c v o:=by
 cases c with
 |b x=>exact C4.frame h k f d
 | obj c fs=>
   obtain⟨a,dx,vs,os',e,ha,hf,rfl,Aj⟩:=h;exact⟨a,dx,vs,os',e,f _ _ ha (d a mS),hf.frame k f (λb hb=>d b (mC hb)),rfl,Aj⟩
theorem Bt.cp{c:C}(h:Bt W H c v o)(hc:c.cp=true):o=[]:=by
 cases c with
 |obj c fs=>cases hc
 | b x=>
   cases x with
   |p x=>exact h.2
   |ro x=>exact h.2
   |lst x=>cases hc
   |AJ x=>cases hc
noncomputable def Ab(W:Wd)(H:Hp):Env->St->List Addr->Prop
 |[],σ,os=>σ=[]/\os=[]
 |none::ρ,σ,os=>∃x r,σ=x::r/\Ab W H ρ r os
 |some c::ρ,σ,os=>∃v r o o2,σ=some v::r/\Bt W H c v o/\Ab W H ρ r o2/\os=o++o2
theorem Ab.own:∀{ρ:Env} {σ:St} {os:List Addr},Ab W H ρ σ os->∀a∈os,∃x,H a=some x/\Mu x
 |[],_,_,h=>by rw[h.2];intro a ha;cases ha
 |none::ρ,_,_,⟨x,r,_,h⟩=>Ab.own h
 | some c::ρ,_,_,⟨v,r,o1,o2,_,h1,h2,e⟩=>by
   rw[e];intro a ha;rcases mem_append.mp ha with z|z
   . exact h1.own a z
   . exact Ab.own h2 a z
theorem Ab.length:∀{ρ:Env} {σ:St} {os:List Addr},Ab W H ρ σ os->σ.length=ρ.length
 |[],_,_,h=>by rw[h.1];rfl
 |none::ρ,_,_,⟨x,r,e,h⟩=>by rw[e,lC,lC,Ab.length h]
 |some c::ρ,_,_,⟨v,r,o1,o2,e,h1,h2,_⟩=>by rw[e,lC,lC,Ab.length h2]
theorem Ab.frame(k:Bm H H')(f:JX os H H'):∀{ρ:Env} {σ:St} {o:List Addr},Ab W H ρ σ o->(∀a∈o,a∉os)->Ab W H' ρ σ o
 |[],_,_,h,_=>h
 |none::ρ,_,_,⟨x,r,e,h⟩,d=>⟨x,r,e,Ab.frame k f h d⟩
 | some c::ρ,_,_,⟨v,r,o1,o2,e1,h1,h2,e⟩,d=>by
   subst e;exact⟨v,r,o1,o2,e1,h1.frame k f (λa ha=>d a (mL ha)),Ab.frame k f h2 (λa ha=>d a (mR ha)),rfl⟩
theorem Ab.same{σ:St}(h:Ab W H ρ σ os)(s:Di H H'):Ab W H' ρ σ os:=h.frame (os:=[]) (Bm.of s) (JX.of _ s) (λ_ _ z=>by cases z)
theorem Ex(x:Option C)(ρ:Env)(i:Nat):A9 (x::ρ) (i + 1)=A9 ρ i:=rfl
theorem Iu(x:Option C)(ρ:Env):A9 (x::ρ) 0=x:=rfl
theorem Ab.take:∀{ρ:Env} {σ:St} {os:List Addr} {i:Nat} {c:C},Ab W H ρ σ os->A9 ρ i=some c->
 ∃v o os',σ[i]? =some (some v)/\Bt W H c v o/\Ab W H (ρ.set i none) σ os'/\(o++os').Perm os
 |[],_,_,i,c,_,e=>by simp[A9]at e
 | x::ρ,σ,os,0,c,h,e=>by
   rw[Iu]at e;subst e;obtain⟨v,r,o,o2,e1,h1,h2,e2⟩:=h;subst e1 e2;exact⟨v,o,o2,rfl,h1,⟨some v,r,rfl,h2⟩,.refl _⟩
 | none::ρ,σ,os,i + 1,c,⟨x,r,e1,h⟩,e=>by
   rw[Ex]at e;subst e1;obtain⟨v,o,os',g1,g2,g3,g4⟩:=Ab.take h e;exact⟨v,o,os',by simpa using g1,g2,⟨x,r,rfl,g3⟩,g4⟩
 | some d::ρ,σ,os,i + 1,c,⟨u,r,o1,o2,e1,h1,h2,e2⟩,e=>by
   rw[Ex]at e;subst e1 e2;obtain⟨v,o,os',g1,g2,g3,g4⟩:=Ab.take h2 e;refine⟨v,o,o1++os',by simpa using g1,g2,⟨u,r,o1,os',rfl,h1,g3,rfl⟩,?_⟩;refine List.Perm.trans ?_ (g4.append_left o1);rw[<-append_assoc,<-append_assoc];exact perm_append_comm.append_right os'
theorem Ab.get{σ:St}{i:Nat}{c:C}(h:Ab W H ρ σ os)(e:A9 ρ i=some c):∃v o,σ[i]? =some (some v)/\Bt W H c v o/\∀a∈o,a∈os:=by
 obtain⟨v,o,os',g1,g2,g3,g4⟩:=h.take e;exact⟨v,o,g1,g2,λa ha=>g4.subset (mL ha)⟩
variable{ρ:Env}
theorem Ab.drop{σ:St}(h:Ab W H ρ σ os)(i:Nat):∃os',Ab W H (ρ.set i none) σ os'/\∃o,(o++os').Perm os:=by
 cases e:A9 ρ i with
 | some c=>
   obtain⟨v,o,os',_,_,g3,g4⟩:=h.take e;exact⟨os',g3,o,g4⟩
 | none=>
   have:ρ.set i none=ρ:=by
    apply ext_getElem?;intro j;rw[List.getElem?_set];split
    . rename_i hj;subst hj;split
      . rename_i hl;unfold A9 at e;rw[List.getElem?_eq_getElem hl]at e ⊢;have e:ρ[i]=none:=e;rw[e]
      . rename_i hl;rw[List.getElem?_eq_none (by lia)]
    . rfl
   rw[this];exact⟨os,h,[],.refl _⟩
theorem Ab.fill(hc:Bt W H c v o):∀{ρ:Env} {σ:St} {os:List Addr} {i:Nat},Ab W H ρ σ os->A9 ρ i=none->i < ρ.length->
 ∃os',Ab W H (ρ.set i (some c)) (σ.set i (some v)) os'/\os'.Perm (o++os)
 |[],_,_,i,_,_,hi=>absurd hi (by simp)
 | x::ρ,σ,os,0,h,e,_=>by
   rw[Iu]at e;subst e;obtain⟨y,r,e1,h1⟩:=h;subst e1;exact⟨o++os,⟨v,r,o,os,rfl,hc,h1,rfl⟩,.refl _⟩
 | none::ρ,σ,os,i + 1,⟨x,r,e1,h⟩,e,hi=>by
   rw[Ex]at e;subst e1;obtain⟨os',g1,g2⟩:=Ab.fill hc h e (by simpa using hi);exact⟨os',⟨x,_,rfl,g1⟩,g2⟩
 | some d::ρ,σ,os,i + 1,⟨u,r,o1,o2,e1,h1,h2,e2⟩,e,hi=>by
   rw[Ex]at e;subst e1 e2;obtain⟨os',g1,g2⟩:=Ab.fill hc h2 e (by simpa using hi);refine⟨o1++os',⟨u,_,o1,os',rfl,h1,g1,rfl⟩,?_⟩;refine List.Perm.trans (g2.append_left o1) ?_;rw[<-append_assoc,<-append_assoc];exact perm_append_comm.append_right o2
theorem C5{i:Nat}(h:i < ρ.length):A9 (ρ.set i x) i=x:=by
 unfold A9;rw[List.getElem?_set_self h];rfl
theorem Dq{i:Nat}{c:C}(h:A9 ρ i=some c):i < ρ.length:=by
 unfold A9 at h;rcases Nat.lt_or_ge i ρ.length with z|z
 . exact z
 . rw[List.getElem?_eq_none z]at h;cases h
theorem set_same{α:Type}{l:List α}{i:Nat}{x:α}(h:l[i]? =some x):l.set i x=l:=by
 apply ext_getElem?;intro j;rw[List.getElem?_set];split
 . rename_i e;subst e;split
   . exact h.symm
   . rename_i hl;rw[List.getElem?_eq_none (by lia)]
 . rfl
theorem Ab.put(hc:Bt W H c v o){σ:St}{i:Nat}(h:Ab W H ρ σ os)(hi:i < ρ.length):
 ∃os' od,Ab W H (ρ.set i (some c)) (σ.set i (some v)) (os')/\(od++os').Perm (o++os):=by
 obtain⟨os1,h1,o1,p1⟩:=h.drop i;obtain⟨os2,h2,p2⟩:=Ab.fill hc h1 (C5 hi) (by simpa using hi);rw[set_set]at h2;refine⟨os2,o1,h2,?_⟩;refine(p2.append_left o1).trans ?_;refine List.Perm.trans ?_ (p1.append_left o);rw[<-append_assoc,<-append_assoc];exact perm_append_comm.append_right os1
structure Bn(H H':Hp)(os os':List Addr):Prop where
 but:JX os H H'
 src:∀a∈os',a∈os\/H a=none
 there:∀b x,H b=some x->∃x',H' b=some x'
theorem Bn.refl(H:Hp)(os:List Addr):Bn H H os os:=⟨JX.refl _ _,λ_ h=>.inl h,λ_ x h=>⟨x,h⟩⟩
variable{os1 os2:List Addr}
theorem Bn.trans(a:Bn H H1 os os1)(b:Bn H1 H2 os1 os2):Bn H H2 os os2 where
 but:=λx o e n=>b.but x o (a.but x o e n) λz=>by
  rcases a.src x z with q|q
  . exact n q
  . rw[e]at q;cases q
 src :=λx hx=>by
  rcases b.src x hx with q|q
  . exact a.src x q
  . refine .inr ?_;cases e:H x with
    |none=>rfl
    |some o=>obtain⟨o',e'⟩:=a.there x o e;rw[q]at e';cases e'
 there:=λx o e=>by
  obtain⟨o',e'⟩:=a.there x o e;exact b.there x o' e'
variable{os':List Addr}
theorem Bn.of(s:Di H H')(h:∀a∈os',a∈os\/H a=none):Bn H H' os os':=⟨JX.of _ s,h,λb x e=>⟨x,s b x e⟩⟩
theorem Bn.sub(a:Bn H H' os os')(h:∀x∈os2,x∈os'):Bn H H' os os2:=⟨a.but,λx hx=>a.src x (h x hx),a.there⟩
theorem Bn.more(a:Bn H H' os os')(r:List Addr):Bn H H' (r++os) (r++os'):=
 ⟨λb x e n=>a.but b x e λz=>n (mR z),λx hx=>by
   rcases mem_append.mp hx with z|z
   . exact .inl (mL z)
   . rcases a.src x z with q|q
     . exact .inl (mR q)
     . exact .inr q,a.there⟩
theorem Bn.perm{os1':List Addr}(a:Bn H H' os os')(h:os.Perm os1)(h':os'.Perm os1'):Bn H H' os1 os1':=
 ⟨λb x e n=>a.but b x e λz=>n (h.subset z),λx hx=>by
   rcases a.src x (h'.symm.subset hx)with q|q
   . exact .inl (h.subset q)
   . exact .inr q,a.there⟩
noncomputable def Eo(W:Wd)(H:Hp):C->V->Prop
 | .b (.p x),v=>Av W H x v
 | .b (.ro ps),v=>∃a vs,v= .ref a/\Ut W.K H a vs/\A7 W H ps vs
 | .b (.lst ps),v=>∃a vs,v= .ref a/\H a=some (.lst vs)/\A7 W H ps vs
 | .b (.AJ kvs),v=>∃a,v= .ref a/\Dj W H a kvs
 | .obj c _,v=>∃a dx vs,v= .ref a/\H a=some (.ins (W.FJ c) dx vs)
theorem C4.rd(h:C4 W H b v o):Eo W H (.b b) v:=by
 cases b with
 |p x=>exact h.1
 |ro ps=>obtain⟨⟨a,vs,e,h1,h2⟩,_⟩:=h;exact⟨a,vs,e,h1,h2⟩
 |lst ps=>obtain⟨a,vs,e,h1,h2,_⟩:=h;exact⟨a,vs,e,h1,h2⟩
 |AJ kvs=>obtain⟨a,e,h1,_⟩:=h;exact⟨a,e,h1⟩
theorem Bt.rd(h:Bt W H c v o):Eo W H c v:=by
 cases c with
 |b b=>exact C4.rd h
 |obj c fs=>obtain⟨a,dx,vs,os,e,h1,_⟩:=h;exact⟨a,dx,vs,e,h1⟩
theorem BL.look:∀{fs:List (Str×B)} {vs:List (Str×V)} {o:List Addr} {b:B},BL W H fs vs o->fs.lookup f=some b->∃v o',vs.lookup f=some v/\C4 W H b v o'/\∀a∈o',a∈o
 |[],_,_,_,_,e=>by simp at e
 | (g,c)::fs,_,_,b,⟨v,r,o1,o2,e1,h1,h2,e⟩,el=>by
   subst e1 e;rw[lookup_cons]at el ⊢;cases hg:f == g with
   | true=>
     rw[hg]at el;cases el;exact⟨v,o1,rfl,h1,λa ha=>mL ha⟩
   | false=>
     rw[hg]at el;obtain⟨u,o',g1,g2,g3⟩:=BL.look h2 el;exact⟨u,o',g1,g2,λa ha=>mR (g3 a ha)⟩
section
variable (W:Wd){α β:Type}
def Ck(rep:Hp->Env->α->β->List Addr->Prop)(H:Hp)(os:List Addr)(σ:St)(r:Res α)(Q:β->Hp->Prop):Prop:=match r with
 | .stuck=>False
 | .ok a ρ'=>∀b H' o os',rep H' ρ' a b o->Ab W H' ρ' σ os'->(o++os').Nodup->Bn H H' os (o++os')->Q b H'
def tG(rep:St->Hp->Env->α->β->List Addr->Prop)(F:Env->Res α):St->Hp->(β->Hp->Prop)->Prop:=λσ H Q=>∃ρ os,Ab W H ρ σ os/\os.Nodup/\Ck W (rep σ) H os σ (F ρ) Q
def rV:St->Hp->Env->C->V->List Addr->Prop:=λ_ H _ c v o=>Bt W H c v o
def E8:St->Hp->Env->Hd->V->List Addr->Prop:=λσ H _ h v o=>match h with
 | .BG c=>Bt W H c v o
 | .slot i=>σ[i]? =some (some v)/\o=[]
 | .fld i f=>o=[]/\∃a C dx fs,σ[i]? =some (some (.ref a))/\H a=some (.ins C dx fs)/\fs.lookup f=some v
noncomputable def Be:St->Hp->Env->List Hd->List V->List Addr->Prop
 |_,_,_,[],vs,o=>vs=[]/\o=[]
 |σ,H,ρ,h::hs,vs,o=>∃v r o1 o2,vs=v::r/\E8 W σ H ρ h v o1/\Be σ H ρ hs r o2/\o=o1++o2
def bL:St->Hp->Env->List P->List V->List Addr->Prop:=λ_ H _ ps vs o=>A7 W H ps vs/\o=[]
def rB:St->Hp->Env->Bool->Bool->List Addr->Prop:=λ_ _ _ b b' o=>b=b'/\o=[]
end
variable{W:Wd}{α β γ δ:Type}
theorem Bn.weak(a:Bn H H' os os')(h:∀x∈os,x∈os2):Bn H H' os2 os':=
 ⟨λb x e n=>a.but b x e λz=>n (h b z),λx hx=>(a.src x hx).imp (h x) id,a.there⟩
variable{o1:List Addr}
theorem T6{o2:List Addr}(n1:(o1++os1).Nodup)(n2:(o2++os2).Nodup)(own:∀a∈o1,∃z,H1 a=some z)(src:∀a∈o2++os2,a∈os1\/H1 a=none):((o1++o2)++os2).Nodup:=by
 rw[append_assoc,nodup_append];have n1':=nA n1;refine⟨n1'.1,n2,λa ha b hb e=>?_⟩;subst e;rcases src a hb with z|z
 . exact n1'.2.2 a ha a z rfl
 . obtain⟨x,ex⟩:=own a ha;rw[z]at ex;cases ex
variable{rep:Hp->Env->α->β->List Addr->Prop}
theorem Ck.imp{σ:St}{r:Res α}{Q Q':β->Hp->Prop}(h:Ck W rep H os σ r Q)(k:∀b H',Q b H'->Q' b H'):Ck W rep H os σ r Q':=by
 unfold Ck at h ⊢;cases r with
 |stuck=>exact h
 |ok a ρ'=>exact λb H' o os' r1 r2 r3 r4=>k _ _ (h b H' o os' r1 r2 r3 r4)
theorem Ez{σ:St}{h:Hd}{c:C}(hR:Ab W H ρ σ os)(hh:E8 W σ H ρ h v o)(e:h.cont ρ=some c):Eo W H c v:=by
 cases h with
 | BG d=>
   cases e;exact Bt.rd hh
 | slot i=>
   obtain⟨u,o',e1,e2,_⟩:=hR.get e;rw[hh.1]at e1;cases e1;exact e2.rd
 | fld i f=>
   obtain⟨_,a,C,dx,fs,e1,e2,e3⟩:=hh;have e:BE ρ i f=some c:=e;unfold BE at e;cases hg:A9 ρ i with
   |none=>rw[hg]at e;cases e
   | some d=>
     rw[hg]at e;cases d with
     |b x=>cases e
     | obj k fs'=>
       obtain⟨u,o',q1,q2,_⟩:=hR.get hg;rw[e1]at q1;cases q1;obtain⟨a',dx',vs,os',z,q3,q4,_⟩:=q2;cases z;rw[e2]at q3;cases q3;obtain⟨b,hb,rfl⟩:=oM e;obtain⟨v',o'',g1,g2,_⟩:=q4.look hb;rw[e3]at g1;cases g1;exact g2.rd
theorem Ck.made{σ:St}{o:List Addr}{Q:VK}(h:Ck W (rV W σ) H os σ (.ok c ρ) Q)(hR:Ab W H ρ σ os)(hn:os.Nodup)(s:Di H H')(r:Bt W H' c v o)(ho:o.Nodup)(hf:∀a∈o,H a=none):Q v H':=by
 refine h v H' o os r (hR.same s) ?_ (.of s λa ha=>?_)
 . rw[nodup_append];refine⟨ho,hn,λa ha b hb e=>?_⟩;subst e;obtain⟨x,e,_⟩:=hR.own a hb;rw[hf a ha]at e;cases e
 . rcases mem_append.mp ha with z|z
   . exact .inr (hf a z)
   . exact .inl z
theorem Ck.shift{σ:St}{r:Res α}{Q:β->Hp->Prop}(h:Ck W rep H os σ r Q)(f:Bn H H1 os os1):Ck W rep H1 os1 σ r Q:=by
 unfold Ck at h ⊢;cases r with
 |stuck=>exact h
 |ok a ρ'=>exact λb H' o os' r1 r2 r3 r4=>h b H' o os' r1 r2 r3 (f.trans r4)
theorem Ck.later{σ:St}{r:Res α}{Q:β->Hp->Prop}(h:Ck W rep H os σ r Q)(f:Bn H H1 os (o1++os1)):Ck W rep H1 os1 σ r Q:=by
 unfold Ck at h ⊢;cases r with
 |stuck=>exact h
 |ok a ρ'=>exact λb H' o os' r1 r2 r3 r4=>h b H' o os' r1 r2 r3 (f.trans (r4.weak λa ha=>mR ha))
section
variable (W:Wd)
def F3(H:Hp)(c:C)(Q:VK):Prop:=∀v H' o,Di H H'->Bt W H' c v o->o.Nodup->(∀a∈o,H a=none)->Q v H'
noncomputable def D5(g:C->C->Option C):R2:=λx y H Q=>∃c1 c2 c,Eo W H c1 x/\Eo W H c2 y/\g c1 c2=some c/\F3 W H c Q
def XW(g:C->Option C):V->Hp->VK->Prop:=λx H Q=>∃c1 c,Eo W H c1 x/\g c1=some c/\F3 W H c Q
def Eb(H:Hp):List C->List V->Prop
 |[],vs=>vs=[]
 |c::cs,vs=>∃v r,vs=v::r/\Eo W H c v/\Eb H cs r
def B5(g:List C->Option C):List V->Hp->VK->Prop:=λxs H Q=>∃cs c,Eb W H cs xs/\g cs=some c/\F3 W H c Q
end
theorem F3.plain{Q:VK}(q:F3 W H (.p x) Q)(r:Av W H x v):Q v H:=q v H [] (Di.refl H) ⟨r,rfl⟩ .nil (λa ha=>by cases ha)
theorem F3.list{ps:List P}{Q:VK}(q:F3 W H (.lst ps) Q)(r:A7 W H ps vs):∀p,H p=none->Q (.ref p) (upd H p (.lst vs)):=λp hp=>by
 have s:Di H (upd H p (.lst vs)):=λb o e=>by rw[Au (B1 e hp)];exact e
 exact q (.ref p) _ [p] s ⟨p,vs,rfl,AH,r.mono (Bm.of s),rfl⟩ (by simp) (λa ha=>by rw[mE ha];exact hp)
theorem F3.tup{ps:List P}{Q:VK}(q:F3 W H (.p (.tup ps)) Q)(r:A7 W H ps vs):∀p,H p=none->Q (.ref p) (upd H p (.tup vs)):=λp hp=>by
 have s:Di H (upd H p (.tup vs)):=λb o e=>by rw[Au (B1 e hp)];exact e
 refine q (.ref p) _ [] s ⟨?_,rfl⟩ .nil (λa ha=>by cases ha);unfold Av;exact⟨p,vs,rfl,En.of AH,r.mono (Bm.of s)⟩
theorem C3:big<=sizeLine:=by decide
variable{H:Hp}{v:V}
theorem Ac :Av W H (.int i) v↔v= .int i:=by unfold Av;exact Iff.rfl
theorem AA{i:Bool}:Av W H (.bl i) v↔v= .bl i:=by unfold Av;exact Iff.rfl
theorem Ai :Av W H (.str i) v↔v= .str i:=by unfold Av;exact Iff.rfl
theorem Ak:Av W H .AG v↔v= .AG:=by unfold Av;exact Iff.rfl
theorem Fg{i:Nat}:Av W H (.fn i) v↔v= .ref (W.IA i):=by unfold Av;exact Iff.rfl
theorem Ap{ps:List P}:Av W H (.tup ps) v↔∃a vs,v= .ref a/\En W.K H a vs/\A7 W H ps vs:=by unfold Av;exact Iff.rfl
theorem NV(h:Eo W H (.p x) v):Av W H x v:=h
theorem B8(h:Eo W H (.p (.int i)) v):v= .int i:=Ac.mp (NV h)
theorem Pp{i:Bool}(h:Eo W H (.p (.bl i)) v):v= .bl i:=AA.mp (NV h)
theorem ET(h:Eo W H (.p (.str i)) v):v= .str i:=Ai.mp (NV h)
theorem J6(h:Eo W H (.p .AG) v):v= .AG:=Ak.mp (NV h)
theorem CB{ps:List P}(h:Eo W H (.p (.tup ps)) v):∃a vs,v= .ref a/\En W.K H a vs/\A7 W H ps vs:=Ap.mp (NV h)
variable{X:Cx}
theorem H8{f:Value->Value->Sem Value}{g:Int->Int->Option Int}{r:R2}(ho:Du X f r)(hr:∀i j k H Q,g i j=some k->Q (.int k) H->r (.int i) (.int j) H Q):Du X f (D5 W (AR g)):=by
 rintro pins s σ H x y v u Q I rx ry ⟨c1,c2,c,h1,h2,e,q⟩
 unfold AR at e;split at e
 . rename_i i j;obtain⟨k,ek,rfl⟩:=oM e;cases B8 h1;cases B8 h2;exact ho pins s σ H _ _ v u Q I rx ry (hr i j k H Q ek (q.plain (Ac.mpr rfl)))
 . cases e
theorem Yo:Du X (binaryOp .Sub) (D5 W (AR IX)):=H8 VW λi j k H Q e q=>by cases e;exact⟨i,j,rfl,rfl,q⟩
theorem Ys:Du X (binaryOp .Mod) (D5 W (AR B2)):=H8 VZ λi j k H Q e q=>by
 unfold B2 at e;split at e
 . cases e;exact⟨i,j,rfl,rfl,‹_›,q⟩
 . cases e
theorem W6:Du X (binaryOp .FloorDiv) (D5 W (AR AY)):=H8 SY λi j k H Q e q=>by
 unfold AY at e;split at e
 . cases e;exact⟨i,j,rfl,rfl,‹_›,q⟩
 . cases e
theorem Yp:Du X (binaryOp .Pow) (D5 W (AR PJ)):=H8 VX λi j k H Q e q=>by
 unfold PJ at e;split at e
 . rename_i h;cases e;exact⟨i,j,rfl,rfl,⟨h.1,by lia,h.2.2⟩,q⟩
 . cases e
theorem EK{ps:List P}(h:A7 W H ps vs):vs=[]↔ps=[]:=by
 have:=h.length;constructor
 . intro z;rw[z]at this;exact length_eq_zero_iff.mp this.symm
 . intro z;rw[z]at this;exact length_eq_zero_iff.mp this
theorem Yv(hK:W.K=X.K):Du X (binaryOp .Add) (D5 W C7):=by
 rintro pins s σ H x y v u Q I rx ry ⟨c1,c2,c,h1,h2,e,q⟩
 unfold C7 at e;split at e
 . rename_i i j;cases e;cases B8 h1;cases B8 h2;exact W3 pins s σ H _ _ v u Q I rx ry ⟨i,j,rfl,rfl,q.plain (Ac.mpr rfl)⟩
 . rename_i i j;split at e
   . rename_i hl;cases e;cases ET h1;cases ET h2;exact LO pins s σ H _ _ v u Q I rx ry ⟨i,j,rfl,rfl,Nat.le_trans hl C3,q.plain (Ai.mpr rfl)⟩
   . cases e
 . rename_i i j;split at e
   . cases e
   rename_i hie;unfold EE at e;split at e
   . rename_i hl;cases e;obtain⟨a,vs,rfl,s1,r1⟩:=CB h1;obtain⟨b,ws,rfl,s2,r2⟩:=CB h2;rw[hK]at s1 s2;have hi:vs≠[]:=λz=>hie (by rw[(EK r1).mp z];rfl)
     refine T1 pins s σ H _ _ v u Q I rx ry ⟨a,b,vs,ws,rfl,rfl,s1,s2,hi,?_,λz=>?_,λ_=>?_⟩
     . rw[r1.length,r2.length,<-lA];exact Nat.le_trans hl C3
     . have ej:=(EK r2).mp z;rw[ej,append_nil]at q;exact q.plain h1
     . exact q.tup (A7.append r2 r1)
   . cases e
 . rename_i i j;unfold EE at e;split at e
   . rename_i hl;cases e;obtain⟨a,vs,rfl,s1,r1⟩:=h1;obtain⟨b,ws,rfl,s2,r2⟩:=h2;refine W2 pins s σ H _ _ v u Q I rx ry ⟨a,b,vs,ws,rfl,rfl,s1,s2,?_,q.list (A7.append r2 r1)⟩;rw[r1.length,r2.length,<-lA];exact Nat.le_trans hl C3
   . cases e
 . cases e
theorem Yr:Du X (binaryOp .Mult) (D5 W mulC):=H8 (W:=W) (g:=Ha) VY λi j k H Q e q=>by
 unfold Ha at e;split at e
 . cases e;exact⟨i,j,rfl,rfl,‹_›,q⟩
 . cases e
theorem Xy:V0 X (unaryOp .USub) (XW W (Jw Kz)):=by
 rintro pins s σ H x v Q I rx ⟨c1,c,h1,e,q⟩
 unfold Jw at e;split at e
 . rename_i i;cases e;cases B8 h1;exact V9 pins s σ H _ v Q I rx ⟨i,rfl,q.plain (Ac.mpr rfl)⟩
 . cases e
theorem M5(n:Nat)(i:Int):Iv.FN n i=L2.FN n i:=rfl
theorem YD(hK:W.K=X.K){g:C->C->Option C}(hd:Rw X (D5 W λc i=>match c with| .AJ kvs=>AN (.AJ kvs) i|_=>none)):Rw X (D5 W AN):=by
 rintro value slice pins s σ H x y v u Q I rx ry ⟨c1,c2,c,h1,h2,e,q⟩ hs
 have e0:=e;unfold AN at e;split at e
 . rename_i c' ps i hc;obtain⟨k,hk,e⟩:=oB e;obtain⟨p,hp,rfl⟩:=oM e;cases B8 h2
   obtain⟨a,vs,rfl,s1,r1⟩:∃a vs,x= .ref a/\Dt W.K H a vs/\A7 W H ps vs:=by
    cases c1 with
    |obj _ _=>cases hc
    | b b=>
      cases b with
      |p _=>cases hc
      |AJ _=>cases hc
      |lst _=>cases hc;obtain⟨a,vs,e1,e2,e3⟩:=h1;exact⟨a,vs,e1,Dt.of e2,e3⟩
      |ro _=>cases hc;obtain⟨a,vs,e1,e2,e3⟩:=h1;exact⟨a,vs,e1,e2.sq,e3⟩
   obtain⟨w,hw,rw'⟩:=r1.get hp;refine Tt value slice pins s σ H _ _ v u Q I rx ry ⟨a,vs,i,w,rfl,rfl,hK▸s1,?_,q.plain rw'⟩ hs;unfold UZ;rw[r1.length,<-M5,hk];exact hw
 . rename_i c' ps i hc;obtain⟨k,hk,e⟩:=oB e;obtain⟨p,hp,rfl⟩:=oM e;cases B8 h2
   have hc:c1= .p (.tup ps):=by
    cases c1 with
    |obj _ _=>cases hc
    |b b=>cases b<;>cases hc<;>rfl
   subst hc;obtain⟨a,vs,rfl,s1,r1⟩:=CB h1;obtain⟨w,hw,rw'⟩:=r1.get hp;refine Wm value slice pins s σ H _ _ v u Q I rx ry ⟨a,vs,i,w,rfl,rfl,hK▸s1,?_,q.plain rw'⟩ hs;unfold UZ;rw[r1.length,<-M5,hk];exact hw
 . rename_i c' z i hc;split at e
   . rename_i hl;obtain⟨k,hk,e⟩:=oB e;obtain⟨p,hp,rfl⟩:=oM e;cases B8 h2
     have hc:c1= .p (.str z):=by
      cases c1 with
      |obj _ _=>cases hc
      |b b=>cases b<;>cases hc<;>rfl
     subst hc;cases ET h1;refine Wn value slice pins s σ H _ _ v u Q I rx ry ⟨z,i,p,rfl,rfl,Nat.le_trans hl C3,?_,q.plain (Ai.mpr rfl)⟩ hs;unfold UZ;have:z.cps.toList.length=z.length:=by show z.cps.toList.length=z.cps.size;simp
     rw[this,<-M5,hk];exact hp
   . cases e
 . rename_i c' kvs k hc
   have hc:c1= .AJ kvs:=by
    cases c1 with
    |obj _ _=>cases hc
    |b b=>cases b<;>cases hc<;>rfl
   subst hc;exact hd value slice pins s σ H x y v u Q I rx ry ⟨_,_,c,h1,h2,e0,q⟩ hs
 . cases e
theorem E8.ab{σ:St}{h:Hd}(hf:∀i f,h≠.fld i f)(r:E8 W σ H1 ρ1 h v o)(k:Bm H1 H2)(b:JX os H1 H2)(d:∀a∈o,a∉os):E8 W σ H2 ρ2 h v o:=by
 cases h with
 |BG c=>exact Bt.frame r k b d
 |slot i=>exact r
 |fld i f=>exact absurd rfl (hf i f)
theorem E8.own{σ:St}(r:E8 W σ H ρ h v o):∀a∈o,∃z,H a=some z:=by
 cases h with
 |BG c=>exact λa ha=>let⟨x,e,_⟩:=Bt.own r a ha;⟨x,e⟩
 |slot i=>intro a ha;rw[r.2]at ha;cases ha
 |fld i f=>intro a ha;rw[r.1]at ha;cases ha
theorem QE{F:Env->Res Hd}{G:Env->Res (List Hd)}{σ:St}{Q:List V->Hp->Prop}(hF:∀ρ h ρ',F ρ= .ok h ρ'->∀i f,h≠.fld i f)
 (h:tG W (Be W) (λρ=>(F ρ).bind λh ρ=>(G ρ).bind λhs ρ=>.ok (h::hs) ρ) σ H Q):D3 (tG W (E8 W) F) (tG W (Be W) G) σ H Q:=by
 obtain⟨ρ,os,hR,hn,hA⟩:=h
 try dsimp only at hA
 refine⟨ρ,os,hR,hn,?_⟩;unfold Ck;cases eF:F ρ with
 |stuck=>rw[eF]at hA;exact hA
 | ok a ρ1=>
   rw[eF]at hA;intro u H1 o1 os1 rA hR1 hn1 fr1;have n1:=nA hn1;refine⟨ρ1,os1,hR1,n1.2.1,?_⟩;unfold Ck;rw[Res.A5]at hA;cases eG:G ρ1 with
   |stuck=>rw[eG]at hA;exact hA
   | ok b ρ2=>
     rw[eG,Res.A5]at hA;intro ws H2 o2 os2 rB' hR2 hn2 fr2;have k2:Bm H1 H2:=fr2.but.keep hR1.own;refine hA (u::ws) H2 (o1++o2) os2 ⟨u,ws,o1,o2,rfl,rA.ab (hF ρ a ρ1 eF) k2 fr2.but (λa ha z=>n1.2.2 a ha a z rfl),rB',rfl⟩ hR2 (T6 hn1 hn2 rA.own fr2.src) ?_;rw[append_assoc];exact fr1.trans (fr2.more o1)
theorem DO{σ:St}(hR:Ab W H ρ σ os):∀{hs:List Hd} {cs:List C} {vs:List V} {o:List Addr},Be W σ H ρ hs vs o->AB ρ hs=some cs->Eb W H cs vs
 | [],cs,vs,o,h,e=>by
   cases e;exact h.1
 | h::hs,cs,vs,o,⟨v,r,o1,o2,e1,h1,h2,e2⟩,e=>by
   unfold AB at e;obtain⟨c,ec,e⟩:=oB e;obtain⟨ds,ed,rfl⟩:=oM e;exact⟨v,r,e1,Ez hR h1 ec,DO hR h2 ed⟩
theorem UK{F:Env->Res (List Hd)}{g:List C->Option C}{σ:St}{Q:VK}
 (h:tG W (rV W) (λρ=>(F ρ).bind λhs ρ=>Res.of ((AB ρ hs).bind g) ρ) σ H Q):tG W (Be W) F σ H λvs H1=>B5 W g vs H1 Q:=by
 obtain⟨ρ,os,hR,hn,hA⟩:=h
 try dsimp only at hA
 refine⟨ρ,os,hR,hn,?_⟩;unfold Ck;cases eF:F ρ with
 |stuck=>rw[eF]at hA;exact hA
 | ok hs ρ1=>
   rw[eF,Res.A5]at hA;intro vs H1 o1 os1 rA hR1 hn1 fr1;have n1:=nA hn1;cases ec:AB ρ1 hs with
   |none=>rw[ec]at hA;exact hA.elim
   | some cs=>
     rw[ec]at hA;have hA:Ck W (rV W σ) H os σ (Res.of (g cs) ρ1) Q:=hA;cases eg:g cs with
     |none=>rw[eg]at hA;exact hA.elim
     | some c=>
       rw[eg]at hA;have hA:=hA.later fr1;exact⟨cs,c,DO hR1 rA ec,eg,λv H' o s r ho hf=>hA.made hR1 n1.2.1 s r ho hf⟩
end Iv
namespace Iv
open PySem L2 PyProof.Rows
section
variable{Pg:Program}{W:Wd}{H:Hp}
variable{h:Heap}{xs:List V}
theorem Az(Aj:Dg Pg W.w H h)(Bq:W.K.In h)(hs:En W.K H a xs):∃its:List Value,Vals xs its/\IsTup h a its.toArray:=by
 rcases hs with hs|⟨o,its,n,hk,hc,hd,hz,r⟩
 . obtain⟨z,its,r,p⟩:=hs.ok Aj;exact⟨its,r,p⟩
 . exact⟨its.toList,r,⟨o,Bq a o hk,hc,n,by simpa using hd⟩⟩
theorem Oe{ys:List V}{us zs:List Value}(hx:Vals xs us)(hy:Vals ys zs)(p:IsTup h a us.toArray)(q:IsTup h a zs.toArray):xs=ys:=by
 obtain⟨o,e1,_,n,d1⟩:=p;obtain⟨o',e2,_,n',d2⟩:=q;rw[e1]at e2;cases e2;rw[d1]at d2;injection d2 with d3 _
 have:us=zs:=by simpa using congrArg Array.toList d3
 subst this;exact hx.inj hy
mutual
theorem Av.det {h:Heap} (Aj:Dg Pg W.w H h) (Bq:W.K.In h):∀{p q:P} {v:V},Av W H p v->Av W H q v->AQ p q=true->p=q
 | .AG,q,v,hp,hq,hc=>by
   cases Ak.mp hp;cases q with
   |AG=>rfl
   |bl _=>cases AA.mp hq
   |int _=>cases Ac.mp hq
   |str _=>cases Ai.mp hq
   |fn _=>cases Fg.mp hq
   |tup _=>obtain⟨_,_,e,_⟩:=Ap.mp hq;cases e
 | .bl _,q,v,hp,hq,hc=>by
   cases AA.mp hp;cases q with
   |AG=>cases Ak.mp hq
   |bl _=>cases AA.mp hq;rfl
   |int _=>cases Ac.mp hq
   |str _=>cases Ai.mp hq
   |fn _=>cases Fg.mp hq
   |tup _=>obtain⟨_,_,e,_⟩:=Ap.mp hq;cases e
 | .int _,q,v,hp,hq,hc=>by
   cases Ac.mp hp;cases q with
   |AG=>cases Ak.mp hq
   |bl _=>cases AA.mp hq
   |int _=>cases Ac.mp hq;rfl
   |str _=>cases Ai.mp hq
   |fn _=>cases Fg.mp hq
   |tup _=>obtain⟨_,_,e,_⟩:=Ap.mp hq;cases e
 | .str _,q,v,hp,hq,hc=>by
   cases Ai.mp hp;cases q with
   |AG=>cases Ak.mp hq
   |bl _=>cases AA.mp hq
   |int _=>cases Ac.mp hq
   |str _=>cases Ai.mp hq;rfl
   |fn _=>cases Fg.mp hq
   |tup _=>obtain⟨_,_,e,_⟩:=Ap.mp hq;cases e
 | .fn _,q,v,hp,hq,hc=>by
   unfold AQ at hc;cases hc
 | .tup ps,q,v,hp,hq,hc=>by
   obtain⟨a,vs,rfl,s1,r1⟩:=Ap.mp hp;cases q with
   |AG=>cases Ak.mp hq
   |bl _=>cases AA.mp hq
   |int _=>cases Ac.mp hq
   |str _=>cases Ai.mp hq
   |fn _=>unfold AQ Bz at hc;cases hc
   | tup qs=>
     obtain⟨b,ws,e,s2,r2⟩:=Ap.mp hq;cases e;obtain⟨its,v1,p1⟩:=Az Aj Bq s1;obtain⟨its',v2,p2⟩:=Az Aj Bq s2;have:=Oe v1 v2 p1 p2;subst this;unfold AQ at hc;rw[A7.det Aj Bq r1 r2 hc]
theorem A7.det {h:Heap} (Aj:Dg Pg W.w H h) (Bq:W.K.In h):∀{ps qs:List P} {vs:List V},A7 W H ps vs->A7 W H qs vs->BK ps qs=true->ps=qs
 | [],qs,vs,hp,hq,hc=>by
   unfold A7 at hp;subst hp;cases qs with
   |nil=>rfl
   |cons q qs=>unfold A7 at hq;obtain⟨_,_,e,_⟩:=hq;cases e
 | p ::ps,qs,vs,hp,hq,hc=>by
   cases vs with
   |nil=>unfold A7 at hp;obtain⟨_,_,e,_⟩:=hp;cases e
   | cons v vs=>
     cases qs with
     |nil=>unfold A7 at hq;cases hq
     | cons q qs=>
       unfold BK at hc;rw[bA]at hc;rw[Av.det Aj Bq hp.Bo.1 hq.Bo.1 hc.1,A7.det Aj Bq hp.Bo.2 hq.Bo.2 hc.2]
end
def Rf(b:Bool)(e:Nat->Bool):Nat->Bool
 |0=>b
 |j + 1=>e j
theorem OD(b:Bool)(e:Nat->Bool)(n m:Nat):((List.range (min (n + 1) (m + 1))).all (Rf b e) && (n + 1 == m + 1))=(b && ((List.range (min n m)).all e && n == m)):=by
 rw[show min (n + 1) (m + 1)=min n m + 1 by lia,List.range_succ_eq_map,all_cons,all_map];have h1:(Rf b e ∘ Nat.succ)=e:=rfl
 have h2:(n + 1 == m + 1)=(n == m):=by
  by_cases h:n=m
  . simp[h]
  . simp[h]
 rw[h1,h2,Bool.and_assoc];rfl
theorem in1_units{A:Around}:A.in1.units=A.units + 1:=rfl
mutual
theorem R4:∀(p:P) {q:P} {v y:V} {u z:Value} {A:Around} {s:Shared},Av W H p v->Av W H q y->RelV v u->RelV y z->Dg Pg W.w H s.heap->W.K.In s.heap->AQ p q=true->A.units + p.depth + 1 < cLine->
 SeqAt.EqAt A s u z (decide (p=q))
 | .AG,q,v,y,u,z,A,s,hp,hq,r,r',Aj,Bq,hc,hu=>by
   cases Ak.mp hp;cases r;cases q with
   |AG=>cases Ak.mp hq;cases r';rw[decide_eq_true rfl];exact SeqAt.EqAt.same _
   |bl b=>cases AA.mp hq;cases r';rw[dF nofun];exact SeqAt.EqAt.none_bool _
   |int b=>cases Ac.mp hq;obtain⟨t,rfl⟩:=r';rw[dF nofun];exact SeqAt.EqAt.none_int _ _
   |str b=>cases Ai.mp hq;obtain⟨t,rfl⟩:=r';rw[dF nofun];exact SeqAt.EqAt.none_str _ _
   |fn b=>unfold AQ Bz at hc;cases hc
   | tup qs=>
     obtain⟨b,ws,rfl,s2,r2⟩:=Ap.mp hq;cases r';obtain⟨its,v1,p1⟩:=Az Aj Bq s2;rw[dF nofun];exact SeqAt.EqAt.none_tuple p1 (by lia)
 | .bl i,q,v,y,u,z,A,s,hp,hq,r,r',Aj,Bq,hc,hu=>by
   cases AA.mp hp;cases r;cases q with
   |AG=>cases Ak.mp hq;cases r';rw[dF nofun];exact SeqAt.EqAt.bool_none _
   | bl b=>
     cases AA.mp hq;cases r';have:decide (P.bl i=P.bl b)=(i == b):=by cases i<;>cases b<;>simp
     rw[this];exact SeqAt.EqAt.bool_bool _ _
   |int b=>unfold AQ Bz at hc;cases hc
   |str b=>cases Ai.mp hq;obtain⟨t,rfl⟩:=r';rw[dF nofun];exact SeqAt.EqAt.bool_str _ _ _
   |fn b=>unfold AQ Bz at hc;cases hc
   | tup qs=>
     obtain⟨b,ws,rfl,s2,r2⟩:=Ap.mp hq;cases r';obtain⟨its,v1,p1⟩:=Az Aj Bq s2;rw[dF nofun];exact SeqAt.EqAt.bool_tuple _ p1 (by lia)
 | .int i,q,v,y,u,z,A,s,hp,hq,r,r',Aj,Bq,hc,hu=>by
   cases Ac.mp hp;obtain⟨t,rfl⟩:=r;cases q with
   |AG=>cases Ak.mp hq;cases r';rw[dF nofun];exact SeqAt.EqAt.int_none _ _
   |bl b=>unfold AQ Bz at hc;cases hc
   | int b=>
     cases Ac.mp hq;obtain⟨t',rfl⟩:=r'
     have:decide (P.int i=P.int b)=(i == b):=by
      by_cases h:i=b
      . subst h;simp
      . rw[dF (λz=>h (P.int.inj z))];simp[h]
     rw[this];exact SeqAt.EqAt.int_int _ _ _ _
   |str b=>cases Ai.mp hq;obtain⟨t,rfl⟩:=r';rw[dF nofun];exact SeqAt.EqAt.int_str _ _ _ _
   |fn b=>unfold AQ Bz at hc;cases hc
   | tup qs=>
     obtain⟨b,ws,rfl,s2,r2⟩:=Ap.mp hq;cases r';obtain⟨its,v1,p1⟩:=Az Aj Bq s2;rw[dF nofun];exact SeqAt.EqAt.int_tuple _ _ p1 (by lia)
 | .str i,q,v,y,u,z,A,s,hp,hq,r,r',Aj,Bq,hc,hu=>by
   cases Ai.mp hp;obtain⟨t,rfl⟩:=r;cases q with
   |AG=>cases Ak.mp hq;cases r';rw[dF nofun];exact SeqAt.EqAt.str_none _ _
   |bl b=>cases AA.mp hq;cases r';rw[dF nofun];exact SeqAt.EqAt.str_bool _ _ _
   |int b=>cases Ac.mp hq;obtain⟨t',rfl⟩:=r';rw[dF nofun];exact SeqAt.EqAt.str_int _ _ _ _
   | str b=>
     cases Ai.mp hq;obtain⟨t',rfl⟩:=r'
     have:decide (P.str i=P.str b)=(i == b):=by
      by_cases h:i=b
      . subst h;simp
      . rw[dF (λz=>h (P.str.inj z))];simp[h]
     rw[this];exact SeqAt.EqAt.str_str _ _ _ _
   |fn b=>unfold AQ Bz at hc;cases hc
   | tup qs=>
     obtain⟨b,ws,rfl,s2,r2⟩:=Ap.mp hq;cases r';obtain⟨its,v1,p1⟩:=Az Aj Bq s2;rw[dF nofun];exact SeqAt.EqAt.str_tuple _ _ p1 (by lia)
 | .fn i,q,v,y,u,z,A,s,hp,hq,r,r',Aj,Bq,hc,hu=>by
   unfold AQ at hc;cases hc
 | .tup ps,q,v,y,u,z,A,s,hp,hq,r,r',Aj,Bq,hc,hu=>by
   obtain⟨a,vs,rfl,s1,r1⟩:=Ap.mp hp;cases r;obtain⟨its,v1,p1⟩:=Az Aj Bq s1;cases q with
   |AG=>cases Ak.mp hq;cases r';rw[dF nofun];exact SeqAt.EqAt.tuple_none p1 (by lia)
   |bl b=>cases AA.mp hq;cases r';rw[dF nofun];exact SeqAt.EqAt.tuple_bool _ p1 (by lia)
   |int b=>cases Ac.mp hq;obtain⟨t',rfl⟩:=r';rw[dF nofun];exact SeqAt.EqAt.tuple_int _ _ p1 (by lia)
   |str b=>cases Ai.mp hq;obtain⟨t',rfl⟩:=r';rw[dF nofun];exact SeqAt.EqAt.tuple_str _ _ p1 (by lia)
   |fn b=>unfold AQ Bz at hc;cases hc
   | tup qs=>
     obtain⟨b,ws,rfl,s2,r2⟩:=Ap.mp hq;cases r';have hcl:BK ps qs=true:=by unfold AQ at hc;exact hc
     have hdp:(P.tup ps).depth=P.Ao ps + 1:=by conv=>lhs;unfold P.depth
     by_cases hab:a=b
     . subst hab;have e:=Av.det Aj Bq hp hq hc;rw[decide_eq_true e];exact SeqAt.EqAt.same _
     . obtain⟨its',v2,p2⟩:=Az Aj Bq s2;refine SeqAt.EqAt.of_refs hab ?_;have hu1:A.in1.units=A.units + 1:=in1_units;obtain⟨e,he,hd⟩:=Hv ps (A:=A.in1) (s:=s) r1 r2 v1 v2 Aj Bq hcl (by lia);have rc:=SeqAt.RcAt.tuples (A:=A) (s:=s) (e:=e) p1 p2 (by lia) λj h1 h2=>he j _ _ (by simp at h1 ⊢) (by simp at h2 ⊢)
       rw[size_toArray,size_toArray,hd]at rc
       have e2:decide (P.tup ps=P.tup qs)=decide (ps=qs):=by
        by_cases h:ps=qs
        . subst h;simp
        . rw[dF h,dF (λz=>h (P.tup.inj z))]
       rw[e2];exact rc
theorem Hv:∀(ps:List P) {qs:List P} {vs ws:List V} {us zs:List Value} {A:Around} {s:Shared},A7 W H ps vs->A7 W H qs ws->Vals vs us->Vals ws zs->Dg Pg W.w H s.heap->W.K.In s.heap->BK ps qs=true->A.units + P.Ao ps + 1 < cLine->
 ∃e:Nat->Bool,(∀(j:Nat) (x y:Value),us[j]? =some x->zs[j]? =some y->SeqAt.EqAt A s x y (e j))/\((List.range (min us.length zs.length)).all e && us.length == zs.length)=decide (ps=qs)
 | [],qs,vs,ws,us,zs,A,s,hp,hq,r,r',Aj,Bq,hc,hu=>by
   unfold A7 at hp;subst hp;cases r;refine⟨λ_=>true,λj x y hx _=>by simp at hx,?_⟩;cases qs with
   |nil=>unfold A7 at hq;subst hq;cases r';rfl
   | cons q qs=>
     unfold A7 at hq;obtain⟨_,_,e,_⟩:=hq;subst e;cases r';rw[dF nofun];simp
 | p ::ps,qs,vs,ws,us,zs,A,s,hp,hq,r,r',Aj,Bq,hc,hu=>by
   cases vs with
   |nil=>unfold A7 at hp;obtain⟨_,_,e,_⟩:=hp;cases e
   | cons v vs =>
     cases r with
     | cons r1 r2=>
       cases qs with
       | nil=>
         unfold A7 at hq;subst hq;cases r';refine⟨λ_=>true,λj x y _ hy=>by simp at hy,?_⟩;rw[dF nofun];simp
       | cons q qs=>
         cases ws with
         |nil=>unfold A7 at hq;obtain⟨_,_,e,_⟩:=hq;cases e
         | cons w ws=>
           cases r' with
           | cons q1 q2=>
             unfold BK at hc;rw[bA]at hc;have hd:P.Ao (p::ps)=max p.depth (P.Ao ps):=by conv=>lhs;unfold P.Ao
             obtain⟨e,he,hdd⟩:=Hv ps (A:=A) (s:=s) hp.Bo.2 hq.Bo.2 r2 q2 Aj Bq hc.2 (by lia);have h0:=R4 p (A:=A) (s:=s) hp.Bo.1 hq.Bo.1 r1 q1 Aj Bq hc.1 (by lia);refine⟨Rf (decide (p=q)) e,λj x y hx hy=>?_,?_⟩
             . cases j with
               | zero=>
                 simp at hx hy;subst hx hy;exact h0
               |succ j=>exact he j x y (by simpa using hx) (by simpa using hy)
             . rw[lC,lC,OD,hdd]
               by_cases h1:p=q<;>by_cases h2:ps=qs<;>simp[h1,h2]
end
mutual
theorem Hk:∀(p:P) {v:V} {u:Value} {A:Around} {E:Value->Shared->Prop} {s:Shared} {Q:Int->Shared->Prop},Av W H p v->AS p=true->RelV v u->Dg Pg W.w H s.heap->W.K.In s.heap->A.units + p.depth < cLine->
 (∀tk:Nat,Q (Dp W.w p) {s with toks:=tk})->wpAny (model Pg W.w) A (pyHash u) Q E s
 | .AG,_,_,_,_,_,_,_,hb,_,_,_,_,_=>by unfold AS at hb;cases hb
 | .bl _,_,_,_,_,_,_,_,hb,_,_,_,_,_=>by unfold AS at hb;cases hb
 | .fn _,_,_,_,_,_,_,_,hb,_,_,_,_,_=>by unfold AS at hb;cases hb
 | .int i,v,u,A,E,s,Q,hp,hb,r,Aj,Bq,hu,q=>by
   cases Ac.mp hp;obtain⟨t,rfl⟩:=r;have q:=q (s.toks + 1);unfold Dp at q;exact wpAny_pyHash_int q
 | .str i,v,u,A,E,s,Q,hp,hb,r,Aj,Bq,hu,q=>by
   cases Ai.mp hp;obtain⟨t,rfl⟩:=r;have q:=q (s.toks + 1);unfold Dp at q;exact wpAny_pyHash_str q
 | .tup ps,v,u,A,E,s,Q,hp,hb,r,Aj,Bq,hu,q=>by
   obtain⟨a,vs,rfl,s1,r1⟩:=Ap.mp hp;cases r;obtain⟨its,v1,pi⟩:=Az Aj Bq s1;have hdp:(P.tup ps).depth=P.Ao ps + 1:=by conv=>lhs;unfold P.depth
   have hb':BZ ps=true:=by unfold AS at hb;exact hb
   show wpAny _ _ (pyHashByItsType (.ref a)) _ _ s;refine PySem.W.pyHash_slot (pi.typeIs) PySem.F.slot_tuple_hash PySem.F.entry_tuple_hash (PySem.F.args_tuple_hash_1 _) (by decide) (.inr (by lia)) ?_;show wpAny _ _ (Builtin.Tuple.tupleItemsOf (.ref a) >>= λxs=>forIn xs #[] (λx r=>do let h <-pyHash x;pure (ForInStep.yield (r.push h))) >>= λhs=>retInt (Builtin.Tuple.tupleHashOf hs.toList)) _ _ s;have pi':=pi;obtain⟨o,e1,e2,n,e3⟩:=pi';unfold Builtin.Tuple.tupleItemsOf;refine wB (wB (wpAny_seqItems e1 e3 (wP ?_)));rw[<-Array.forIn_toList];show wpAny _ _ (forIn its #[] _ >>= _) _ _ s;have hu1:A.in1.units=A.units + 1:=in1_units;refine wB (KR ps r1 hb' v1 Aj Bq (by lia) λtk b' hb2=>?_);refine wB (wpAny_mkInt' (wP ⟨_,_,rfl,?_⟩))
   have e:reduceHash (Builtin.Tuple.tupleHashOf b'.toList)=Dp W.w (.tup ps):=by
    rw[hb2]
    conv=>rhs;unfold Dp
    simp
   rw[e];exact q _
theorem KR:∀(ps:List P) {vs:List V} {us:List Value} {acc:Array Int} {A:Around} {E:Value->Shared->Prop} {s:Shared} {Q:Array Int->Shared->Prop},A7 W H ps vs->BZ ps=true->Vals vs us->Dg Pg W.w H s.heap->W.K.In s.heap->A.units + P.Ao ps < cLine->
 (∀(tk:Nat) (b':Array Int),b'.toList=acc.toList++Hl W.w ps->Q b' {s with toks:=tk})->
 wpAny (model Pg W.w) A (forIn us acc λx r=>do let h <-pyHash x;pure (ForInStep.yield (r.push h))) Q E s
 | [],vs,us,acc,A,E,s,Q,hp,hb,r,_,_,_,q=>by
   unfold A7 at hp;subst hp;cases r;exact wP (q s.toks acc (by unfold Hl;simp))
 | p ::ps,vs,us,acc,A,E,s,Q,hp,hb,r,Aj,Bq,hu,q=>by
   cases vs with
   |nil=>unfold A7 at hp;obtain⟨_,_,e,_⟩:=hp;cases e
   | cons v vs=>
     cases r with
     | cons r1 r2=>
       unfold BZ at hb;rw[bA]at hb;have hd:P.Ao (p::ps)=max p.depth (P.Ao ps):=by conv=>lhs;unfold P.Ao
       rw[forIn_cons];refine wB (wB (Hk p hp.Bo.1 hb.1 r1 Aj Bq (by lia) λtk=>wP ?_));refine KR ps hp.Bo.2 hb.2 r2 Aj Bq (by lia) λtk' b' hb'=>q tk' b' ?_
       rw[hb']
       conv=>rhs;unfold Hl
       simp
end
mutual
theorem FT:∀(p:P) {v:V} {u:Value} {s:Shared} {n:Nat},Av W H p v->AS p=true->RelV v u->Dg Pg W.w H s.heap->W.K.In s.heap->p.depth<=n->
 ∀(A:Around) (E:Value->Shared->Prop) (Q:Bool->Shared->Prop),Q true s->wpAny (model Pg W.w) A (eqIsQuiet n u) Q E s
 | .AG,_,_,_,_,_,hb,_,_,_,_,_,_,_,_=>by unfold AS at hb;cases hb
 | .bl _,_,_,_,_,_,hb,_,_,_,_,_,_,_,_=>by unfold AS at hb;cases hb
 | .fn _,_,_,_,_,_,hb,_,_,_,_,_,_,_,_=>by unfold AS at hb;cases hb
 | .int i,v,u,s,n,hp,hb,r,Aj,Bq,hd,A,E,Q,q=>by
   cases Ac.mp hp;obtain⟨t,rfl⟩:=r;rw[eqIsQuiet_byValue n rfl];exact wP q
 | .str i,v,u,s,n,hp,hb,r,Aj,Bq,hd,A,E,Q,q=>by
   cases Ai.mp hp;obtain⟨t,rfl⟩:=r;rw[eqIsQuiet_byValue n rfl];exact wP q
 | .tup ps,v,u,s,n,hp,hb,r,Aj,Bq,hd,A,E,Q,q=>by
   obtain⟨a,vs,rfl,s1,r1⟩:=Ap.mp hp;cases r;obtain⟨its,ri,pi⟩:=Az Aj Bq s1;have hdp:(P.tup ps).depth=P.Ao ps + 1:=by conv=>lhs;unfold P.depth
   have hb':BZ ps=true:=by unfold AS at hb;exact hb
   obtain⟨n',rfl⟩:∃n',n=n' + 1:=⟨n - 1,by lia⟩;rw[eqIsQuiet.eq_2];refine wB (wpAny_specialOf pi.typeIs PySem.F.slot_tuple_eq.lookup ?_)
   try dsimp only
   refine wB (wpAny_isInstance (T:="tuple") (b:=true) pi.typeIs (by rw[isSubtype_type];kernel_rfl) ?_);refine wpAny_ite_split (λhab=>absurd hab (by decide)) (λ_=>?_);obtain⟨o,e1,e2,n2,e3⟩:=pi;refine wB (wpAny_seqItems e1 e3 ?_);refine wB ?_;show wpAny _ _ (forIn its.toArray _ _) _ _ s;rw[<-Array.forIn_toList];refine wpAny_forIn_list _ (λrest b s'=>(∀v∈rest,v∈its)/\b=(none,())/\s'=s) _ ?_ ?_ _ _ ⟨λv hv=>hv,rfl,rfl⟩
   . rintro x rest b s' ⟨hm,rfl,rfl⟩
     have hx:x∈its:=hm x mS;refine wB (Ic ps r1 hb' ri Aj Bq (by lia) x hx _ _ _ ?_);exact wpAny_ite_split (λhab=>absurd hab (by decide)) (λ_=>wP ⟨λv hv=>hm v (mC hv),rfl,rfl⟩)
   . rintro b s' ⟨_,rfl,rfl⟩
     exact wP q
theorem Ic:∀(ps:List P) {vs:List V} {us:List Value} {s:Shared} {n:Nat},A7 W H ps vs->BZ ps=true->Vals vs us->Dg Pg W.w H s.heap->W.K.In s.heap->P.Ao ps<=n->
 ∀u∈us,∀(A:Around) (E:Value->Shared->Prop) (Q:Bool->Shared->Prop),Q true s->wpAny (model Pg W.w) A (eqIsQuiet n u) Q E s
 | [],vs,us,s,n,hp,hb,r,_,_,_=>by
   unfold A7 at hp;subst hp;cases r;intro u hu;cases hu
 | p ::ps,vs,us,s,n,hp,hb,r,Aj,Bq,hd=>by
   cases vs with
   |nil=>unfold A7 at hp;obtain⟨_,_,e,_⟩:=hp;cases e
   | cons v vs=>
     cases r with
     | cons r1 r2=>
       unfold BZ at hb;rw[bA]at hb;have hdd:P.Ao (p::ps)=max p.depth (P.Ao ps):=by conv=>lhs;unfold P.Ao
       intro u hu A E Q q;rcases mK hu with e|hu
       . subst e;exact FT p hp.Bo.1 hb.1 r1 Aj Bq (by lia) A E Q q
       . exact Ic ps hp.Bo.2 hb.2 r2 Aj Bq (by lia) u hu A E Q q
end
end
section
variable{Pg:Program}{W:Wd}{H:Hp}
theorem CO{k:P}(h:keyOk k=true):AS k=true/\k.depth<=8/\Jt k=false:=by
 unfold keyOk flat at h;rw[bA,bA]at h;exact⟨h.1.1,of_decide_eq_true h.1.2,by simpa using h.2⟩
mutual
theorem G5:∀(p q:P),AS p=true->AS q=true->AQ p q=true
 | .AG,_,h,_=>by unfold AS at h;cases h
 | .bl _,_,h,_=>by unfold AS at h;cases h
 | .fn _,_,h,_=>by unfold AS at h;cases h
 | .int i,q,_,h=>by
   cases q with
   |int _=>unfold AQ Bz;rfl
   |str _=>unfold AQ Bz;rfl
   |tup _=>unfold AQ Bz;rfl
   |AG=>unfold AS at h;cases h
   |bl _=>unfold AS at h;cases h
   |fn _=>unfold AS at h;cases h
 | .str i,q,_,h=>by
   cases q with
   |int _=>unfold AQ Bz;rfl
   |str _=>unfold AQ Bz;rfl
   |tup _=>unfold AQ Bz;rfl
   |AG=>unfold AS at h;cases h
   |bl _=>unfold AS at h;cases h
   |fn _=>unfold AS at h;cases h
 | .tup ps,q,g,h=>by
   cases q with
   |int _=>unfold AQ Bz;rfl
   |str _=>unfold AQ Bz;rfl
   | tup qs=>
     unfold AS at g h;unfold AQ;exact HH ps qs g h
   |AG=>unfold AS at h;cases h
   |bl _=>unfold AS at h;cases h
   |fn _=>unfold AS at h;cases h
theorem HH:∀(p q:List P),BZ p=true->BZ q=true->BK p q=true
 |[],_,_,_=>by unfold BK;rfl
 |x::p,[],_,_=>by unfold BK;rfl
 | x::p,y::q,g,h=>by
   unfold BZ at g h;rw[bA]at g h;unfold BK;rw[G5 x y g.1 h.1,HH p q g.2 h.2];rfl
end
variable{α β:Type}
theorem Paired.at{R:α->β->Prop}:∀{l:List α} {m:List β} {i:Nat} {y:β},Paired R l m->m[i]? =some y->∃x,l[i]? =some x/\R x y
 |_,_,_,_,.nil,e=>by simp at e
 |_,_,0,_,.cons r _,e=>by simp at e;subst e;exact⟨_,rfl,r⟩
 | _,_,i + 1,_,.cons _ t,e=>by
   obtain⟨x,a,b⟩:=Paired.at (i:=i) t (by simpa using e);exact⟨x,by simpa using a,b⟩
theorem Paired.at'{R:α->β->Prop}:∀{l:List α} {m:List β} {i:Nat} {x:α},Paired R l m->l[i]? =some x->∃y,m[i]? =some y/\R x y
 |_,_,_,_,.nil,e=>by simp at e
 |_,_,0,_,.cons r _,e=>by simp at e;subst e;exact⟨_,rfl,r⟩
 | _,_,i + 1,_,.cons _ t,e=>by
   obtain⟨x,a,b⟩:=Paired.at' (i:=i) t (by simpa using e);exact⟨x,by simpa using a,b⟩
theorem Ti(hk:keyOk k=true)(hv:Av W H k v)(r:RelV v u):(∃n t,u= .int n t)\/∃a,u= .ref a:=by
 obtain⟨h1,_,h2⟩:=CO hk;cases k with
 |int n=>cases Ac.mp hv;obtain⟨t,rfl⟩:=r;exact .inl ⟨_,_,rfl⟩
 |tup ps=>obtain⟨a,vs,rfl,_⟩:=Ap.mp hv;exact .inr ⟨a,r⟩
 |str _=>cases h2
 |AG=>unfold AS at h1;cases h1
 |bl _=>unfold AS at h1;cases h1
 |fn _=>unfold AS at h1;cases h1
theorem Pn(hv:Av W H p v)(hy:Av W H q y)(r:RelV v u)(r':RelV y u){h:Heap}(Aj:Dg Pg W.w H h)(Bq:W.K.In h)(hc:AQ p q=true):p=q:=by
 have:=r.inj r';subst this;exact Av.det Aj Bq hv hy hc
theorem Ky{kvs:List (P×P)}(hn:(kvs.map (·.1)).Nodup){i j:Nat}{p q:P×P}(h1:kvs[i]? =some p)(h2:kvs[j]? =some q)(e:p.1=q.1):i=j:=by
 obtain⟨hi,ei⟩:=List.getElem?_eq_some_iff.mp h1;obtain⟨hj,ej⟩:=List.getElem?_eq_some_iff.mp h2;have hpw:=List.pairwise_iff_getElem.mp hn;rcases Nat.lt_trichotomy i j with hlt|heq|hgt
 . exact absurd (by rw[getElem_map,getElem_map,ei,ej,e]) (hpw i j (by simpa using hi) (by simpa using hj) hlt)
 . exact heq
 . exact absurd (by rw[getElem_map,getElem_map,ei,ej,e]) (hpw j i (by simpa using hj) (by simpa using hi) hgt)
variable{A:Around}{s:Shared}
theorem Nn{kvs:List (P×P)}{es:List DictEntry}{o:Obj}{ep:Nat}{E:Value->Shared->Prop}{Q:Option Nat->Shared->Prop}(Aj:Dg Pg W.w H s.heap)(Bq:W.K.In s.heap)
 (hd:s.heap.get? a=some o)(ho:o.data= .dict es.toArray ep)(hp:Paired (FL W H) kvs es)(hn:(kvs.map (·.1)).Nodup)(hks:∀p∈kvs,keyOk p.1=true)(hk:keyOk k=true)(hv:Av W H k v)(r:RelV v u)(hu:A.units + 110 < cLine)
 (q0:(∀p∈kvs,p.1≠k)->Q none s)(q1:∀(i:Nat) (p:P×P),kvs[i]? =some p->p.1=k->Q (some i) s):wpAny (model Pg W.w) A (dictFind a u (Dp W.w k)) Q E s:=by
 obtain⟨hb,hdp,_⟩:=CO hk
 have ent:∀(i:Nat) (e:DictEntry),es.toArray[i]? =some e->∃p y,kvs[i]? =some p/\e.hash=Dp W.w p.1/\RelV y e.key/\Av W H p.1 y/\AS p.1=true/\p.1.depth<=8:=by
  intro i e he;rw[List.getElem?_toArray]at he;obtain⟨p,h1,h2,⟨y,h3,h4⟩,_⟩:=Paired.at hp he;obtain⟨g1,g2,_⟩:=CO (hks p (mem_of_getElem? h1));exact⟨p,y,h1,h2,h3,h4,g1,g2⟩
 refine QQ (b:=λi=>match kvs[i]? with|some p=>decide (p.1=k)|none=>false) hd ho (Ti hk hv r) ?_ ?_ ?_ ?_ ?_ ?_ ?_
 . rw[Array.any_eq_false];intro i hi hh;obtain⟨p,y,h1,h2,h3,h4,h5,_⟩:=ent i es.toArray[i] (Array.getElem?_eq_getElem hi);rw[bA]at hh;have hkey:es.toArray[i].key=u:=eq_of_beq hh.1;have hF:p.1=k:=Pn h4 hv (hkey▸h3) r Aj Bq (G5 _ _ h5 hb);have:=hh.2;rw[h2,hF]at this;simp at this
 . intro i e he hh;obtain⟨p,y,h1,h2,h3,h4,h5,h6⟩:=ent i e he;show SeqAt.EqAt A s e.key u (match kvs[i]? with|some p=>decide (p.1=k)|none=>false);rw[h1];exact R4 p.1 h4 hv h3 r Aj Bq (G5 _ _ h5 hb) (by lia)
 . exact λA E Q q=>FT k hv hb r Aj Bq hdp A E Q q
 . intro i e he;obtain⟨p,y,h1,h2,h3,h4,h5,h6⟩:=ent i e he;exact λA E Q q=>FT p.1 h4 h5 h3 Aj Bq h6 A E Q q
 . intro i j e f he hf _ _ bi bj;obtain⟨p,y,h1,_⟩:=ent i e he;obtain⟨p',y',h1',_⟩:=ent j f hf;simp only[h1,h1']at bi bj;exact Ky hn h1 h1' ((of_decide_eq_true bi).trans (of_decide_eq_true bj).symm)
 . intro hno;refine q0 λp hp' hF=>?_
   obtain⟨i,hi,e⟩:=List.mem_iff_getElem.mp hp';have h1:kvs[i]? =some p:=by rw[List.getElem?_eq_getElem hi,e]
   obtain⟨f,h2,h3⟩:=Paired.at' hp h1;have:=hno i f (by rw[List.getElem?_toArray];exact h2) (by rw[h3.1,hF]);simp only[h1,hF]at this;simp at this
 . intro i e he _ hb;obtain⟨p,y,h1,_⟩:=ent i e he;simp only[h1]at hb;exact q1 i p h1 (of_decide_eq_true hb)
theorem Ou{kvs:List (P×P)}{k:P}(h:∀p∈kvs,p.1≠k):Af kvs k=none:=by
 unfold Af;rw[List.find?_eq_none.mpr (λp hp=>by simp[h p hp])];rfl
theorem TZ{kvs:List (P×P)}{k:P}{i:Nat}{p:P×P}(hn:(kvs.map (·.1)).Nodup)(h:kvs[i]? =some p)(e:p.1=k):Af kvs k=some p.2:=by
 unfold Af;cases hf:kvs.find? λp=>decide (p.1=k)with
 | none=>
   have:=List.find?_eq_none.mp hf p (mem_of_getElem? h);simp[e]at this
 | some p'=>
   have h1:=List.mem_of_find?_eq_some hf;have h2:p'.1=k:=by simpa using List.find?_some hf
   obtain⟨j,hj,e'⟩:=List.mem_iff_getElem.mp h1;have h1':kvs[j]? =some p':=by rw[List.getElem?_eq_getElem hj,e']
   have:=Ky hn h h1' (e.trans h2.symm);subst this;rw[h]at h1';cases h1';rfl
theorem DY{kvs:List (P×P)}{E:Value->Shared->Prop}{Q:Option Value->Shared->Prop}(Aj:Dg Pg W.w H s.heap)(Bq:W.K.In s.heap)(hd:Dj W H a kvs)(hk:keyOk k=true)(hv:Av W H k v)(r:RelV v u)(hu:A.units + 110 < cLine)
 (q0:Af kvs k=none->∀tk,Q none {s with toks:=tk})(q1:∀p y z,Af kvs k=some p->Av W H p y->RelV y z->∀tk,Q (some z) {s with toks:=tk}):wpAny (model Pg W.w) A (dictGet a u) Q E s:=by
 obtain⟨es,hH,hp⟩:=hd.ex;obtain⟨⟨o,h1,h2,h3⟩,_⟩:=(show C8 Pg W.w H s.heap a (DX a es)from Aj a _ hH);obtain⟨hb,hdp,_⟩:=CO hk;unfold dictGet;refine wpAny_holding (wB (Hk k hv hb r Aj Bq (by lia) λtk=>?_));refine wB (Nn (s:={s with toks:=tk}) Aj Bq h1 h3 hp hd.nd hd.ks hk hv r hu (λh=>?_) λi p hi e=>?_)
 . exact wP (q0 (Ou h) tk)
 . refine wB (wpAny_dictEntries (s:={s with toks:=tk}) h1 h3 (wP ?_));obtain⟨f,g1,g2⟩:=Paired.at' hp hi;rw[List.getElem?_toArray,g1];obtain⟨y,ry,hy⟩:=g2.2.2;exact q1 _ y _ (TZ hd.nd hi e) hy ry tk
theorem Ot(kvs:List (P×P))(k v:P)(h:(kvs.any λq=>decide (q.1=k))=true):(dput kvs k v).map (·.1)=kvs.map (·.1):=by
 unfold dput;rw[iP h,map_map];apply map_congr_left;intro p _;show(if p.1=k then(p.1,v)else p).1=p.1;split<;>rfl
theorem Hx{kvs:List (P×P)}(hn:(kvs.map (·.1)).Nodup):((dput kvs k v).map (·.1)).Nodup:=by
 by_cases h:(kvs.any λq=>decide (q.1=k))=true
 . rw[Ot _ _ _ h];exact hn
 . unfold dput;rw[iN h,map_append,nodup_append];refine⟨hn,by simp,?_⟩;intro x hx z hz e;simp at hz;subst hz;obtain⟨p,hp,e2⟩:=mem_map.mp hx;exact h (any_eq_true.mpr ⟨p,hp,decide_eq_true (e2.trans e)⟩)
theorem Cr(kvs:List (P×P))(k v:P):(dput kvs k v).length<=kvs.length + 1:=by
 unfold dput;split
 . rw[lM];lia
 . rw[lA];exact lR
theorem L0{kvs:List (P×P)}{k v:P}{p:P×P}(h:p∈dput kvs k v):(∃q∈kvs,p.1=q.1)\/p=(k,v):=by
 unfold dput at h;split at h
 . obtain⟨q,hq,e⟩:=mem_map.mp h;refine .inl ⟨q,hq,?_⟩;rw[<-e];split<;>rfl
 . rcases mem_append.mp h with z|z
   . exact .inl ⟨p,z,rfl⟩
   . exact .inr (mE z)
theorem HS{kvs:List (P×P)}{es:List DictEntry}{k:P}(hr:RelV y r)(hy:Av W H v y)(hn:(kvs.map (·.1)).Nodup):∀{i:Nat} {p:P×P},Paired (FL W H) kvs es->kvs[i]? =some p->p.1=k->
 Paired (FL W H) (kvs.map λp=>if p.1=k then(p.1,v)else p) (es.modify i λe=>{hash:=e.hash,key:=e.key,val:=r}):=by
 induction kvs generalizing es with
 |nil=>intro i p _ e;simp at e
 | cons q kvs ih=>
   intro i p hp hi he;rw[map_cons,nodup_cons]at hn;cases hp with
   | @cons _ e0 _ es' h0 ht=>
     cases i with
     | zero=>
       simp at hi;subst hi;rw[map_cons,iP he]
       have rest:(kvs.map λp=>if p.1=k then(p.1,v)else p)=kvs:=by
        have:∀q∈kvs,(if q.1=k then(q.1,v)else q)=q:=by
         intro q hq;rw[iN];intro z;exact hn.1 (mem_map.mpr ⟨q,hq,z.trans he.symm⟩)
        conv=>rhs;rw[<-List.map_id kvs]
        exact map_congr_left this
       rw[rest];exact .cons ⟨h0.1,h0.2.1,y,hr,hy⟩ ht
     | succ i=>
       have hi:kvs[i]? =some p:=by simpa using hi
       rw[map_cons,iN]
       . exact .cons h0 (ih hn.2 ht hi he)
       . intro z;exact hn.1 (mem_map.mpr ⟨p,mem_of_getElem? hi,he.trans z.symm⟩)
end
variable{X:Cx}{W:Wd}{pins:List (Addr×Obj)}{σ:L2.St}{H:Hp}{s:Shared}{a:Addr}{kvs:List (P×P)}{k v:P}{x y:V}{u r:Value}{A:Around}{E:Value->Shared->Prop}
theorem Ds(hw:W.w=X.w)(Aj:Dg X.prog X.w H s.heap)(hd:Dj W H a kvs):s.TypeIs (.ref a) "dict":=by
 obtain⟨es,hH,_⟩:=hd.ex;obtain⟨⟨o,h1,h2,h3⟩,_⟩:=(show C8 X.prog X.w H s.heap a (DX a es)from Aj a _ hH);exact⟨o,h1,h2.1⟩
theorem Ml{Q:Value->Shared->Prop}(hK:W.K=X.K)(hw:W.w=X.w)(hu:A.units + 200 < cLine)(I:Inv X pins σ H s)(hd:Dj W H a kvs)(hk:keyOk k=true)(hx:Av W H k x)(hl:Af kvs k=some v)(rx:RelV x u)
 (h:∀w' y s',Inv X pins σ H s'->RelV y w'->Av W H v y->Q w' s'):wpAny (model X.prog X.w) A (getItem (.ref a) u) Q E s:=by
 have ty:=Ds hw I.Aj hd;have Bq:W.K.In s.heap:=hK▸I.EG;have Aj:Dg X.prog W.w H s.heap:=hw▸I.Aj;unfold getItem;refine wpAny_holding (wB (wpAny_sequenceKey ty (by decide) ?_));refine wB (wpAny_callSpecial?_slot ty slot_dict_getitem (wpAny_call_entry slot_dict_getitem ty entry_dict_getitem ?_ (args_dict_getitem _ _)));have hu1:A.in1.units=A.units + 1:=in1_units;show wpAny _ _ (dictGet a u >>= _) _ _ s;rw[<-hw];refine wB (DY Aj Bq hd hk hx rx (by lia) (λz=>by rw[hl]at z;cases z) λp y z hz hy rz tk=>?_);rw[hl]at hz;cases hz;exact wP ⟨_,rfl,wP (h _ _ _ (I.tok _) rz hy)⟩
theorem Gh{Q:Bool->Shared->Prop}(hK:W.K=X.K)(hw:W.w=X.w)(hu:A.units + 200 < cLine)(I:Inv X pins σ H s)(hd:Dj W H a kvs)(hk:keyOk k=true)(hx:Av W H k x)(rx:RelV x u)(h:∀s',Inv X pins σ H s'->Q (Af kvs k).isSome s'):
 wpAny (model X.prog X.w) A (contains (.ref a) u) Q E s:=by
 have ty:=Ds hw I.Aj hd;have Bq:W.K.In s.heap:=hK▸I.EG;have Aj:Dg X.prog W.w H s.heap:=hw▸I.Aj;have hu1:A.in1.units=A.units + 1:=in1_units;have hsm:=hd.sm;refine wpAny_contains_slot ty slot_dict_contains (wpAny_call_entry slot_dict_contains ty entry_dict_contains ?_ (args_dict_contains _ _));show wpAny _ _ (dictGet a u >>= _) _ _ s;rw[<-hw];refine wB (DY Aj Bq hd hk hx rx (by lia) (λz tk=>?_) λp y z hz hy rz tk=>?_)
 . refine wpAny_ite_split (λhab=>absurd hab (by decide)) (λ_=>?_);unfold Builtin.Dict.pendingKey?;rw[hsm];refine wB ?_;refine wpAny_ite_split (λhab=>absurd hab (by decide)) (λ_=>wP (wP ⟨_,rfl,?_⟩));have:=h _ (I.tok tk);rw[z]at this;exact wpAny_truthy_bool this
 . refine wpAny_ite_split (λ_=>wP ⟨_,rfl,?_⟩) (λhab=>absurd rfl hab);have:=h _ (I.tok tk);rw[hz]at this;exact wpAny_truthy_bool this
variable{es':List DictEntry}
theorem L4{h':Heap}{t':Nat}{es:List DictEntry}{oc:Value}{od:Option Addr}{os:Array (Option Value)}{d0:Data}(I:Inv X pins σ H s)(hH:H a=some (DX a es))(hs:Heap.SameBut a s.heap h')
 (hg:h'.get? a=some ⟨oc,od,.dict es'.toArray es'.length,os⟩)(hx:(Obj.mk oc od d0 os).ExactDict):Inv X pins σ (upd H a (DX a es')) {s with heap:=h',toks:=t'}:=by
 refine U3 I (by rw[hH];exact True.intro) hs ⟨_,hg⟩ ⟨⟨_,hg,hx,rfl⟩,⟨_,hg⟩,?_⟩
 rintro h1 h2 ⟨o,q1,q2,q3⟩ k
 exact⟨o,k o q1,q2,q3⟩
theorem N4{es:List DictEntry}(hH:H a=some (DX a es)):Bm H (upd H a (DX a es')):=λb=>by
 by_cases hb:b=a
 . subst hb;refine⟨λxs z=>?_,λo u z=>?_⟩
   . rw[hH]at z;cases z
   . rw[hH]at z;cases z
 . rw[Au hb];exact⟨λ_ z=>z,λ_ _ z=>z⟩
theorem Mj{Q:Unit->Shared->Prop}(hK:W.K=X.K)(hw:W.w=X.w)(hu:A.units + 200 < cLine)(I:Inv X pins σ H s)(hd:Dj W H a kvs)(hk:keyOk k=true)(hx:Av W H k x)(hy:Av W H v y)(hl:kvs.length < big)(rx:RelV x u)(ry:RelV y r)
 (h:∀es es' s',H a=some (DX a es)->Dj W (upd H a (DX a es')) a (dput kvs k v)->Inv X pins σ (upd H a (DX a es')) s'->Q () s'):
 wpAny (model X.prog X.w) A (setItem (.ref a) u r) Q E s:=by
 have ty:=Ds hw I.Aj hd;have Bq:W.K.In s.heap:=hK▸I.EG;have Aj:Dg X.prog W.w H s.heap:=hw▸I.Aj;have hu1:A.in1.units=A.units + 1:=in1_units;obtain⟨es,hH,hp⟩:=hd.ex;have hn:=hd.nd;have hks:=hd.ks;have hsm:=hd.sm;obtain⟨hb,hdp,_⟩:=CO hk;obtain⟨⟨o,h1,h2,h3⟩,_⟩:=(show C8 X.prog X.w H s.heap a (DX a es)from I.Aj a _ hH);have hlen:=Paired.length hp;have T:∀es',Bm H (upd H a (DX a es')):=λes'=>N4 hH
 unfold setItem;refine wpAny_holding (wB (wpAny_sequenceKey ty (by decide) ?_));refine wB (wpAny_callSpecial?_slot ty slot_dict_setitem (wpAny_call_entry slot_dict_setitem ty entry_dict_setitem ?_ (args_dict_setitem _ _ _)));show wpAny _ _ (Builtin.Dict.notOrdered "__setitem__" ⟨[.ref a,u,r],[]⟩ >>= λ_=>dictSet a u r >>= λ_=>ret Value.none) _ _ s;unfold Builtin.Dict.notOrdered;refine wB ?_;refine wpAny_ite_split (λ_=>?_) (λhab=>absurd (by decide) hab);refine wB (wpAny_typeOf ty ?_);refine wpAny_ite_split (λhab=>absurd hab (by decide)) (λ_=>wP ?_);refine wB ?_;unfold dictSet;rw[<-hw];refine wpAny_holding (wB (Hk k hx hb rx Aj Bq (by lia) λtk=>?_));unfold dictSetHashed;refine wpAny_holding (wB (Nn (s:={s with toks:=tk}) Aj Bq h1 h3 hp hn hks hk hx rx (by lia) (λhno=>?_) λi p hi e=>?_))
 . refine wB (wpAny_rule ?_);refine wpAny_updateDictKeys (s:={s with toks:=tk}) h1 h3 ?_ (by rw[size_toArray];have:=C3;lia) (by simp);refine wP ⟨_,rfl,wP ?_⟩
   have hnone:¬(kvs.any λq=>decide (q.1=k))=true:=λz=>by
    obtain⟨p,hp',e⟩:=any_eq_true.mp z;exact hno p hp' (of_decide_eq_true e)
   have eput:dput kvs k v=kvs++[(k,v)]:=by unfold dput;rw[iN hnone]
   obtain⟨oc,od,oda,os⟩:=o;have h3:oda= .dict es.toArray es.length:=h3;subst h3
   have hget:(s.heap.update a (Obj.mapDictKeys λx=>x.push (⟨Dp W.w k,u,r⟩:DictEntry))).get? a=some ⟨oc,od,.dict (es++[(⟨Dp W.w k,u,r⟩:DictEntry)]).toArray (es++[(⟨Dp W.w k,u,r⟩:DictEntry)]).length,os⟩:=by
    rw[Heap.get?_update_self _ h1 rfl];show some (Obj.mk oc od (.dict (es.toArray.push (⟨Dp W.w k,u,r⟩:DictEntry)) (es.length + 1)) os)=_;rw[List.push_toArray,lA];rfl
   refine h es (es++[(⟨Dp W.w k,u,r⟩:DictEntry)]) _ hH ⟨⟨_,AH,?_⟩,Hx hn,λp hp'=>?_,by have:=Cr kvs k v;lia,hsm⟩ (L4 (s:=s) (t':=tk) I hH (Heap.SameBut.update ..) hget h2)
   . rw[eput];exact Paired.snoc (Paired.Qf hp λ_ _ z=>z.mono (T _)) ⟨rfl,⟨x,rx,hx.mono (T _)⟩,y,ry,hy.mono (T _)⟩
   . rcases L0 hp' with⟨q,hq,e1⟩|e
     . rw[e1];exact hks q hq
     . rw[e];exact hk
 . refine wB (wpAny_rule ?_);refine wB (wpAny_updateDict (s:={s with toks:=tk}) h1 h3 ?_ (by simp));have hsome:(kvs.any λq=>decide (q.1=k))=true:=any_eq_true.mpr ⟨p,mem_of_getElem? hi,decide_eq_true e⟩;have eput:dput kvs k v=kvs.map λp=>if p.1=k then(p.1,v)else p:=by unfold dput;rw[iP hsome]
   obtain⟨oc,od,oda,os⟩:=o;have h3:oda= .dict es.toArray es.length:=h3;subst h3
   have hget:(s.heap.update a (Obj.mapDict λx=>x.modify i λe=>{hash:=e.hash,key:=e.key,val:=r})).get? a=some ⟨oc,od,.dict (es.modify i λe=>{hash:=e.hash,key:=e.key,val:=r}).toArray (es.modify i λe=>{hash:=e.hash,key:=e.key,val:=r}).length,os⟩:=by
    rw[Heap.get?_update_self _ h1 rfl];show some (Obj.mk oc od (.dict (es.toArray.modify i _) es.length) os)=_;rw[List.modify_toArray,List.length_modify]
   refine wpAny_point ?_;refine wP ⟨_,rfl,wP ?_⟩;refine h es (es.modify i λe=>{hash:=e.hash,key:=e.key,val:=r}) _ hH ⟨⟨_,AH,?_⟩,Hx hn,λp hp'=>?_,by have:=Cr kvs k v;lia,hsm⟩ (L4 (s:=s) (t':=tk) I hH (Heap.SameBut.update ..) hget h2)
   . rw[eput];exact HS ry (hy.mono (T _)) hn (Paired.Qf hp λ_ _ z=>z.mono (T _)) hi e
   . rcases L0 hp' with⟨q,hq,e1⟩|e
     . rw[e1];exact hks q hq
     . rw[e];exact hk
end Iv
namespace Iv
open PySem L2
def B7(as:List Nat)(σ σ':St):Prop:=σ'.length=σ.length/\∀i,i∉as->σ'[i]? =σ[i]?
theorem B7.refl(as:List Nat)(σ:St):B7 as σ σ:=⟨rfl,λ_ _=>rfl⟩
variable{as:List Nat}{σ1:St}
theorem B7.trans{σ σ2:St}(a:B7 as σ σ1)(b:B7 as σ1 σ2):B7 as σ σ2:=⟨b.1.trans a.1,λi h=>(b.2 i h).trans (a.2 i h)⟩
theorem B7.mono{bs:List Nat}{σ σ':St}(a:B7 as σ σ')(h:∀i∈as,i∈bs):B7 bs σ σ':=⟨a.1,λi hi=>a.2 i λz=>hi (h i z)⟩
theorem B7.set{σ:St}{i:Nat}{x:Option V}(h:i∈as):B7 as σ (σ.set i x):=⟨length_set ..,λj hj=>by
 rw[List.getElem?_set_ne]
 exact λz=>hj (z▸h)⟩
section
variable (W:Wd)
def Cy(as:List Nat)(D:Ends)(σ:St)(H:Hp)(os:List Addr)(r:Res Fl):Prop:=match r with
 | .stuck=>False
 | .ok .nx ρ'=>∀σ' H' os',Ab W H' ρ' σ' os'->os'.Nodup->Bn H H' os os'->B7 as σ σ'->D.nx σ' H'
 | .ok .brk ρ'=>∀σ' H' os',Ab W H' ρ' σ' os'->os'.Nodup->Bn H H' os os'->B7 as σ σ'->D.bk σ' H'
 | .ok .cnt ρ'=>∀σ' H' os',Ab W H' ρ' σ' os'->os'.Nodup->Bn H H' os os'->B7 as σ σ'->D.ct σ' H'
 | .ok (.ret c) ρ'=>∀v σ' H' o os',Bt W H' c v o->Ab W H' ρ' σ' os'->(o++os').Nodup->Bn H H' os (o++os')->B7 as σ σ'->D.rt v H'
noncomputable def tS(as:List Nat)(F:Env->Res Fl):TS:=λD σ H=>∃ρ os,Ab W H ρ σ os/\os.Nodup/\Cy W as D σ H os (F ρ)
end
variable{W:Wd}{as:List Nat}{D:Ends}{σ:St}{H:Hp}{os:List Addr}{r:Res Fl}
variable{os1:List Addr}
theorem Cy.later{H1:Hp}(h:Cy W as D σ H os r)(f:Bn H H1 os os1)(u:B7 as σ σ1):Cy W as D σ1 H1 os1 r:=by
 have fr:∀{H' os'},Bn H1 H' os1 os'->Bn H H' os os':=λg=>f.trans g
 cases r with
 |stuck=>exact h
 | ok f ρ'=>
   cases f with
   |nx=>exact λσ' H' os' h1 h2 h3 h4=>h σ' H' os' h1 h2 (fr h3) (u.trans h4)
   |brk=>exact λσ' H' os' h1 h2 h3 h4=>h σ' H' os' h1 h2 (fr h3) (u.trans h4)
   |cnt=>exact λσ' H' os' h1 h2 h3 h4=>h σ' H' os' h1 h2 (fr h3) (u.trans h4)
   |ret c=>exact λv σ' H' o os' h0 h1 h2 h3 h4=>h v σ' H' o os' h0 h1 h2 (fr h3) (u.trans h4)
theorem Cy.less(h:Cy W as D σ H os r)(hm:∀a∈os1,a∈os):Cy W as D σ H os1 r:=
 h.later ⟨JX.refl _ _,λa ha=>.inl (hm a ha),λ_ x e=>⟨x,e⟩⟩ (B7.refl _ _)
theorem Cy.more{bs:List Nat}(h:Cy W bs D σ H os r)(hm:∀i∈as,i∈bs):Cy W as D σ H os r:=by
 cases r with
 |stuck=>exact h
 | ok f ρ'=>
   cases f with
   |nx=>exact λσ' H' os' h1 h2 h3 h4=>h σ' H' os' h1 h2 h3 (h4.mono hm)
   |brk=>exact λσ' H' os' h1 h2 h3 h4=>h σ' H' os' h1 h2 h3 (h4.mono hm)
   |cnt=>exact λσ' H' os' h1 h2 h3 h4=>h σ' H' os' h1 h2 h3 (h4.mono hm)
   |ret c=>exact λv σ' H' o os' h0 h1 h2 h3 h4=>h v σ' H' o os' h0 h1 h2 h3 (h4.mono hm)
theorem after{α β:Type}{rep:St->Hp->Env->α->β->List Addr->Prop}{F:Env->Res α}{G:α->Env->Res Fl}{K:β->Hp->Prop}(hR:Ab W H ρ σ os)(h:Cy W as D σ H os ((F ρ).bind G))
 (k:∀a ρ1 b H1 o1 os1,rep σ H1 ρ1 a b o1->Ab W H1 ρ1 σ os1->(o1++os1).Nodup->Bn H H1 os (o1++os1)->Cy W as D σ H1 (o1++os1) (G a ρ1)->K b H1):Ck W (rep σ) H os σ (F ρ) K:=by
 unfold Ck;cases eF:F ρ with
 |stuck=>rw[eF]at h;exact h
 | ok a ρ1=>
   rw[eF,Res.A5]at h;exact λb H1 o1 os1 h1 h2 h3 h4=>k a ρ1 b H1 o1 os1 h1 h2 h3 h4 (h.later h4 (B7.refl _ _))
theorem Pl(h:tS W [] (λρ=>.ok .nx ρ) D σ H):MA D σ H:=by
 obtain⟨ρ,os,hR,hn,hA⟩:=h
 try dsimp only at hA
 exact hA σ H os hR hn (Bn.refl _ _) (B7.refl _ _)
theorem XU(h:tS W [] (λρ=>.ok .brk ρ) D σ H):P2 D σ H:=by
 obtain⟨ρ,os,hR,hn,hA⟩:=h
 try dsimp only at hA
 exact hA σ H os hR hn (Bn.refl _ _) (B7.refl _ _)
theorem XT(h:tS W [] (λρ=>.ok .cnt ρ) D σ H):UE D σ H:=by
 obtain⟨ρ,os,hR,hn,hA⟩:=h
 try dsimp only at hA
 exact hA σ H os hR hn (Bn.refl _ _) (B7.refl _ _)
variable{a1 a2:List Nat}{G:Env->Res Fl}
theorem Vp{F:Env->Res Fl}(h:tS W (a1++a2) (λρ=>(F ρ).bind λf ρ=>match f with| .nx=>G ρ|f=>.ok f ρ) D σ H):XD (tS W a1 F) (tS W a2 G) D σ H:=by
 obtain⟨ρ,os,hR,hn,hA⟩:=h
 try dsimp only at hA
 have m1:∀i∈a1,i∈a1++a2:=λi hi=>mL hi
 have m2:∀i∈a2,i∈a1++a2:=λi hi=>mR hi
 refine⟨ρ,os,hR,hn,?_⟩;cases eF:F ρ with
 |stuck=>rw[eF]at hA;exact hA
 | ok f ρ1=>
   rw[eF,Res.A5]at hA;cases f with
   | nx=>
     intro σ' H' os' h1 h2 h3 h4;have hA:Cy W (a1++a2) D σ H os (G ρ1):=hA;exact⟨ρ1,os',h1,h2,(hA.later h3 (h4.mono m1)).more m2⟩
   |brk=>exact λσ' H' os' h1 h2 h3 h4=>hA σ' H' os' h1 h2 h3 (h4.mono m1)
   |cnt=>exact λσ' H' os' h1 h2 h3 h4=>hA σ' H' os' h1 h2 h3 (h4.mono m1)
   |ret c=>exact λv σ' H' o os' h0 h1 h2 h3 h4=>hA v σ' H' o os' h0 h1 h2 h3 (h4.mono m1)
theorem ae{B:Env->Res Bool}{F:Env->Res Fl}(h:tS W (a1++a2) (λρ=>(B ρ).bind λx ρ=>if x then F ρ else G ρ) D σ H):XH (tG W rB B) (tS W a1 F) (tS W a2 G) D σ H:=by
 obtain⟨ρ,os,hR,hn,hA⟩:=h
 try dsimp only at hA
 refine⟨ρ,os,hR,hn,after hR hA λa ρ1 b H1 o1 os1 h1 h2 h3 h4 h5=>?_⟩;obtain⟨rfl,rfl⟩:=h1;cases a with
 |true=>exact⟨ρ1,os1,h2,h3,h5.more λi hi=>mL hi⟩
 |false=>exact⟨ρ1,os1,h2,h3,h5.more λi hi=>mR hi⟩
variable{F:Env->Res C}
theorem Vo(h:tS W [] (λρ=>(F ρ).bind λ_ ρ=>.ok .nx ρ) D σ H):UD (tG W (rV W) F) D σ H:=by
 obtain⟨ρ,os,hR,hn,hA⟩:=h
 try dsimp only at hA
 refine⟨ρ,os,hR,hn,after hR hA λa ρ1 b H1 o1 os1 h1 h2 h3 h4 h5=>?_⟩;exact h5 σ H1 os1 h2 (nA h3).2.1 ((Bn.refl _ _).sub λa ha=>mR ha) (B7.refl _ _)
theorem XQ(h:tS W [] (λρ=>(F ρ).bind λc ρ=>.ok (.ret c) ρ) D σ H):XE (tG W (rV W) F) D σ H:=by
 obtain⟨ρ,os,hR,hn,hA⟩:=h
 try dsimp only at hA
 refine⟨ρ,os,hR,hn,?_⟩;unfold Ck;cases eF:F ρ with
 |stuck=>rw[eF]at hA;exact hA
 | ok a ρ1=>
   rw[eF]at hA;exact λb H1 o1 os1 h1 h2 h3 h4=>hA b σ H1 o1 os1 h1 h2 h3 h4 (B7.refl _ _)
theorem Vn(h:tS W [] (λρ=>.ok (.ret (.p .AG)) ρ) D σ H):UB D σ H:=by
 obtain⟨ρ,os,hR,hn,hA⟩:=h
 try dsimp only at hA
 exact hA .AG σ H [] os ⟨by unfold Av;rfl,rfl⟩ hR hn (Bn.refl _ _) (B7.refl _ _)
theorem Fo{o os od os':List Addr}(hn:(o++os).Nodup)(p:(od++os').Perm (o++os)):os'.Nodup:=(nA (p.nodup_iff.mpr hn)).2.1
theorem XO{i:Nat}(hi:i < σ.length)(h:tS W [i] (λρ=>(F ρ).bind λc ρ=>.ok .nx (ρ.set i (some c))) D σ H):P4 (tG W (rV W) F) (Hn i) D σ H:=by
 obtain⟨ρ,os,hR,hn,hA⟩:=h
 try dsimp only at hA
 refine⟨ρ,os,hR,hn,after hR hA λc ρ1 v H1 o1 os1 h1 h2 h3 h4 h5=>?_⟩;obtain⟨os2,od,r2,p2⟩:=Ab.put h1 h2 (by rw[<-h2.length];exact hi);exact h5 (σ.set i (some v)) H1 os2 r2 (Fo h3 p2) ((Bn.refl _ _).sub λa ha=>p2.subset (mR ha)) (B7.set mS)
end Iv
namespace Iv
open PySem L2
open Classical in
noncomputable def A6:WH:=λc b ρ=>if h:∃n,∃f ρ',AE c b n ρ= .ok f ρ' then AE c b h.choose ρ else .stuck
theorem IU{c:Env->Res Bool}{b:Env->Res Fl}(h:A6 c b ρ≠.stuck):∃n,AE c b n ρ=A6 c b ρ:=by
 unfold A6 at h ⊢;split
 . exact⟨_,rfl⟩
 . rename_i hn;rw[dif_neg hn]at h;exact absurd rfl h
theorem BC{c:Env->Res Bool}{b:Env->Res Fl}(n:Nat)(ρ:Env):AE c b (n + 1) ρ=(c ρ).bind λx ρ=>if x then(b ρ).bind λf ρ=>match f with
 | .nx=>AE c b n ρ
 | .cnt=>AE c b n ρ
 | .brk=>.ok .nx ρ
 | .ret r=>.ok (.ret r) ρ
 else .ok .nx ρ:=rfl
theorem Dk{c:Env->Res Bool}{b:Env->Res Fl}:∀(n:Nat) (ρ:Env),AE c b n ρ≠.stuck->AE c b (n + 1) ρ=AE c b n ρ
 |0,ρ,h=>absurd rfl h
 | n + 1,ρ,h=>by
   rw[BC]at h;rw[BC (n + 1),BC n];cases ec:c ρ with
   |stuck=>rfl
   | ok x ρ1=>
     rw[ec,Res.A5]at h;rw[Res.A5,Res.A5];cases x with
     |false=>rfl
     | true=>
       rw[iP rfl]at h;rw[iP rfl,iP rfl];cases eb:b ρ1 with
       |stuck=>rfl
       | ok f ρ2=>
         rw[eb,Res.A5]at h;rw[Res.A5,Res.A5];cases f with
         |nx=>exact Dk n ρ2 h
         |cnt=>exact Dk n ρ2 h
         |brk=>rfl
         |ret r=>rfl
theorem ER{c:Env->Res Bool}{b:Env->Res Fl}{n:Nat}(h:AE c b n ρ≠.stuck):∀m,AE c b (n + m) ρ=AE c b n ρ
 |0=>rfl
 | m + 1=>by
   have ih:=ER h m;rw[<-Nat.add_assoc,Dk (n + m) ρ (by rw[ih];exact h),ih]
theorem OO{c:Env->Res Bool}{b:Env->Res Fl}{n:Nat}(h:AE c b n ρ≠.stuck):A6 c b ρ=AE c b n ρ:=by
 have hex:∃n,∃f ρ',AE c b n ρ= .ok f ρ':=by
  cases e:AE c b n ρ with
  |stuck=>exact absurd e h
  |ok f ρ'=>exact⟨n,f,ρ',e⟩
 have hne:A6 c b ρ≠.stuck:=by
  unfold A6;rw[dif_pos hex];obtain⟨f,ρ',z⟩:=hex.choose_spec;intro e;rw[z]at e;cases e
 obtain⟨m,em⟩:=IU hne;rw[<-em];rw[<-em]at hne;rcases Nat.le_total n m with z|z
 . obtain⟨k,rfl⟩:=Nat.exists_eq_add_of_le z;exact ER h k
 . obtain⟨k,rfl⟩:=Nat.exists_eq_add_of_le z;exact(ER hne k).symm
variable{W:Wd}{as:List Nat}{D:Ends}{σ:St}{H:Hp}{os:List Addr}
theorem S8{B:Env->Res Bool}{F:Env->Res Fl}(h:tS W as (λρ=>A6 B F ρ) D σ H):P0 (tG W rB B) (tS W as F) D σ H:=by
 obtain⟨ρ,os,hR,hn,hA⟩:=h
 try dsimp only at hA
 have hne:A6 B F ρ≠.stuck:=λz=>by rw[z]at hA;exact hA
 obtain⟨n,en⟩:=IU hne;rw[<-en]at hA;refine⟨λm σ' H'=>∃ρ' os',Ab W H' ρ' σ' os'/\os'.Nodup/\Cy W as D σ' H' os' (AE B F m ρ'),⟨n,ρ,os,hR,hn,hA⟩,?_⟩
 rintro m σ' H' ⟨ρ',os',hR',hn',hA'⟩
 cases m with
 |zero=>exact hA'.elim
 | succ m=>
   rw[BC]at hA';refine⟨ρ',os',hR',hn',after hR' hA' λx ρ1 b H1 o1 os1 h1 h2 h3 h4 h5=>?_⟩;obtain⟨rfl,rfl⟩:=h1;cases x with
   |false=>exact h5 σ' H1 os1 h2 h3 (Bn.refl _ _) (B7.refl _ _)
   | true=>
     have h5:Cy W as D σ' H1 os1 ((F ρ1).bind λf ρ=>match f with
      | .nx=>AE B F m ρ
      | .cnt=>AE B F m ρ
      | .brk=>.ok .nx ρ
      | .ret r=>.ok (.ret r) ρ):=h5
     refine⟨λσ2 H2=>∃ρ' os',Ab W H2 ρ' σ2 os'/\os'.Nodup/\Cy W as D σ2 H2 os' (AE B F m ρ'),λσ2 H2 z=>⟨m,Nat.lt_succ_self m,z⟩,ρ1,os1,h2,h3,?_⟩;cases eF:F ρ1 with
     |stuck=>rw[eF]at h5;exact h5
     | ok f ρ2=>
       rw[eF,Res.A5]at h5;cases f with
       |nx=>exact λσ2 H2 os2 g1 g2 g3 g4=>⟨ρ2,os2,g1,g2,Cy.later (r:=AE B F m ρ2) h5 g3 g4⟩
       |cnt=>exact λσ2 H2 os2 g1 g2 g3 g4=>⟨ρ2,os2,g1,g2,Cy.later (r:=AE B F m ρ2) h5 g3 g4⟩
       |brk=>exact h5
       |ret c=>exact h5
structure Walk(W:Wd)(J:It)(xs:List P)(g:Hp->Prop):Prop where
 go:∀i H,g H->i < xs.length->J.go i H
 Mw:∀i H x H',g H->i < xs.length->J.Mw i H x H'->Di H H'/\∃p,xs[i]? =some p/\Av W H' p x
 stop:∀H,g H->J.stop xs.length H
noncomputable def Mx(W:Wd)(k:IK)(F:Env->Res (List Hd)):TI:=λσ H R=>tG W (Be W) F σ H λvs H1=>∃cs xs,Eb W H1 cs vs/\Ah k cs=some xs/\∀J,Walk W J xs (λH=>Eb W H cs vs)->R J H1
def YI:List Nat->V1
 |[]=>YJ
 |i::is=>UT (Hn i) (YI is)
def gT(W:Wd):Tg->TG
 | .nm i=>Hn i
 | .tup is=>Ws W.K is.length (YI is)
theorem Ig{ρ:Env}{i:Nat}(hp:Av W H p v)(hR:Ab W H ρ σ os)(hn:os.Nodup)(hi:i < σ.length):∃os',Ab W H (ρ.set i (some (.p p))) (σ.set i (some v)) os'/\os'.Nodup/\∀a∈os',a∈os:=by
 obtain⟨os',od,r,q⟩:=Ab.put (c:=.p p) (v:=v) (o:=[]) ⟨hp,rfl⟩ hR (by rw[<-hR.length];exact hi);exact⟨os',r,Fo (o:=[]) hn q,λa ha=>q.subset (mR ha)⟩
theorem QM{Q:St->Hp->Prop}:∀{is:List Nat} {ps:List P} {vs:List V} {ρ:Env} {σ:St} {os:List Addr},A7 W H ps vs->is.length=ps.length->Ab W H ρ σ os->os.Nodup->(∀i∈is,i < σ.length)->
 (∀σ' os',Ab W H ((is.zip ps).foldl (λr q=>r.set q.1 (some (.p q.2))) ρ) σ' os'->os'.Nodup->(∀a∈os',a∈os)->B7 is σ σ'->Q σ' H)->YI is vs σ H Q
 | [],ps,vs,ρ,σ,os,hp,hl,hR,hn,hi,q=>by
   have:ps=[]:=length_eq_zero_iff.mp hl.symm;subst this;unfold A7 at hp;exact⟨hp,q σ os hR hn (λa ha=>ha) (B7.refl _ _)⟩
 | i ::is,ps,vs,ρ,σ,os,hp,hl,hR,hn,hi,q=>by
   cases ps with
   |nil=>cases hl
   | cons p ps=>
     cases vs with
     |nil=>unfold A7 at hp;obtain⟨_,_,e,_⟩:=hp;cases e
     | cons v vs=>
       obtain⟨os1,r1,n1,s1⟩:=Ig hp.Bo.1 hR hn (hi i mS);refine⟨v,vs,rfl,QM hp.Bo.2 (by simpa using hl) r1 n1 (λj hj=>by rw[length_set];exact hi j (mC hj)) λσ' os' g1 g2 g3 g4=>?_⟩;refine q σ' os' g1 g2 (λa ha=>s1 a (g3 a ha)) ?_;exact(B7.set mS).trans (g4.mono λj hj=>mC hj)
theorem US{Q:St->Hp->Prop}{g:Tg}{ρ':Env}(e:DF g p ρ=some ρ')(hp:Av W H p v)(hR:Ab W H ρ σ os)(hn:os.Nodup)(hi:∀i∈g.slots,i < σ.length)
 (q:∀σ' os',Ab W H ρ' σ' os'->os'.Nodup->(∀a∈os',a∈os)->B7 g.slots σ σ'->Q σ' H):gT W g v σ H Q:=by
 cases g with
 | nm i=>
   cases e;obtain⟨os1,r1,n1,s1⟩:=Ig hp hR hn (hi i mS);exact q _ os1 r1 n1 s1 (B7.set mS)
 | tup is=>
   unfold DF at e;cases p with
   | tup ps=>
     dsimp only at e;split at e
     . rename_i hl;cases e;obtain⟨a,vs,rfl,s1,r1⟩:=Ap.mp hp;exact⟨a,vs,rfl,s1,by rw[r1.length,<-hl],QM r1 hl hR hn hi q⟩
     . cases e
   |_=>cases e
variable{H:Hp}
theorem Eb.length:∀{cs:List C} {vs:List V},Eb W H cs vs->vs.length=cs.length
 |[],vs,h=>by rw[show vs=[]from h];rfl
 |c::cs,vs,⟨v,r,e,_,h⟩=>by rw[e,lC,lC,Eb.length h]
theorem DA{h:Hd}{hs:List Hd}{c:C}{cs:List C}(g:A8 (h::hs) (c::cs)=true):(c.cp=true\/∀i f,h≠.fld i f)/\A8 hs cs=true:=by
 unfold A8 at g ⊢;rw[zip_cons_cons,all_cons,bA]at g;refine⟨?_,g.2⟩
 by_cases hc:c.cp=true
 . exact .inl hc
 . refine .inr λi f e=>?_
   subst e;have:=g.1;simp[hc]at this
theorem J5{σ σ':St}{H':Hp}{os os':List Addr}(hR':Ab W H' ρ' σ' os')(k:Bm H H')(hb:JX b H H'):∀{hs:List Hd} {cs:List C} {vs:List V} {o:List Addr},Be W σ H ρ hs vs o->AB ρ hs=some cs->Ab W H ρ σ os->A8 hs cs=true->
 (∀q∈guards hs cs,A9 ρ' q.1=some q.2/\σ'[q.1]? =σ[q.1]?)->(∀a∈o,a∉b)->Eb W H' cs vs
 |[],cs,vs,o,h,e,_,_,_,_=>by cases e;exact h.1
 | h ::hs,cs,vs,o,⟨v,r,o1,o2,e1,h1,h2,e2⟩,e,hR,hg,hgs,hd=>by
   unfold AB at e;obtain⟨c,ec,e⟩:=oB e;obtain⟨ds,ed,rfl⟩:=oM e;subst e2;obtain⟨hgh,hg'⟩:=DA hg
   have hgs':∀q∈guards hs ds,A9 ρ' q.1=some q.2/\σ'[q.1]? =σ[q.1]? :=λq hq=>hgs q (by
    unfold guards at hq ⊢;rw[zip_cons_cons];rw[filterMap_cons];split
    . exact hq
    . exact mC hq)
   refine⟨v,r,e1,?_,J5 hR' k hb h2 ed hR hg' hgs' λa ha=>hd a (mR ha)⟩;have hrd:=Ez hR h1 ec
   by_cases hc:c.cp=true
   . cases c with
     |obj _ _=>cases hc
     | b x=>
       cases x with
       |lst _=>cases hc
       |AJ _=>cases hc
       |p x=>exact Av.mono k hrd
       | ro x=>
         obtain⟨a,vs',ea,hs',hr⟩:=hrd;exact⟨a,vs',ea,hs'.mono k,hr.mono k⟩
   . have hc:c.cp=false:=by simpa using hc
     cases h with
     | BG d=>
       cases ec;exact(Bt.frame h1 k hb λa ha=>hd a (mL ha)).rd
     | slot i=>
       have hm:(i,c)∈guards (.slot i::hs) (c::ds):=by
        unfold guards;rw[zip_cons_cons,filterMap_cons];simp[hc]
       obtain⟨g1,g2⟩:=hgs (i,c) hm;obtain⟨u,o',q1,q2,_⟩:=hR'.get g1;have q1:σ'[i]? =some (some u):=q1;have g2:σ'[i]? =σ[i]? :=g2;rw[g2,h1.1]at q1;cases q1;exact q2.rd
     |fld i f=>exact absurd rfl (hgh.resolve_left (by rw[hc];exact Bool.false_ne_true) i f)
end Iv
namespace Iv
open PySem L2
variable{W:Wd}{as:List Nat}{D:Ends}{σ:St}{H:Hp}{os:List Addr}
theorem Be.own :∀{hs:List Hd} {vs:List V} {o:List Addr},Be W σ H ρ hs vs o->∀a∈o,∃z,H a=some z
 |[],_,_,h=>by rw[h.2];intro a ha;cases ha
 | h::hs,_,_,⟨v,r,o1,o2,_,h1,h2,e⟩=>by
   rw[e];intro a ha;rcases mem_append.mp ha with z|z
   . exact h1.own a z
   . exact Be.own h2 a z
theorem MY{H:Hp}{o os os':List Addr}(n:(o++os).Nodup)(n':os'.Nodup)(own:∀a∈o,∃z,H a=some z)(src:∀a∈os',a∈os\/H a=none):(o++os').Nodup:=by
 have n1:=nA n;rw[nodup_append];refine⟨n1.1,n',λa ha b hb e=>?_⟩;subst e;rcases src a hb with z|z
 . exact n1.2.2 a ha a z rfl
 . obtain⟨x,ex⟩:=own a ha;rw[z]at ex;cases ex
theorem Iq{gs:List (Nat×C)}(h:holds gs ρ=true):∀q∈gs,A9 ρ q.1=some q.2:=λq hq=>by
 unfold holds at h;exact of_decide_eq_true (all_eq_true.mp h q hq)
variable{F:Env->Res (List Hd)}
theorem XS{k:IK}{g:Tg}{bs:List Nat}{B:Env->Res Fl}(hi:∀i∈g.slots,i < σ.length)(h:tS W (g.slots++bs) (λρ=>(F ρ).bind (E9 k g bs B)) D σ H):XI (Mx W k F) (gT W g) (tS W bs B) D σ H:=by
 obtain⟨ρ,os,hR,hn,hA⟩:=h
 try dsimp only at hA
 refine⟨ρ,os,hR,hn,after hR hA λhs ρ1 vs H1 o1 os1 h1 h2 h3 h4 h5=>?_⟩;unfold E9 at h5;cases ec:AB ρ1 hs with
 |none=>rw[ec]at h5;exact h5.elim
 | some cs =>
   rw[ec]at h5;dsimp only at h5;cases ex:Ah k cs with
   |none=>rw[ex]at h5;exact h5.elim
   | some xs =>
     rw[ex]at h5;dsimp only at h5;refine⟨cs,xs,DO h2 h1 ec,ex,λJ hJ=>?_⟩;split at h5
     case isFalse=>exact h5.elim
     rename_i hgd;rw[bA]at hgd
     have hgs:∀q∈guards hs cs,q.1∉g.slots++bs:=λq hq z=>by
      have:=all_eq_true.mp hgd.2 q hq;simp only[Bool.not_eq_true',List.contains_eq_mem,decide_eq_false_iff_not]at this;exact this z
     have own1:=Be.own h1
     refine⟨λi m σ' H'=>m=xs.length - i/\i<=xs.length/\∃ρ' os',Ab W H' ρ' σ' os'/\(o1++os').Nodup/\Bn H1 H' os1 os'/\B7 (g.slots++bs) σ σ'/\Cy W (g.slots++bs) D σ' H' (o1++os') (forL g (guards hs cs) B (xs.drop i) ρ'),
      ⟨xs.length,rfl,Nat.zero_le _,ρ1,os1,h2,h3,Bn.refl _ _,B7.refl _ _,h5⟩,?_⟩
     rintro i m σ' H' ⟨rfl,hix,ρ',os',hR',hn',hF',hU',hA'⟩
     have k1:Bm H1 H':=hF'.but.keep h2.own;have rd:holds (guards hs cs) ρ'=true->Eb W H' cs vs:=λhh=>J5 hR' k1 hF'.but h1 ec h2 hgd.1 (λq hq=>⟨Iq hh q hq,hU'.2 q.1 (hgs q hq)⟩) λa ha z=>(nA h3).2.2 a ha a z rfl
     have nd':=(nA hn').2.1
     by_cases hlt:i < xs.length
     . rw [List.drop_eq_getElem_cons hlt]at hA';unfold forL at hA';split at hA'
       case isFalse=>exact hA'.elim
       rename_i hh;have hrd:=rd hh
       refine .inr ⟨hJ.go i H' hrd hlt,λσ2 H2=>∃ρ' os',Ab W H2 ρ' σ2 os'/\(o1++os').Nodup/\Bn H1 H2 os1 os'/\B7 (g.slots++bs) σ σ2/\Cy W (g.slots++bs) D σ2 H2 (o1++os') (forL g (guards hs cs) B (xs.drop (i + 1)) ρ'),
        λσ2 H2 z=>⟨xs.length - (i + 1),by lia,rfl,hlt,z⟩,λx H'' hy=>?_⟩
       obtain⟨s2,p,ep,rp⟩:=hJ.Mw i H' x H'' hrd hlt hy;have ep:xs[i]=p:=by rw[List.getElem?_eq_getElem hlt]at ep;exact Option.some.inj ep
       rw[ep]at hA';cases es:DF g p ρ' with
       |none=>rw[es]at hA';exact hA'.elim
       | some ρ2=>
         rw[es]at hA'
         have hA':Cy W (g.slots++bs) D σ' H' (o1++os') ((B ρ2).bind λf ρ=>match f with
          | .nx=>forL g (guards hs cs) B (xs.drop (i + 1)) ρ
          | .cnt=>forL g (guards hs cs) B (xs.drop (i + 1)) ρ
          | .brk=>.ok .nx ρ
          | .ret r=>.ok (.ret r) ρ):=hA'
         refine US es rp (hR'.same s2) nd' (λj hj=>by rw[hU'.1];exact hi j hj) λσ2 os2 g1 g2 g3 g4=>?_
         refine⟨ρ2,os2,g1,g2,?_⟩;have m1:∀i∈g.slots,i∈g.slots++bs:=λi hi=>mL hi
         have m2:∀i∈bs,i∈g.slots++bs:=λi hi=>mR hi
         have fr2:Bn H' H'' (o1++os') (o1++os2):=.of s2 λa ha=>by
          rcases mem_append.mp ha with z|z
          . exact .inl (mL z)
          . exact .inl (mR (g3 a z))
         have hA2:=hA'.later fr2 (g4.mono m1)
         have own2:∀a∈o1,∃z,H'' a=some z:=λa ha=>by
          obtain⟨z,ez⟩:=own1 a ha;obtain⟨z',ez'⟩:=hF'.there a z ez;exact⟨z',s2 a z' ez'⟩
         have n2:(o1++os2).Nodup:=MY hn' g2 (λa ha=>by
          obtain⟨z,ez⟩:=own1 a ha
          exact hF'.there a z ez) λa ha=>.inl (g3 a ha)
         have go:∀σ3 H3 os3 ρ3,Ab W H3 ρ3 σ3 os3->os3.Nodup->Bn H'' H3 os2 os3->B7 bs σ2 σ3->Cy W (g.slots++bs) D σ2 H'' (o1++os2) (forL g (guards hs cs) B (xs.drop (i + 1)) ρ3)->
          ∃ρ' os',Ab W H3 ρ' σ3 os'/\(o1++os').Nodup/\Bn H1 H3 os1 os'/\B7 (g.slots++bs) σ σ3/\Cy W (g.slots++bs) D σ3 H3 (o1++os') (forL g (guards hs cs) B (xs.drop (i + 1)) ρ'):=λσ3 H3 os3 ρ3 r1 r2 r3 r4 r6=>by
          refine⟨ρ3,os3,r1,MY n2 r2 own2 r3.src,?_,(hU'.trans (g4.mono m1)).trans (r4.mono m2),r6.later (r3.more o1) (r4.mono m2)⟩;have f1:Bn H' H'' os' os2:=.of s2 λa ha=>.inl (g3 a ha)
          exact(hF'.trans f1).trans r3
         cases eB:B ρ2 with
         |stuck=>rw[eB]at hA2;exact hA2
         | ok f ρ3=>
           rw[eB,Res.A5]at hA2;cases f with
           |nx=>exact λσ3 H3 os3 r1 r2 r3 r4=>go σ3 H3 os3 ρ3 r1 r2 r3 r4 hA2
           |cnt=>exact λσ3 H3 os3 r1 r2 r3 r4=>go σ3 H3 os3 ρ3 r1 r2 r3 r4 hA2
           |brk=>exact λσ3 H3 os3 r1 r2 r3 r4=>hA2 σ3 H3 os3 r1 r2 (r3.weak λa ha=>mR ha) (r4.mono m2)
           |ret c=>exact λv σ3 H3 o3 os3 r0 r1 r2 r3 r4=>hA2 v σ3 H3 o3 os3 r0 r1 r2 (r3.weak λa ha=>mR ha) (r4.mono m2)
     . have e:i=xs.length:=by lia
       subst e;rw[List.drop_length]at hA';unfold forL at hA';split at hA'
       case isFalse=>exact hA'.elim
       rename_i hh;exact .inl ⟨hJ.stop H' (rd hh),hA' σ' H' os' hR' nd' ((Bn.refl _ _).sub λa ha=>mR ha) (B7.refl _ _)⟩
noncomputable def OG(W:Wd)(r:List C->CR):Sp:=λvs H Q _=>∃cs os,Ab W H (cs.map some) (vs.map some) os/\os.Nodup/\match r cs with
 | .stuck=>False
 | .ok c outs=>∀v H' o oos,Bt W H' c v o->Ab W H' outs (vs.map some) oos->(o++oos).Nodup->Bn H H' os (o++oos)->Q v H'
theorem BN(h:Hd)(hs:List Hd)(c:C)(cs:List C):Cp (h::hs) (c::cs)=(if c.cp then[]else match h with| .slot i=>[i]| .fld i _=>[i]| .BG _=>[])++Cp hs cs:=by
 unfold Cp;rw[zip_cons_cons,filterMap_cons]
 by_cases hc:c.cp=true
 . simp[hc]
 . cases h<;>simp[hc]
theorem U7{h:Hd}{c:C}(hR:Ab W H ρ σ os)(hh:E8 W σ H ρ h v o)(e:h.cont ρ=some c)(hc:c.cp=true):Bt W H c v []:=by
 have hrd:=Ez hR hh e;cases c with
 |obj _ _=>cases hc
 | b x=>
   cases x with
   |lst _=>cases hc
   |AJ _=>cases hc
   |p x=>exact⟨hrd,rfl⟩
   |ro x=>exact⟨hrd,rfl⟩
theorem FA{l:List Nat}{i:Nat}(h:i∉l):∀{ρ:Env},A9 (l.foldl (λr i=>r.set i none) ρ) i=A9 ρ i:=by
 induction l with
 |nil=>intro ρ;rfl
 | cons j l ih=>
   intro ρ;rw[foldl_cons,ih (λz=>h (mC z))];unfold A9;rw[List.getElem?_set_ne];exact λz=>h (z▸mS)
theorem Ft{os0:List Addr}(hR0:Ab W H ρ0 σ os0):∀{hs:List Hd} {cs:List C} {vs:List V} {o:List Addr} {ρ:Env} {os:List Addr},Be W σ H ρ0 hs vs o->AB ρ0 hs=some cs->A8 hs cs=true->(Cp hs cs).Nodup->
 (∀j∈Cp hs cs,A9 ρ j=A9 ρ0 j)->Ab W H ρ σ os->∃oa or_,Ab W H (cs.map some) (vs.map some) oa/\Ab W H ((Cp hs cs).foldl (λr i=>r.set i none) ρ) σ or_/\(oa++or_).Perm (o++os)
 | [],cs,vs,o,ρ,os,h,e,_,_,_,hR=>by
   cases e;obtain⟨rfl,rfl⟩:=h;exact⟨[],os,⟨rfl,rfl⟩,hR,.refl _⟩
 | h ::hs,cs,vs,o,ρ,os,⟨v,r,o1,o2,e1,h1,h2,e2⟩,e,g,n,hcur,hR=>by
   unfold AB at e;obtain⟨c,ec,e⟩:=oB e;obtain⟨ds,ed,rfl⟩:=oM e;subst e1 e2;obtain⟨g1,g2⟩:=DA g;rw[BN]at n hcur ⊢;have n2:(Cp hs ds).Nodup:=(nA n).2.1;have hcur2:∀j∈Cp hs ds,A9 ρ j=A9 ρ0 j:=λj hj=>hcur j (mR hj)
   by_cases hc:c.cp=true
   . have rc:=U7 hR0 h1 ec hc;obtain⟨oa,or_,q1,q2,q3⟩:=Ft hR0 h2 ed g2 n2 hcur2 hR
     have ho1:o1=[]:=by
      cases h with
      |BG d=>cases ec;exact Bt.cp h1 hc
      |slot i=>exact h1.2
      |fld i f=>exact h1.1
     subst ho1;rw[iP hc];exact⟨oa,or_,⟨v,r.map some,[],oa,rfl,rc,q1,rfl⟩,q2,q3⟩
   . have hcf:c.cp=false:=by simpa using hc
     rw[iN hc]at n hcur ⊢;cases h with
     |fld i f=>exact absurd rfl (g1.resolve_left hc i f)
     | BG d=>
       cases ec;obtain⟨oa,or_,q1,q2,q3⟩:=Ft hR0 h2 ed g2 n2 hcur2 hR;refine⟨o1++oa,or_,⟨v,r.map some,o1,oa,rfl,h1,q1,rfl⟩,q2,?_⟩;rw[append_assoc,append_assoc];exact q3.append_left o1
     | slot i=>
       have ec:A9 ρ0 i=some c:=ec;have hi:A9 ρ i=some c:=(hcur i (mL mS)).trans ec;obtain⟨u,oi,osr,t1,t2,t3,t4⟩:=hR.take hi;rw[h1.1]at t1;cases t1;have hni:i∉Cp hs ds:=λz=>(nA n).2.2 i mS i z rfl
       obtain⟨oa,or_,q1,q2,q3⟩:=Ft hR0 h2 ed g2 n2 (λj hj=>by
        rw[<-hcur2 j hj];unfold A9;rw[List.getElem?_set_ne]
        exact λz=>hni (z▸hj)) t3
       have ho1:o1=[]:=h1.2;subst ho1;refine⟨oi++oa,or_,⟨v,r.map some,oi,oa,rfl,t2,q1,rfl⟩,q2,?_⟩;rw[append_assoc];refine(q3.append_left oi).trans ?_;refine List.Perm.trans ?_ (t4.append_left ([]++o2));rw[nil_append,<-append_assoc,<-append_assoc];exact perm_append_comm.append_right osr
theorem FK :∀{hs:List Hd} {cs:List C} {vs:List V} {outs:List (Option C)} {o0:List Addr} {H0:Hp} {ρ ρ':Env} {os oos:List Addr},Be W σ H0 ρ0 hs vs o0->back ρ hs cs outs=some ρ'->Ab W H outs (vs.map some) oos->Ab W H ρ σ os->(oos++os).Nodup->
 (Cp hs cs).Nodup->(∀j∈Cp hs cs,A9 ρ j=none/\j < ρ.length)->∃os',Ab W H ρ' σ os'/\os'.Nodup/\∀a∈os',a∈oos++os
 | [],cs,vs,outs,o0,H0,ρ,ρ',os,oos,h,e,ro,hR,n,_,_=>by
   cases cs with
   | nil=>
     unfold back at e;cases e;exact⟨os,hR,(nA n).2.1,λa ha=>mR ha⟩
   |cons c cs=>unfold back at e;cases e
 | h ::hs,cs,vs,outs,o0,H0,ρ,ρ',os,oos,⟨v,r,o1,o2,e1,h1,h2,e2⟩,e,ro,hR,n,nl,hem=>by
   subst e1;cases cs with
   |nil=>cases h<;>(unfold back at e;cases e)
   | cons c cs =>
     cases outs with
     |nil=>cases h<;>(unfold back at e;cases e)
     | cons out outs=>
       rw[BN]at nl hem;have nl2:=(nA nl).2.1;have hem2:∀j∈Cp hs cs,A9 ρ j=none/\j < ρ.length:=λj hj=>hem j (mR hj)
       obtain⟨of_,or_,hof,hrest,hoos⟩:∃of_ or_,(∀c',out=some c'->Bt W H c' v of_)/\Ab W H outs (r.map some) or_/\oos=of_++or_:=by
        cases out with
        | none=>
          obtain⟨x,r',z1,z2⟩:=ro;cases z1;exact⟨[],oos,(λ_ z=>by cases z),z2,rfl⟩
        | some c'=>
          obtain⟨v',r',o1',o2',z1,z2,z3,z4⟩:=ro;cases z1;exact⟨o1',o2',(λ_ z=>by cases z;exact z2),z3,z4⟩
       subst hoos
       have nr:(or_++os).Nodup:=by
        rw[append_assoc]at n;exact(nA n).2.1
       have skip:back ρ hs cs outs=some ρ'->∃os',Ab W H ρ' σ os'/\os'.Nodup/\∀a∈os',a∈(of_++or_)++os:=λe=>by
        obtain⟨os',q1,q2,q3⟩:=FK h2 e hrest hR nr nl2 hem2;refine⟨os',q1,q2,λa ha=>?_⟩;rcases mem_append.mp (q3 a ha)with z|z
        . exact mL (mR z)
        . exact mR z
       by_cases hc:c.cp=true
       . cases h with
         |BG d=>exact skip e
         |slot i=>unfold back at e;rw[iP hc]at e;exact skip e
         |fld i f=>unfold back at e;rw[iP hc]at e;exact skip e
       . cases h with
         |BG d=>exact skip e
         |fld i f=>unfold back at e;rw[iN hc]at e;cases e
         | slot i=>
           unfold back at e;rw[iN hc]at e nl hem;have hi:=hem i (mL mS);have hni:i∉Cp hs cs:=λz=>(nA nl).2.2 i mS i z rfl
           have hem3:∀(x:Option C),∀j∈Cp hs cs,A9 (ρ.set i x) j=none/\j < (ρ.set i x).length:=λx j hj=>by
            refine⟨?_,by rw[length_set];exact(hem2 j hj).2⟩;have ne:i≠j:=λz=>hni (by rw[z];exact hj)
            have:=(hem2 j hj).1;unfold A9 at this ⊢;rw[List.getElem?_set_ne ne];exact this
           cases out with
           | none=>
             obtain⟨os1,t1,od,t2⟩:=hR.drop i
             obtain⟨os',q1,q2,q3⟩:=FK h2 e hrest t1 (by
              have:=nr;rw[nodup_append]at this ⊢;have p2:=(nA (t2.nodup_iff.mpr this.2.1)).2.1
              exact⟨this.1,p2,λa ha b hb=>this.2.2 a ha b (t2.subset (mR hb))⟩) nl2 (hem3 none)
             refine⟨os',q1,q2,λa ha=>?_⟩;rcases mem_append.mp (q3 a ha)with z|z
             . exact mL (mR z)
             . exact mR (t2.subset (mR z))
           | some c'=>
             obtain⟨os1,t1,t2⟩:=Ab.fill (hof c' rfl) hR hi.1 hi.2;rw[set_same h1.1]at t1
             have p1:(or_++os1).Perm ((of_++or_)++os):=by
              refine(t2.append_left or_).trans ?_;rw[<-append_assoc];exact perm_append_comm.append_right os
             obtain⟨os',q1,q2,q3⟩:=FK h2 e hrest t1 (p1.nodup_iff.mpr n) nl2 (hem3 (some c'));exact⟨os',q1,q2,λa ha=>p1.subset (q3 a ha)⟩
theorem DB{l:List Nat}:∀{ρ:Env},(l.foldl (λr i=>r.set i none) ρ).length=ρ.length:=by
 induction l with
 |nil=>intro ρ;rfl
 |cons j l ih=>intro ρ;rw[foldl_cons,ih,length_set]
theorem Dc{l:List Nat}{i:Nat}(h:i∈l):∀{ρ:Env},A9 (l.foldl (λr i=>r.set i none) ρ) i=none:=by
 induction l with
 |nil=>cases h
 | cons j l ih=>
   intro ρ;rw[foldl_cons]
   by_cases hi:i∈l
   . exact ih hi
   . have:i=j:=(mK h).resolve_right hi;subst this;rw[FA hi];unfold A9;rw[List.getElem?_set_self'];cases ρ[i]?<;>rfl
theorem Jo{ρ:Env}:∀{hs:List Hd} {cs:List C},AB ρ hs=some cs->A8 hs cs=true->∀j∈Cp hs cs,j < ρ.length
 |[],cs,e,_,j,hj=>by cases e;cases hj
 | h ::hs,cs,e,g,j,hj=>by
   unfold AB at e;obtain⟨c,ec,e⟩:=oB e;obtain⟨ds,ed,rfl⟩:=oM e;obtain⟨g1,g2⟩:=DA g;rw[BN]at hj;rcases mem_append.mp hj with z|z
   . by_cases hc:c.cp=true
     . rw[iP hc]at z;cases z
     . rw[iN hc]at z;cases h with
       |BG d=>cases z
       |fld i f=>exact absurd rfl (g1.resolve_left hc i f)
       | slot i=>
         rw[mE z];exact Dq ec
   . exact Jo ed g2 j z
variable{vs:List V}
theorem TM{r:List C->CR}{hs:List Hd}{cs:List C}{os1:List Addr}{Q:VK}{E:XK}(h1:Be W σ H ρ1 hs vs o1)(h2:Ab W H ρ1 σ os1)(h3:(o1++os1).Nodup)(ec:AB ρ1 hs=some cs)(hg:(Cp hs cs).Nodup/\A8 hs cs=true)
 {outs:List (Option C)}(er:r cs= .ok c outs){ρ2:Env}(eb:back (lend ρ1 hs cs) hs cs outs=some ρ2)(hA:Ck W (rV W σ) H (o1++os1) σ (.ok c ρ2) Q):OG W r vs H Q E:=by
 obtain⟨oa,or_,q1,q2,q3⟩:=Ft h2 h1 ec hg.2 hg.1 (λ_ _=>rfl) h2;have q2:Ab W H (lend ρ1 hs cs) σ or_:=q2;have na:=q3.nodup_iff.mpr h3;have na':=nA na;refine⟨cs,oa,q1,na'.1,?_⟩;rw[er];intro v H' o oos r1 r2 r3 r4;have k1:Bm H H':=r4.but.keep q1.own;have q2':Ab W H' (lend ρ1 hs cs) σ or_:=q2.frame k1 r4.but λa ha z=>na'.2.2 a z a ha rfl
 have r3':=nA r3
 have ndo:∀a∈o++oos,a∉or_:=λa ha z=>by
  rcases r4.src a ha with y|y
  . exact na'.2.2 a y a z rfl
  . obtain⟨x,ex,_⟩:=q2.own a z;rw[y]at ex;cases ex
 obtain⟨os',t1,t2,t3⟩:=FK (ρ0:=ρ1) h1 eb r2 q2' (by
  rw[nodup_append]
  exact⟨r3'.2.1,na'.2.1,λa ha b hb z=>ndo a (mR ha) (z▸hb)⟩) hg.1 λj hj=>⟨Dc hj,by
   show j < ((Cp hs cs).foldl _ ρ1).length;rw[DB]
   exact Jo ec hg.2 j hj⟩
 have hA:∀v H' o os',rV W σ H' ρ2 c v o->Ab W H' ρ2 σ os'->(o++os').Nodup->Bn H H' (o1++os1) (o++os')->Q v H':=hA;refine hA v H' o os' r1 t1 ?_ ?_
 . rw[nodup_append];refine⟨r3'.1,t2,λa ha b hb z=>?_⟩;subst z;rcases mem_append.mp (t3 a hb)with y|y
   . exact r3'.2.2 a ha a y rfl
   . exact ndo a (mL ha) y
 . have f1:=(r4.more or_).perm (perm_append_comm.trans q3) (.refl _);refine f1.sub λa ha=>?_
   rcases mem_append.mp ha with z|z
   . exact mR (mL z)
   . rcases mem_append.mp (t3 a z)with y|y
     . exact mR (mR y)
     . exact mL y
theorem Nw{cf:CF}{f:Nat}{Q:VK}{E:XK}(h:tG W (rV W) (λρ=>(F ρ).bind λhs ρ=>B3 cf f hs ρ) σ H Q):tG W (Be W) F σ H λvs H1=>OG W (cf f) vs H1 Q E:=by
 obtain⟨ρ,os,hR,hn,hA⟩:=h;dsimp only at hA;refine⟨ρ,os,hR,hn,?_⟩;unfold Ck;cases eF:F ρ with
 |stuck=>rw[eF]at hA;exact hA
 | ok hs ρ1=>
   rw[eF,Res.A5]at hA;intro vs H1 o1 os1 h1 h2 h3 h4;have hA:=Ck.shift hA h4;unfold B3 at hA;cases ec:AB ρ1 hs with
   |none=>rw[ec]at hA;exact hA.elim
   | some cs=>
     rw[ec]at hA;dsimp only at hA;split at hA
     case isFalse=>exact hA.elim
     rename_i hg;cases ecf:cf f cs with
     |stuck=>rw[ecf]at hA;exact hA.elim
     | ok c outs=>
       rw[ecf]at hA;cases eb:back (lend ρ1 hs cs) hs cs outs with
       |none=>dsimp only at hA;rw[eb]at hA;exact hA.elim
       | some ρ2=>
         dsimp only at hA;rw[eb]at hA;exact TM h1 h2 h3 ec hg ecf eb hA
theorem C4.addr(h:C4 W H b (.ref a) o)(nb:C.cp (.b b)=false):o=[a]:=by
 cases b with
 |p x=>cases nb
 |ro x=>cases nb
 |lst ps=>obtain⟨a',vs,e,_,_,rfl⟩:=h;cases e;rfl
 |AJ kvs=>obtain⟨a',e,_,rfl⟩:=h;cases e;rfl
theorem E2{a:Addr}{l:List Addr}(h:a∈l):JX l H (upd H a x):=λb y e n=>by
 have ne:b≠a:=λz=>n (by rw[z];exact h)
 rw[Au ne];exact e
theorem BL.upd(k:Bm H (upd H a x'))(hb':C4 W (upd H a x') b' (.ref a) [a]):∀{fs:List (Str×B)} {vs:List (Str×V)} {o:List Addr} {b:B},BL W H fs vs o->o.Nodup->fs.lookup f=some b->C.cp (.b b)=false->vs.lookup f=some (.ref a)->BL W (L2.upd H a x') (Br f b' fs) vs o
 |[],_,_,_,_,_,e,_,_=>by simp at e
 | (g, c)::fs,_,_,b,⟨v,r,o1,o2,e1,h1,h2,e⟩,n,el,nb,ev=>by
   subst e1 e;rw[lookup_cons]at el ev;have n':=nA n;unfold Br;cases hg:f == g with
   | true=>
     rw[hg]at el ev;cases el;cases ev;have:g=f:=(eq_of_beq hg).symm;subst this;rw[iP rfl];have ho:=h1.addr nb;subst ho;exact⟨_,r,[a],o2,rfl,hb',h2.frame k (E2 (l:=[a]) mS) (λb hb z=>n'.2.2 a mS b hb (mE z).symm),rfl⟩
   | false=>
     rw[hg]at el ev;dsimp only at el ev;rw[iN (λz=>by rw[z]at hg;simp at hg)]
     have ha:a∈o2:=by
      obtain⟨u,o',q1,q2,q3⟩:=h2.look el;rw[ev]at q1;cases q1;have:=q2.addr nb;subst this;exact q3 a mS
     exact⟨v,r,o1,o2,rfl,h1.frame k (E2 (l:=[a]) mS) (λb hb z=>n'.2.2 b hb a ha (mE z)),BL.upd k hb' h2 n'.2.1 el nb ev,rfl⟩
theorem I0{ρ':Env}{h:Hd}(hR:Ab W H ρ σ os)(hn:os.Nodup)(hc:h.cont ρ=some (.b b))(hh:E8 W σ H ρ h (.ref a) o)(nb:C.cp (.b b)=false)
 (hb':C4 W (upd H a x') b' (.ref a) [a])(k:Bm H (upd H a x'))(es:setB ρ h b'=some ρ'):∃os',Ab W (upd H a x') ρ' σ os'/\os'.Perm os/\Bn H (upd H a x') os os':=by
 have fin:a∈os->∀os',os'.Perm os->Bn H (upd H a x') os os':=λha os' p=>⟨E2 ha,λc hc=>.inl (p.subset hc),λc y e=>by
  by_cases hca:c=a
  . subst hca;exact⟨_,AH⟩
  . exact⟨y,by rw[Au hca];exact e⟩⟩
 cases h with
 |BG c=>cases es
 | slot i=>
   cases es;have hc:A9 ρ i=some (.b b):=hc;obtain⟨v,oi,osr,t1,t2,t3,t4⟩:=hR.take hc;rw[hh.1]at t1;cases t1;have hoi:oi=[a]:=C4.addr t2 nb;subst hoi;have nd:=nA (t4.nodup_iff.mpr hn);have t3':=t3.frame k (E2 (x:=x') (l:=[a]) mS) λc hc z=>nd.2.2 a mS c hc (mE z).symm
   obtain⟨os2,u1,u2⟩:=Ab.fill (c:=.b b') (v:=.ref a) (o:=[a]) hb' t3' (C5 (Dq hc)) (by rw[length_set];exact Dq hc);rw[set_set,set_same hh.1]at u1;have p:=u2.trans t4;exact⟨os2,u1,p,fin (t4.subset (mL mS)) os2 p⟩
 | fld i f=>
   obtain⟨_,a0,C0,dx,fs0,e1,e2,e3⟩:=hh;have hc:BE ρ i f=some (.b b):=hc;unfold BE at hc;unfold setB at es;dsimp only at es;cases hg:A9 ρ i with
   |none=>rw[hg]at hc;cases hc
   | some d=>
     rw[hg]at hc es;cases d with
     |b y=>cases hc
     | obj kk fs=>
       have hl:fs.lookup f=some b:=by
        obtain⟨z,ez,e⟩:=oM hc;cases e;exact ez
       cases es;obtain⟨v,oi,osr,t1,t2,t3,t4⟩:=hR.take hg;rw[e1]at t1;cases t1;obtain⟨a',dx',vs,osf,z,q1,q2,q3,q4⟩:=t2;cases z;rw[e2]at q1;cases q1;subst q3;have nd:=nA (t4.nodup_iff.mpr hn);have nf:=nodup_cons.mp nd.1
       have haf:a∈osf:=by
        obtain⟨u,o',y1,y2,y3⟩:=q2.look hl;rw[e3]at y1;cases y1;have:=y2.addr nb;subst this;exact y3 a mS
       have ne:a0≠a:=λz=>nf.1 (z▸haf)
       have q2':=q2.upd k hb' nf.2 hl nb e3;have t3':=t3.frame k (E2 (x:=x') (l:=[a]) mS) λc hc z=>nd.2.2 a (mC haf) c hc (mE z).symm
       obtain⟨os2,u1,u2⟩:=Ab.fill (c:=.obj kk (Br f b' fs)) (v:=.ref a0) (o:=a0::osf) ⟨a0,dx,fs0,osf,rfl,by rw[Au ne];exact e2,q2',rfl,q4.put (q4.2 _ (PySem.mem_of_lookup hl))⟩ t3' (C5 (Dq hg)) (by rw[length_set];exact Dq hg);rw[set_set,set_same e1]at u1;have p:=u2.trans t4;exact⟨os2,u1,p,fin (t4.subset (mL (mC haf))) os2 p⟩
theorem Fv(h:H a=some (.lst vs)):Bm H (upd H a x'):=λb=>by
 by_cases hb:b=a
 . subst hb;refine⟨λxs z=>?_,λo u z=>?_⟩
   . rw[h]at z;cases z
   . rw[h]at z;cases z
 . rw[Au hb];exact⟨λ_ z=>z,λ_ _ z=>z⟩
def JW(W:Wd)(m:MO)(r:V->List V->Hp->VK->Prop):Prop:=∀(H:Hp) (a:Addr) (b b':B) (cs:List C) (c:C) (vs:List V) (Q:VK),C4 W H b (.ref a) [a]->C.cp (.b b)=false->Eb W H cs vs->CL m b cs=some (c,b')->
 (∀v x',C4 W (upd H a x') b' (.ref a) [a]->Bm H (upd H a x')->Bt W (upd H a x') c v []->Q v (upd H a x'))->r (.ref a) vs H Q
theorem MK(h:Eb W H [] vs):vs=[]:=h
theorem Cb{c:C}(h:Eb W H [c] vs):∃v,vs=[v]/\Eo W H c v:=by
 obtain⟨v,r,rfl,r1,r2⟩:=h;have r2:r=[]:=r2;subst r2;exact⟨v,rfl,r1⟩
theorem Gw{m:MO}{r:V->List V->Hp->VK->Prop}(h:∀(H:Hp) (a:Addr) (ps:List P) (xs:List V) (b':B) (cs:List C) (c:C) (vs:List V) (Q:VK),H a=some (.lst xs)->A7 W H ps xs->Eb W H cs vs->CL m (.lst ps) cs=some (c,b')->
 (∀v x',C4 W (upd H a x') b' (.ref a) [a]->Bm H (upd H a x')->Bt W (upd H a x') c v []->Q v (upd H a x'))->r (.ref a) vs H Q):JW W m r:=by
 intro H a b b' cs c vs Q hb nb hv e q;cases b with
 |p _=>cases nb
 |ro _=>cases nb
 |AJ _=>exact absurd e (by unfold CL;exact nofun)
 | lst ps=>
   obtain⟨a',xs,ea,h1,h2,_⟩:=hb;cases ea;exact h H a ps xs b' cs c vs Q h1 h2 hv e q
theorem LS:JW W .append MN:=Gw λH a ps xs b' cs c vs Q h1 h2 hv e q=>by
 have e:Bh ps cs=some (c,b'):=e;unfold Bh at e;split at e
 . rename_i x;split at e
   . rename_i hl;cases e;obtain⟨v,rfl,r1⟩:=Cb hv;have k:=Fv (x':=.lst (xs++[v])) h1;refine⟨a,xs,v,rfl,rfl,h1,by rw[h2.length];exact Nat.lt_of_lt_of_le hl C3,?_⟩;exact q .AG (.lst (xs++[v])) ⟨a,xs++[v],rfl,AH,A7.append (.cons (Av.mono k r1) .nil) (h2.mono k),rfl⟩ k ⟨Ak.mpr rfl,rfl⟩
   . cases e
 . cases e
theorem T7:JW W .pop XY:=Gw λH a ps xs b' cs c vs Q h1 h2 hv e q=>by
 have e:Jn ps cs=some (c,b'):=e;unfold Jn at e;split at e
 . have hv:=MK hv;subst hv;obtain⟨x,ex,e⟩:=oM e;cases e;have k:=Fv (x':=.lst xs.dropLast) h1;rw[List.getLast?_eq_getElem?]at ex;obtain⟨v,ev,rv⟩:=h2.get ex;refine⟨a,xs,v,rfl,rfl,h1,by rw[h2.length];exact ev,?_⟩
   have hd:A7 W H ps.dropLast xs.dropLast:=by
    rw[List.dropLast_eq_take,List.dropLast_eq_take,h2.length];exact h2.take _
   exact q v (.lst xs.dropLast) ⟨a,xs.dropLast,rfl,AH,hd.mono k,rfl⟩ k ⟨rv.mono k,rfl⟩
 . cases e
theorem KA:JW W .reverse Km:=Gw λH a ps xs b' cs c vs Q h1 h2 hv e q=>by
 have e:Fq ps cs=some (c,b'):=e;unfold Fq at e;split at e
 . have hv:=MK hv;subst hv;cases e;have k:=Fv (x':=.lst xs.reverse) h1;exact⟨a,xs,rfl,rfl,h1,q .AG (.lst xs.reverse) ⟨a,xs.reverse,rfl,AH,(h2.mono k).reverse,rfl⟩ k ⟨Ak.mpr rfl,rfl⟩⟩
 . cases e
end Iv
namespace Iv
open PySem L2 PyProof.Rows
section
variable{Pg:Program}{W:Wd}{H:Hp}
theorem Nm{ps qs:List P}:decide (P.tup ps=P.tup qs)=decide (ps=qs):=by
 by_cases h:ps=qs
 . subst h;simp
 . rw[dF h,dF (λz=>h (P.tup.inj z))]
theorem Vu:∀(p:P) {q:P} {v y:V} {u z:Value} {A:Around} {s:Shared},Av W H p v->Av W H q y->RelV v u->RelV y z->Dg Pg W.w H s.heap->W.K.In s.heap->AQ p q=true->A.units + p.depth + 1 < cLine->
 SeqAt.RcAt A s u z (decide (p=q))
 | p, q, v,y,u,z,A,s,hp,hq,r,r',Aj,Bq,hc,hu=>by
   cases p with
   |fn i=>unfold AQ at hc;cases hc
   | AG=>
     cases Ak.mp hp;cases r;cases q with
     |fn b=>unfold AQ Bz at hc;cases hc
     |AG=>cases Ak.mp hq;cases r';rw[decide_eq_true rfl];exact SeqAt.RcAt.none_none
     |bl b=>cases AA.mp hq;cases r';rw[dF nofun];exact SeqAt.RcAt.none_bool _
     |int b=>cases Ac.mp hq;obtain⟨t',rfl⟩:=r';rw[dF nofun];exact SeqAt.RcAt.none_int _ _
     |str b=>cases Ai.mp hq;obtain⟨t',rfl⟩:=r';rw[dF nofun];exact SeqAt.RcAt.none_str _ _
     | tup qs=>
       obtain⟨b,ws,rfl,s2,r2⟩:=Ap.mp hq;cases r';obtain⟨its,v1,p1⟩:=Az Aj Bq s2;rw[dF nofun];exact SeqAt.RcAt.none_tuple p1 (by lia)
   | bl i=>
     cases AA.mp hp;cases r;cases q with
     |fn b=>unfold AQ Bz at hc;cases hc
     |AG=>cases Ak.mp hq;cases r';rw[dF nofun];exact SeqAt.RcAt.bool_none _
     | bl b=>
       cases AA.mp hq;cases r'
       have:decide (P.bl i=P.bl b)=(i == b):=by
        by_cases h:i=b
        . subst h;simp
        . rw[dF (λz=>h (P.bl.inj z))];simp[h]
       rw[this];exact SeqAt.RcAt.bool_bool _ _
     |int b=>unfold AQ Bz at hc;cases hc
     |str b=>cases Ai.mp hq;obtain⟨t',rfl⟩:=r';rw[dF nofun];exact SeqAt.RcAt.bool_str _ _ _
     | tup qs=>
       obtain⟨b,ws,rfl,s2,r2⟩:=Ap.mp hq;cases r';obtain⟨its,v1,p1⟩:=Az Aj Bq s2;rw[dF nofun];exact SeqAt.RcAt.bool_tuple _ p1 (by lia)
   | int i=>
     cases Ac.mp hp;obtain⟨t,rfl⟩:=r;cases q with
     |fn b=>unfold AQ Bz at hc;cases hc
     |AG=>cases Ak.mp hq;cases r';rw[dF nofun];exact SeqAt.RcAt.int_none _ _
     |bl b=>unfold AQ Bz at hc;cases hc
     | int b=>
       cases Ac.mp hq;obtain⟨t',rfl⟩:=r'
       have:decide (P.int i=P.int b)=(i == b):=by
        by_cases h:i=b
        . subst h;simp
        . rw[dF (λz=>h (P.int.inj z))];simp[h]
       rw[this];exact SeqAt.RcAt.int_int _ _ _ _
     |str b=>cases Ai.mp hq;obtain⟨t',rfl⟩:=r';rw[dF nofun];exact SeqAt.RcAt.int_str _ _ _ _
     | tup qs=>
       obtain⟨b,ws,rfl,s2,r2⟩:=Ap.mp hq;cases r';obtain⟨its,v1,p1⟩:=Az Aj Bq s2;rw[dF nofun];exact SeqAt.RcAt.int_tuple _ _ p1 (by lia)
   | str i=>
     cases Ai.mp hp;obtain⟨t,rfl⟩:=r;cases q with
     |fn b=>unfold AQ Bz at hc;cases hc
     |AG=>cases Ak.mp hq;cases r';rw[dF nofun];exact SeqAt.RcAt.str_none _ _
     |bl b=>cases AA.mp hq;cases r';rw[dF nofun];exact SeqAt.RcAt.str_bool _ _ _
     |int b=>cases Ac.mp hq;obtain⟨t',rfl⟩:=r';rw[dF nofun];exact SeqAt.RcAt.str_int _ _ _ _
     | str b=>
       cases Ai.mp hq;obtain⟨t',rfl⟩:=r'
       have:decide (P.str i=P.str b)=(i == b):=by
        by_cases h:i=b
        . subst h;simp
        . rw[dF (λz=>h (P.str.inj z))];simp[h]
       rw[this];exact SeqAt.RcAt.str_str _ _ _ _
     | tup qs=>
       obtain⟨b,ws,rfl,s2,r2⟩:=Ap.mp hq;cases r';obtain⟨its,v1,p1⟩:=Az Aj Bq s2;rw[dF nofun];exact SeqAt.RcAt.str_tuple _ _ p1 (by lia)
   | tup ps=>
     obtain⟨a,vs,rfl,s1,r1⟩:=Ap.mp hp;cases r;obtain⟨its,v1,p1⟩:=Az Aj Bq s1;cases q with
     |fn b=>unfold AQ Bz at hc;cases hc
     |AG=>cases Ak.mp hq;cases r';rw[dF nofun];exact SeqAt.RcAt.tuple_none p1 (by lia)
     |bl b=>cases AA.mp hq;cases r';rw[dF nofun];exact SeqAt.RcAt.tuple_bool _ p1 (by lia)
     |int b=>cases Ac.mp hq;obtain⟨t',rfl⟩:=r';rw[dF nofun];exact SeqAt.RcAt.tuple_int _ _ p1 (by lia)
     |str b=>cases Ai.mp hq;obtain⟨t',rfl⟩:=r';rw[dF nofun];exact SeqAt.RcAt.tuple_str _ _ p1 (by lia)
     | tup qs=>
       obtain⟨b,ws,rfl,s2,r2⟩:=Ap.mp hq;cases r';have hcl:BK ps qs=true:=by unfold AQ at hc;exact hc
       have hdp:(P.tup ps).depth=P.Ao ps + 1:=by conv=>lhs;unfold P.depth
       obtain⟨its',v2,p2⟩:=Az Aj Bq s2;have hu1:A.in1.units=A.units + 1:=in1_units;obtain⟨e,he,hd⟩:=Hv ps (A:=A.in1) (s:=s) r1 r2 v1 v2 Aj Bq hcl (by lia);have rc:=SeqAt.RcAt.tuples (A:=A) (s:=s) (e:=e) p1 p2 (by lia) λj h1 h2=>he j _ _ (by simp at h1 ⊢) (by simp at h2 ⊢)
       rw[size_toArray,size_toArray,hd]at rc;rw[Nm];exact rc
theorem Vt:∀(p:P) {q:P} {v y:V} {u z:Value} {A:Around} {s:Shared},Av W H p v->Av W H q y->RelV v u->RelV y z->Dg Pg W.w H s.heap->W.K.In s.heap->AQ p q=true->A.units + p.depth + 1 < cLine->
 SeqAt.RcNeAt A s u z (!decide (p=q))
 | p, q, v,y,u,z,A,s,hp,hq,r,r',Aj,Bq,hc,hu=>by
   cases p with
   |fn i=>unfold AQ at hc;cases hc
   | AG=>
     cases Ak.mp hp;cases r;cases q with
     |fn b=>unfold AQ Bz at hc;cases hc
     |AG=>cases Ak.mp hq;cases r';rw[decide_eq_true rfl];exact SeqAt.RcNeAt.none_none
     |bl b=>cases AA.mp hq;cases r';rw[dF nofun];exact SeqAt.RcNeAt.none_bool _
     |int b=>cases Ac.mp hq;obtain⟨t',rfl⟩:=r';rw[dF nofun];exact SeqAt.RcNeAt.none_int _ _
     |str b=>cases Ai.mp hq;obtain⟨t',rfl⟩:=r';rw[dF nofun];exact SeqAt.RcNeAt.none_str _ _
     | tup qs=>
       obtain⟨b,ws,rfl,s2,r2⟩:=Ap.mp hq;cases r';obtain⟨its,v1,p1⟩:=Az Aj Bq s2;rw[dF nofun];exact SeqAt.RcNeAt.none_tuple p1 (by lia)
   | bl i=>
     cases AA.mp hp;cases r;cases q with
     |fn b=>unfold AQ Bz at hc;cases hc
     |AG=>cases Ak.mp hq;cases r';rw[dF nofun];exact SeqAt.RcNeAt.bool_none _
     | bl b=>
       cases AA.mp hq;cases r'
       have:decide (P.bl i=P.bl b)=(i == b):=by
        by_cases h:i=b
        . subst h;simp
        . rw[dF (λz=>h (P.bl.inj z))];simp[h]
       rw[this];exact SeqAt.RcNeAt.bool_bool _ _
     |int b=>unfold AQ Bz at hc;cases hc
     |str b=>cases Ai.mp hq;obtain⟨t',rfl⟩:=r';rw[dF nofun];exact SeqAt.RcNeAt.bool_str _ _ _
     | tup qs=>
       obtain⟨b,ws,rfl,s2,r2⟩:=Ap.mp hq;cases r';obtain⟨its,v1,p1⟩:=Az Aj Bq s2;rw[dF nofun];exact SeqAt.RcNeAt.bool_tuple _ p1 (by lia)
   | int i=>
     cases Ac.mp hp;obtain⟨t,rfl⟩:=r;cases q with
     |fn b=>unfold AQ Bz at hc;cases hc
     |AG=>cases Ak.mp hq;cases r';rw[dF nofun];exact SeqAt.RcNeAt.int_none _ _
     |bl b=>unfold AQ Bz at hc;cases hc
     | int b=>
       cases Ac.mp hq;obtain⟨t',rfl⟩:=r'
       have:decide (P.int i=P.int b)=(i == b):=by
        by_cases h:i=b
        . subst h;simp
        . rw[dF (λz=>h (P.int.inj z))];simp[h]
       rw[this];exact SeqAt.RcNeAt.int_int _ _ _ _
     |str b=>cases Ai.mp hq;obtain⟨t',rfl⟩:=r';rw[dF nofun];exact SeqAt.RcNeAt.int_str _ _ _ _
     | tup qs=>
       obtain⟨b,ws,rfl,s2,r2⟩:=Ap.mp hq;cases r';obtain⟨its,v1,p1⟩:=Az Aj Bq s2;rw[dF nofun];exact SeqAt.RcNeAt.int_tuple _ _ p1 (by lia)
   | str i=>
     cases Ai.mp hp;obtain⟨t,rfl⟩:=r;cases q with
     |fn b=>unfold AQ Bz at hc;cases hc
     |AG=>cases Ak.mp hq;cases r';rw[dF nofun];exact SeqAt.RcNeAt.str_none _ _
     |bl b=>cases AA.mp hq;cases r';rw[dF nofun];exact SeqAt.RcNeAt.str_bool _ _ _
     |int b=>cases Ac.mp hq;obtain⟨t',rfl⟩:=r';rw[dF nofun];exact SeqAt.RcNeAt.str_int _ _ _ _
     | str b=>
       cases Ai.mp hq;obtain⟨t',rfl⟩:=r'
       have:decide (P.str i=P.str b)=(i == b):=by
        by_cases h:i=b
        . subst h;simp
        . rw[dF (λz=>h (P.str.inj z))];simp[h]
       rw[this];exact SeqAt.RcNeAt.str_str _ _ _ _
     | tup qs=>
       obtain⟨b,ws,rfl,s2,r2⟩:=Ap.mp hq;cases r';obtain⟨its,v1,p1⟩:=Az Aj Bq s2;rw[dF nofun];exact SeqAt.RcNeAt.str_tuple _ _ p1 (by lia)
   | tup ps=>
     obtain⟨a,vs,rfl,s1,r1⟩:=Ap.mp hp;cases r;obtain⟨its,v1,p1⟩:=Az Aj Bq s1;cases q with
     |fn b=>unfold AQ Bz at hc;cases hc
     |AG=>cases Ak.mp hq;cases r';rw[dF nofun];exact SeqAt.RcNeAt.tuple_none p1 (by lia)
     |bl b=>cases AA.mp hq;cases r';rw[dF nofun];exact SeqAt.RcNeAt.tuple_bool _ p1 (by lia)
     |int b=>cases Ac.mp hq;obtain⟨t',rfl⟩:=r';rw[dF nofun];exact SeqAt.RcNeAt.tuple_int _ _ p1 (by lia)
     |str b=>cases Ai.mp hq;obtain⟨t',rfl⟩:=r';rw[dF nofun];exact SeqAt.RcNeAt.tuple_str _ _ p1 (by lia)
     | tup qs=>
       obtain⟨b,ws,rfl,s2,r2⟩:=Ap.mp hq;cases r';have hcl:BK ps qs=true:=by unfold AQ at hc;exact hc
       have hdp:(P.tup ps).depth=P.Ao ps + 1:=by conv=>lhs;unfold P.depth
       obtain⟨its',v2,p2⟩:=Az Aj Bq s2;have hu1:A.in1.units=A.units + 1:=in1_units;obtain⟨e,he,hd⟩:=Hv ps (A:=A.in1) (s:=s) r1 r2 v1 v2 Aj Bq hcl (by lia);have rc:=SeqAt.RcNeAt.tuples (A:=A) (s:=s) (e:=e) p1 p2 (by lia) λj h1 h2=>he j _ _ (by simp at h1 ⊢) (by simp at h2 ⊢)
       rw[size_toArray,size_toArray,hd]at rc;rw[Nm];exact rc
end
variable{X:Cx}{W:Wd}
theorem BP{c:C}(h:EI o a b=some c):∃x,AK o a b=some x/\c= .p (.bl x):=by
 obtain⟨x,h1,h2⟩:=oM h;exact⟨x,h1,h2.symm⟩
variable{H:Hp}
theorem F3.bl{b:Bool}{Q:VK}(q:F3 W H (.p (.bl b)) Q):Q (.bl b) H:=q.plain (AA.mpr rfl)
theorem R6{a b:P}{x:Bool}(h:GC a b=some x):AQ a b=true/\a.depth<=60/\b.depth<=60/\x=decide (a=b):=by
 unfold GC at h;split at h
 . rename_i hc;rw[bA,bA]at hc;exact⟨hc.1.1,of_decide_eq_true hc.1.2,of_decide_eq_true hc.2,(Option.some.inj h).symm⟩
 . cases h
theorem Om{x:Bool}(h:JF a b=some x):BK a b=true/\P.Ao a<=60/\P.Ao b<=60/\x=decide (a=b):=by
 unfold JF at h;split at h
 . rename_i hc;rw[bA,bA]at hc;exact⟨hc.1.1,of_decide_eq_true hc.1.2,of_decide_eq_true hc.2,(Option.some.inj h).symm⟩
 . cases h
variable{xs:List V}{pins:List (Addr×Obj)}{s:Shared}
theorem Ql{ps qs:List P}{ys:List V}{σ:L2.St}(hK:W.K=X.K)(hw:W.w=X.w)(hu:X.A.units + 200 < cLine)(I:Inv X pins σ H s)(ha:Dt W.K H a xs)(hb:Dt W.K H b ys)(h1:A7 W H ps xs)(h2:A7 W H qs ys)
 (hc:BK ps qs=true)(hd:P.Ao ps<=60):SeqAt.RcAt X.A s (.ref a) (.ref b) (decide (ps=qs))/\SeqAt.RcNeAt X.A s (.ref a) (.ref b) (!decide (ps=qs)):=by
 rw[hK]at ha hb;obtain⟨its1,r1,p1,z1⟩:=I.list ha;obtain⟨its2,r2,p2,z2⟩:=I.list hb;have l1:=r1.length;have l2:=r2.length;have hu1:X.A.in1.units=X.A.units + 1:=in1_units;obtain⟨e,he,hd⟩:=Hv (Pg:=X.prog) ps (A:=X.A.in1) (s:=s) h1 h2 r1 r2 (hw▸I.Aj) (hK▸I.EG) hc (by lia)
 by_cases hl:its1.length=its2.length
 . have e1:((List.range its1.toArray.size).all e)=decide (ps=qs):=by
    rw[<-hd,size_toArray,<-hl];simp
   have hj:∀j (h1:j < its1.toArray.size) (h2:j < its2.toArray.size),SeqAt.EqAt X.A.in1 s its1.toArray[j] its2.toArray[j] (e j):=λj h1 h2=>he j _ _ (by simp at h1 ⊢) (by simp at h2 ⊢)
   have q1:=SeqAt.RcAt.lists (e:=e) p1.isList p2.isList (by rw[size_toArray,size_toArray];exact hl) (by lia) hj;have q2:=SeqAt.RcNeAt.lists (e:=e) p1.isList p2.isList (by rw[size_toArray,size_toArray];exact hl) (by lia) hj;rw[e1]at q1 q2;exact⟨q1,q2⟩
 . have e1:decide (ps=qs)=false:=by
    rw[<-hd];simp[hl]
   rw[e1]
   have hne:(its1.toArray.size != its2.toArray.size)=true:=by
    rw[size_toArray,size_toArray];simpa using hl
   exact⟨SeqAt.RcAt.lists_lengths p1.isList p2.isList hne (by lia),SeqAt.RcNeAt.lists_lengths p1.isList p2.isList hne (by lia)⟩
theorem U1{σ:L2.St}(I:Inv X pins σ H s)(hd:Dj W H a [])(p:Program)(w:World):s.heap.DictOf (Gy p w) a []:=by
 obtain⟨es,hH,hp⟩:=hd.ex;cases hp;obtain⟨⟨o,h1,h2,h3⟩,_⟩:=(show C8 X.prog X.w H s.heap a (DX a [])from I.Aj a _ hH);exact⟨o,#[],0,h1,h2,h3,λe he=>(by simp at he),.nil,.nil⟩
theorem Q9(hK:W.K=X.K)(hw:W.w=X.w)(hu:X.A.units + 200 < cLine):Du X (compareOp .Eq) (D5 W (EI .eq))/\Du X (compareOp .NotEq) (D5 W (EI .ne)):=by
 have key:∀{pins s σ H x y v u} {c1 c2:C} {t:Bool} {Q:VK},Inv X pins σ H s->RelV x v->RelV y u->Eo W H c1 x->Eo W H c2 y->E7 c1 c2=some t->SeqAt.RcAt X.A s v u t/\SeqAt.RcNeAt X.A s v u (!t):=by
  intro pins s σ H x y v u c1 c2 t Q I rx ry h1 h2 e;unfold E7 at e;split at e
  . rename_i a b;obtain⟨e1,e2,e3,rfl⟩:=R6 e;exact⟨Vu (Pg:=X.prog) a (NV h1) (NV h2) rx ry (hw▸I.Aj) (hK▸I.EG) e1 (by lia),Vt (Pg:=X.prog) a (NV h1) (NV h2) rx ry (hw▸I.Aj) (hK▸I.EG) e1 (by lia)⟩
  . rename_i a b;obtain⟨e1,e2,e3,rfl⟩:=Om e;obtain⟨a1,xs,rfl,k1,k2⟩:=h1;obtain⟨b1,ys,rfl,k3,k4⟩:=h2;cases rx;cases ry;exact Ql hK hw hu I (Dt.of k1) (Dt.of k3) k2 k4 e1 e2
  . cases e;obtain⟨a,rfl,d1⟩:=h1;obtain⟨b,rfl,d2⟩:=h2;cases rx;cases ry;exact⟨λp w _ _ h=>keq_eq (r:=true) d1.sm d2.sm (U1 I d1 p w) (U1 I d2 p w) (by lia) (λ_=>.nil) h,λp w _ _ h=>keq_ne (r:=true) d1.sm d2.sm (U1 I d1 p w) (U1 I d2 p w) (by lia) (λ_=>.nil) h⟩
  . cases e
 constructor
 . rintro pins s σ H x y v u Q I rx ry ⟨c1,c2,c,h1,h2,e,q⟩
   obtain⟨t,et,rfl⟩:=BP e;have et:E7 c1 c2=some t:=et;exact(key (Q:=Q) I rx ry h1 h2 et).1 X.prog X.w _ _ ⟨.bl t,H,I,rfl,q.bl⟩
 . rintro pins s σ H x y v u Q I rx ry ⟨c1,c2,c,h1,h2,e,q⟩
   obtain⟨t,et,rfl⟩:=BP e;obtain⟨t',et',rfl⟩:=oM (show(E7 c1 c2).map (!·)=some t from et);exact(key (Q:=Q) I rx ry h1 h2 et').2 X.prog X.w _ _ ⟨.bl (!t'),H,I,rfl,q.bl⟩
theorem aH:Du X (compareOp .Lt) (D5 W (EI .lt)):=by
 rintro pins s σ H x y v u Q I rx ry ⟨c1,c2,c,h1,h2,e,q⟩
 obtain⟨t,et,rfl⟩:=BP e;unfold AK at et;dsimp only at et;split at et
 . rename_i a b;unfold KH at et;split at et
   . rename_i i j;cases et;cases B8 h1;cases B8 h2;exact Yi pins s σ H _ _ v u Q I rx ry ⟨i,j,rfl,rfl,q.bl⟩
   . cases et
 . cases et
theorem aJ:Du X (compareOp .Gt) (D5 W (EI .gt)):=by
 rintro pins s σ H x y v u Q I rx ry ⟨c1,c2,c,h1,h2,e,q⟩
 obtain⟨t,et,rfl⟩:=BP e;unfold AK at et;dsimp only at et;split at et
 . rename_i a b;unfold KH at et;split at et
   . rename_i i j;cases et;cases B8 h1;cases B8 h2;exact Yj pins s σ H _ _ v u Q I rx ry ⟨_,_,rfl,rfl,q.bl⟩
   . cases et
 . cases et
theorem Yq{op:CmpOp}(h:∀a b,AK o a b=none):Du X (compareOp op) (D5 W (EI o)):=by
 rintro pins s σ H x y v u Q I rx ry ⟨c1,c2,c,h1,h2,e,q⟩
 obtain⟨t,et,rfl⟩:=BP e;rw[h]at et;cases et
theorem GL(h:Eo W H c x):decide (c= .p .AG)=decide (x= .AG):=by
 by_cases hx:x= .AG
 . subst hx
   have:c= .p .AG:=by
    cases c with
    |obj _ _=>obtain⟨_,_,_,z,_⟩:=h;cases z
    | b b=>
      cases b with
      |lst _=>obtain⟨_,_,z,_⟩:=h;cases z
      |ro _=>obtain⟨_,_,z,_⟩:=h;cases z
      |AJ _=>obtain⟨_,z,_⟩:=h;cases z
      | p p=>
        cases p with
        |AG=>rfl
        |bl _=>cases Pp h
        |int _=>cases B8 h
        |str _=>cases ET h
        |fn _=>cases Fg.mp (NV h)
        |tup _=>obtain⟨_,_,z,_⟩:=CB h;cases z
   rw[this];simp
 . have:c≠.p .AG:=λz=>by subst z;exact hx (J6 h)
   simp[hx,this]
theorem aI:Du X (compareOp .Is) (D5 W (EI .is)):=by
 rintro pins s σ H x y v u Q I rx ry ⟨c1,c2,c,h1,h2,e,q⟩
 obtain⟨t,et,rfl⟩:=BP e;unfold AK at et;dsimp only at et;split at et
 . cases et;cases J6 h2;refine W0 pins s σ H _ _ v u Q I rx ry ⟨rfl,?_⟩;have:=q.bl;rw[GL h1]at this;exact this
 . cases et
theorem Yt:Du X (compareOp .IsNot) (D5 W (EI .YE)):=by
 rintro pins s σ H x y v u Q I rx ry ⟨c1,c2,c,h1,h2,e,q⟩
 obtain⟨t,et,rfl⟩:=BP e;unfold AK at et;dsimp only at et;split at et
 . cases et;cases J6 h2;refine SX pins s σ H _ _ v u Q I rx ry ⟨rfl,?_⟩;have:=q.bl;rw[GL h1]at this;exact this
 . cases et
theorem Yu(hK:W.K=X.K)(hw:W.w=X.w)(hu:X.A.units + 200 < cLine):Du X (compareOp .In) (D5 W (EI .Og))/\Du X (compareOp .NotIn) (D5 W (EI .Yy)):=by
 have key:∀{pins s σ H x y v u} {p:P} {c2:C} {t:Bool} {Q:VK} {neg:Bool},Inv X pins σ H s->RelV x v->RelV y u->Av W H p x->Eo W H c2 y->memC p c2=some t->Q (.bl (if neg then !t else t)) H->wpAny (model X.prog X.w) X.A (compareOp (if neg then .NotIn else .In) v u) (EP X pins σ Q) X.xe s:=by
  intro pins s σ H x y v u p c2 t Q neg I rx ry h1 h2 e q;have Aj:Dg X.prog W.w H s.heap:=hw▸I.Aj;have Bq:W.K.In s.heap:=hK▸I.EG;cases c2 with
  |obj _ _=>cases e
  | b b =>
    cases b with
    | AJ kvs=>
      obtain⟨a,ey,hd⟩:=h2;subst ey;cases ry;have e:(if keyOk p=true then some (Af kvs p).isSome else none)=some t:=e;split at e
      case isFalse=>cases e
      rename_i hk;cases e;cases neg with
      | false=>
        show wpAny _ _ (contains (.ref a) v >>= _) _ _ s;exact wB (Gh hK hw hu I hd hk h1 rx λs3 I3=>wP ⟨.bl (Af kvs p).isSome,H,I3,rfl,q⟩)
      | true=>
        show wpAny _ _ (contains (.ref a) v >>= _) _ _ s;exact wB (Gh hK hw hu I hd hk h1 rx λs3 I3=>wP ⟨.bl (!(Af kvs p).isSome),H,I3,rfl,q⟩)
    |_=>cases e
 constructor
 . rintro pins s σ H x y v u Q I rx ry ⟨c1,c2,c,h1,h2,e,q⟩
   obtain⟨t,et,rfl⟩:=BP e;unfold AK at et;dsimp only at et;split at et
   . exact key (neg:=false) I rx ry (NV h1) h2 et q.bl
   . cases et
 . rintro pins s σ H x y v u Q I rx ry ⟨c1,c2,c,h1,h2,e,q⟩
   obtain⟨t,et,rfl⟩:=BP e;unfold AK at et;dsimp only at et;split at et
   . obtain⟨t',et',rfl⟩:=oM et;exact key (neg:=true) I rx ry (NV h1) h2 et' q.bl
   . cases et
theorem CV{g:C->Option C}{Q:VK}(h:B5 W (Gv g) xs H Q):∃x c r,xs=[x]/\Eo W H c x/\g c=some r/\F3 W H r Q:=by
 obtain⟨cs,r,h1,h2,h3⟩:=h;unfold Gv at h2;split at h2
 . obtain⟨x,rfl,hx⟩:=Cb h1;exact⟨x,_,r,rfl,hx,h2,h3⟩
 . cases h2
theorem Sj{g:C->C->Option C}{Q:VK}(h:B5 W (Lk g) xs H Q):∃x y a b r,xs=[x,y]/\Eo W H a x/\Eo W H b y/\g a b=some r/\F3 W H r Q:=by
 obtain⟨cs,r,h1,h2,h3⟩:=h;unfold Lk at h2;split at h2
 . obtain⟨x,t,rfl,hx,ht⟩:=h1;obtain⟨y,rfl,hy⟩:=Cb ht;exact⟨x,y,_,_,r,rfl,hx,hy,h2,h3⟩
 . cases h2
theorem Cn{c:C}{ps:List P}(h:Eo W H c x)(e:c.nf= .lst ps):∃a vs,x= .ref a/\Dt W.K H a vs/\A7 W H ps vs:=by
 cases c with
 |obj _ _=>cases e
 | b b=>
   cases b with
   |p _=>cases e
   |AJ _=>cases e
   |lst _=>cases e;obtain⟨a,vs,e1,e2,e3⟩:=h;exact⟨a,vs,e1,Dt.of e2,e3⟩
   |ro _=>cases e;obtain⟨a,vs,e1,e2,e3⟩:=h;exact⟨a,vs,e1,e2.sq,e3⟩
theorem LQ{c:C}(e:c.nf= .p p):c= .p p:=by
 cases c with
 |obj _ _=>cases e
 |b b=>cases b<;>cases e<;>rfl
theorem Jj{c:C}{kvs:List (P×P)}(e:c.nf= .AJ kvs):c= .AJ kvs:=by
 cases c with
 |obj _ _=>cases e
 |b b=>cases b<;>cases e<;>rfl
theorem Kk{ps:List P}(h:Eo W H c x)(e:E5 c=some ps):∃a vs,x= .ref a/\(Dt W.K H a vs\/En W.K H a vs)/\A7 W H ps vs:=by
 unfold E5 at e;split at e
 . rename_i hc;cases e;obtain⟨a,vs,e1,e2,e3⟩:=Cn h hc;exact⟨a,vs,e1,.inl e2,e3⟩
 . rename_i hc;cases e;rw[LQ hc]at h;obtain⟨a,vs,e1,e2,e3⟩:=CB h;exact⟨a,vs,e1,.inr e2,e3⟩
 . cases e
theorem Wo(hK:W.K=X.K)(hw:W.w=X.w)(hu:X.A.units + 200 < cLine):Rw X (D5 W λc i=>match c with| .AJ kvs=>AN (.AJ kvs) i|_=>none):=by
 rintro value slice pins s σ H x y v u Q I rx ry ⟨c1,c2,c,h1,h2,e,q⟩ hs
 dsimp only at e;split at e
 . rename_i kvs;unfold AN at e;dsimp only[C.nf]at e;cases c2 with
   |obj _ _=>cases e
   | b b =>
     cases b with
     |lst _=>cases e
     |AJ _=>cases e
     |ro _=>cases e
     | p k=>
       dsimp only at e;split at e
       case isFalse=>cases e
       rename_i hk;obtain⟨p,hp,rfl⟩:=oM e;obtain⟨a,rfl,hd⟩:=h1;cases rx;have ty:=Ds hw I.Aj hd;unfold subscriptTail;refine wB ?_;rw[getitemInPython_of_ne ty.not_modules];refine wB (wpAny_specialOf ty PySem.F.slot_dict_getitem.lookup ?_)
       have fin:wpAny (model X.prog X.w) X.A (subscripted slice false (.ref a) u) (λr s₃=>wpAny (model X.prog X.w) X.A (letTemporaryGo value (.ref a) r >>= λ_=>pure r) (EP X pins σ Q) X.xe s₃) X.xe s:=by
        rw[hs];refine wpAny_operating (Ml hK hw hu I hd hk (NV h2) hp ry λw' y' s3 I3 rw' hy'=>?_);exact wB (wpAny_letTemporaryGo (wP ⟨y',H,I3,rw',q.plain hy'⟩))
       exact wP (wB fin)
 . cases e
theorem GD(n d:Nat)(o:Option Int):Mm n d o=HT.C9 n d o:=rfl
variable{vs:List V}
theorem Np{ps:List P}(h:A7 W H ps vs)(lo hi:Option Int):A7 W H (cut ps lo hi) (L7 vs lo hi):=by
 unfold cut L7;rw[GD,GD,h.length];exact(h.drop _).take _
def ag(W:Wd):V->Option Int->Option Int->Hp->VK->Prop:=λx lo hi H Q=>∃c r,Eo W H c x/\Dw c lo hi=some r/\F3 W H r Q
theorem UI(hK:W.K=X.K):Xt X (ag W):=by
 intro pins s σ H x v vl vu lo hi sl Q I rx hs pl pu h;obtain⟨c,r,h1,e,q⟩:=h;unfold Dw at e;split at e
 . rename_i ps hc;cases e;obtain⟨a,vs,rfl,k1,k2⟩:=Cn h1 hc;exact S6 pins s σ H _ v vl vu lo hi sl Q I rx hs pl pu ⟨a,vs,rfl,hK▸k1,q.list (Np k2 lo hi)⟩
 . rename_i ps hc;cases e;rw[LQ hc]at h1;obtain⟨a,vs,rfl,k1,k2⟩:=CB h1
   by_cases hw:HT.C9 vs.length 0 lo=0/\HT.C9 vs.length vs.length hi=vs.length
   . refine S5 pins s σ H _ v vl vu lo hi sl Q I rx hs pl pu ⟨a,vs,rfl,hK▸k1,hw,?_⟩
     have e:cut ps lo hi=ps:=by
      unfold cut;rw[GD,GD,<-k2.length,hw.1,hw.2];simp[k2.length]
     rw[e]at q;exact q.plain (Ap.mpr ⟨a,vs,rfl,k1,k2⟩)
   . exact Vm pins s σ H _ v vl vu lo hi sl Q I rx hs pl pu ⟨a,vs,rfl,hK▸k1,hw,q.tup (Np k2 lo hi)⟩
 . rename_i z hc;rw[LQ hc]at h1;cases ET h1;obtain⟨y,ey,rfl⟩:=oM e;have hlen:z.cps.toList.length=z.length:=by show z.cps.toList.length=z.cps.size;simp
   unfold IY at ey;split at ey
   . rename_i j;split at ey
     case isFalse=>cases ey
     rename_i hj;cases ey;refine Pd pins s σ H _ v vl vu none (some j) sl Q I rx hs pl pu ⟨z,rfl,Nat.le_trans hj.2.2 C3,?_⟩;rw[Kd.Pc hj.1 hj.2.1];exact q.plain (Ai.mpr rfl)
   . rename_i i;split at ey
     case isFalse=>cases ey
     rename_i hj;cases ey;refine Pd pins s σ H _ v vl vu (some i) none sl Q I rx hs pl pu ⟨z,rfl,Nat.le_trans hj.2.2 C3,?_⟩;rw[Kd.Ly hj.1 hj.2.1]
     have e:(z.cps.toList.drop i.toNat).take ((z.length:Int) - i).toNat=z.cps.toList.drop i.toNat:=by
      rw[List.take_of_length_le];rw[length_drop,hlen]
      lia
     rw[e];exact q.plain (Ai.mpr rfl)
   . cases ey
 . cases e
theorem Z4(hK:W.K=X.K)(hd:B4 X (.builtin "len") (B5 W (Gv λc=>match c with| .AJ kvs=>DJ (.AJ kvs)|_=>none))):B4 X (.builtin "len") (B5 W (Gv DJ)):=by
 intro pins s σ H xs us Q I r h;obtain⟨x,c,r',rfl,h1,e,q⟩:=CV h;have e0:=e;unfold DJ at e;split at e
 . rename_i ps hc;cases e;obtain⟨a,vs,rfl,k1,k2⟩:=Cn h1 hc;refine HK pins s σ H _ us Q I r ⟨_,_,rfl,.inl ⟨vs,hK▸k1,rfl⟩,?_⟩;rw[k2.length];exact q.plain (Ac.mpr rfl)
 . rename_i kvs hc;rw[Jj hc]at h1 e0;exact hd pins s σ H _ us Q I r ⟨[.AJ kvs],r',⟨x,[],rfl,h1,rfl⟩,e0,q⟩
 . rename_i ps hc;cases e;rw[LQ hc]at h1;obtain⟨a,vs,rfl,k1,k2⟩:=CB h1;refine HK pins s σ H _ us Q I r ⟨_,_,rfl,.inr ⟨vs,hK▸k1,rfl⟩,?_⟩;rw[k2.length];exact q.plain (Ac.mpr rfl)
 . rename_i z hc;split at e
   case isFalse=>cases e
   rename_i hl;cases e;rw[LQ hc]at h1;cases ET h1;exact HK pins s σ H _ us Q I r ⟨_,_,rfl,⟨Nat.le_trans hl C3,rfl⟩,q.plain (Ac.mpr rfl)⟩
 . cases e
theorem Rl(hK:W.K=X.K):B4 X (.type "list") (B5 W (Gv λc=>(E5 c).map .lst)):=by
 intro pins s σ H xs us Q I r h;obtain⟨x,c,r',rfl,h1,e,q⟩:=CV h;obtain⟨ps,ep,rfl⟩:=oM e;obtain⟨a,vs,rfl,k1,k2⟩:=Kk h1 ep;exact JO pins s σ H _ us Q I r ⟨a,vs,rfl,hK▸k1,q.list k2⟩
theorem Ue(hK:W.K=X.K):B4 X (.type "tuple") (B5 W (Gv λc=>(E5 c).map λx=>.p (.tup x))):=by
 intro pins s σ H xs us Q I r h;obtain⟨x,c,r',rfl,h1,e,q⟩:=CV h;obtain⟨ps,ep,rfl⟩:=oM e;obtain⟨a,vs,rfl,k1,k2⟩:=Kk h1 ep;rcases k1 with k1|k1
 . exact EN pins s σ H _ us Q I r ⟨a,vs,rfl,.inl ⟨hK▸k1,q.tup k2⟩⟩
 . exact EN pins s σ H _ us Q I r ⟨a,vs,rfl,.inr ⟨hK▸k1,q.plain (Ap.mpr ⟨a,vs,rfl,k1,k2⟩)⟩⟩
theorem ints_rep:∀{ps:List P} {vs:List V} {ns:List Int},A7 W H ps vs->Fy ps=some ns->vs=ns.map V.int
 |[],vs,ns,h,e=>by unfold A7 at h;cases e;exact h
 | .int i::ps,vs,ns,h,e=>by
   unfold Fy at e;obtain⟨ms,em,rfl⟩:=oM e;unfold A7 at h;obtain⟨v,r,rfl,h1,h2⟩:=h;cases Ac.mp h1;rw[ints_rep h2 em];rfl
 | .AG::_,_,_,_,e=>by cases e
 | .bl _::_,_,_,_,e=>by cases e
 | .str _::_,_,_,_,e=>by cases e
 | .tup _::_,_,_,_,e=>by cases e
 | .fn _::_,_,_,_,e=>by cases e
theorem IF:∀{ps:List P} {vs:List V} {ns:List Bool},A7 W H ps vs->JQ ps=some ns->vs=ns.map V.bl
 |[],vs,ns,h,e=>by unfold A7 at h;cases e;exact h
 | .bl i::ps,vs,ns,h,e=>by
   unfold JQ at e;obtain⟨ms,em,rfl⟩:=oM e;unfold A7 at h;obtain⟨v,r,rfl,h1,h2⟩:=h;cases AA.mp h1;rw[IF h2 em];rfl
 | .AG::_,_,_,_,e=>by cases e
 | .int _::_,_,_,_,e=>by cases e
 | .str _::_,_,_,_,e=>by cases e
 | .tup _::_,_,_,_,e=>by cases e
 | .fn _::_,_,_,_,e=>by cases e
theorem Z0(hK:W.K=X.K)(hc:X.calm=true):B4 X (.builtin "sum") (B5 W (Gv RQ)):=by
 intro pins s σ H xs us Q I r h;obtain⟨x,c,r',rfl,h1,e,q⟩:=CV h;unfold RQ Qi at e;split at e
 . rename_i ps hc';obtain⟨ns,en,rfl⟩:=oM e;obtain⟨a,vs,rfl,k1,k2⟩:=Cn h1 hc';rw[ints_rep k2 en]at k1;exact JN hc pins s σ H _ us Q I r ⟨a,ns,rfl,hK▸k1,q.plain (Ac.mpr rfl)⟩
 . cases e
theorem Z9(hK:W.K=X.K)(hc:X.calm=true):B4 X (.builtin "all") (B5 W (Gv X9)):=by
 intro pins s σ H xs us Q I r h;obtain⟨x,c,r',rfl,h1,e,q⟩:=CV h;unfold X9 Qi at e;split at e
 . rename_i ps hc';obtain⟨ns,en,rfl⟩:=oM e;obtain⟨a,vs,rfl,k1,k2⟩:=Cn h1 hc';rw[IF k2 en]at k1;exact Ld hc pins s σ H _ us Q I r ⟨a,ns,rfl,hK▸k1,q.bl⟩
 . cases e
theorem Z2(hc:X.calm=true):B4 X (.builtin "min") (B5 W (Lk (AR Qd))):=by
 intro pins s σ H xs us Q I r h;obtain⟨x,y,a,b,r',rfl,h1,h2,e,q⟩:=Sj h;unfold AR at e;split at e
 . obtain⟨k,ek,rfl⟩:=oM e;cases ek;cases B8 h1;cases B8 h2;exact Oz hc pins s σ H _ us Q I r ⟨_,_,rfl,q.plain (Ac.mpr rfl)⟩
 . cases e
noncomputable def My:Ty->String
 | .int=>"int"| .bool=>"bool"| .str=>"str"| .tuple=>"tuple"| .list=>"list"| .dict=>"dict"| .cls _=>"object"
theorem MC{σ:L2.St}(I:Inv X pins σ H s)(h:Dt X.K H a xs):∃o,s.heap.get? a=some o/\o.cls= .type "list":=by
 obtain⟨its,_,⟨o,n,e,c,_⟩,_⟩:=I.list h;exact⟨o,e,c⟩
theorem Vk{σ:L2.St}(I:Inv X pins σ H s)(h:En X.K H a xs):∃o,s.heap.get? a=some o/\o.cls= .type "tuple":=by
 obtain⟨its,_,⟨o,e,c,_⟩,_⟩:=I.tuple h;exact⟨o,e,c⟩
theorem Z6(hK:W.K=X.K)(hw:W.w=X.w)(t:Ty)(ht:∀cs,t≠.cls cs):B4 X (.builtin "isinstance") (λxs H Q=>∃x c b,xs=[x,.ty (My t)]/\Eo W H c x/\Cm t c=some b/\Q (.bl b) H):=by
 intro pins s σ H xs us Q I r h;obtain⟨x,c,b,rfl,h1,e,q⟩:=h;obtain⟨u,w',rfl,ru,rw'⟩:=vals2 r;cases rw'
 have fin:∀(b':Bool),Cm t c=some b'->∀tk,EP X pins σ Q (.bool b') {s with toks:=tk}:=λb' e' tk=>by
  rw[e]at e';cases e';exact⟨.bl b,H,I.tok tk,rfl,q⟩
 cases c with
 |obj _ _=>cases t<;>first|exact absurd rfl (ht _)|cases e
 | b y =>
   cases y with
   | p p=>
     cases p with
     |fn _=>cases t<;>first|cases e|exact absurd rfl (ht _)
     | AG=>
       cases J6 h1;cases ru;cases t<;>first|exact absurd rfl (ht _)|exact kia_one PySem.W.kitx_none I.EG True.intro (by kernel_rfl) (λz=>nomatch z) (fin _ rfl)
     | bl i=>
       cases Pp h1;cases ru;cases t<;>first|exact absurd rfl (ht _)|exact kia_one PySem.W.kitx_bool I.EG True.intro (by kernel_rfl) (λz=>nomatch z) (fin _ rfl)
     | int i=>
       cases B8 h1;obtain⟨tk,rfl⟩:=ru;cases t<;>first|exact absurd rfl (ht _)|exact kia_one PySem.W.kitx_int I.EG True.intro (by kernel_rfl) (λz=>nomatch z) (fin _ rfl)
     | str i=>
       cases ET h1;obtain⟨tk,rfl⟩:=ru;cases t<;>first|exact absurd rfl (ht _)|exact kia_one PySem.W.kitx_str I.EG True.intro (by kernel_rfl) (λz=>nomatch z) (fin _ rfl)
     | tup ps=>
       obtain⟨a,vs,rfl,k1,k2⟩:=CB h1;cases ru;have ob:=Vk I (hK▸k1);cases t<;>first|exact absurd rfl (ht _)|exact kia_one PySem.W.kitx_tuple I.EG ob (by kernel_rfl) (λz=>nomatch z) (fin _ rfl)
   | lst ps=>
     obtain⟨a,vs,rfl,k1,k2⟩:=h1;cases ru;have ob:=MC I (Dt.of (K:=X.K) k1);cases t<;>first|exact absurd rfl (ht _)|exact kia_one kitx_list I.EG ob (by kernel_rfl) (λz=>nomatch z) (fin _ rfl)
   | ro ps=>
     obtain⟨a,vs,rfl,k1,k2⟩:=h1;cases ru;have ob:=MC I (hK▸k1.sq);cases t<;>first|exact absurd rfl (ht _)|exact kia_one kitx_list I.EG ob (by kernel_rfl) (λz=>nomatch z) (fin _ rfl)
   | AJ kvs=>
     obtain⟨a,rfl,k1⟩:=h1;cases ru;have ob:=Ds hw I.Aj k1;cases t<;>first|exact absurd rfl (ht _)|exact kia_one PySem.W.kitx_dict I.EG ob (by kernel_rfl) (λz=>nomatch z) (fin _ rfl)
def Dv(h:Heap)(d:Addr)(es:List DictEntry)(ep:Nat):Prop:=∃o,h.get? d=some o/\o.ExactDict/\o.data= .dict es.toArray ep
variable{ep:Nat}
theorem Dv.typ{es:List DictEntry}(h:Dv s.heap d es ep):s.TypeIs (.ref d) "dict":=let⟨o,h1,h2,_⟩:=h;⟨o,h1,h2.1⟩
variable{h:Heap}
theorem Dv.at'{h':Heap}{es:List DictEntry}(x:Dv h d es ep)(k:∀o,h.get? d=some o->h'.get? d=some o):Dv h' d es ep:=let⟨o,h1,r⟩:=x;⟨o,k o h1,r⟩
variable{prog:Program}{w:World}{A:Around}{E:Value->Shared->Prop}{s:Shared}{d it:Addr}{es:List DictEntry}{ep i:Nat}
theorem KZ{Q:Value->Shared->Prop}(lo:(d == sysModules)=false)(hm:Dv s.heap d es ep)
 (q:Q (.ref s.heap.objs.size) {s with heap:=s.heap.push {cls:=.type "dict_keyiterator",data:=.fields #[.ref d,.int 0 0,.int es.length 0,.int ep 0]}}):wpAny (model prog w) A (pyIter (.ref d)) Q E s:=by
 have ty:=hm.typ;obtain⟨o,h1,h2,h3⟩:=hm;refine wpAny_pyIter_slot ty PySem.F.slot_dict_iter (wpAny_call_entry PySem.F.slot_dict_iter ty PySem.F.entry_dict_iter ?_ (PySem.F.args_dict_iter_1 _));unfold Builtin.«dict.__iter__» Builtin.Dict.dictSlotNone;refine wB ?_;refine wB (wpAny_notOrdered_dict ty ?_);show wpAny _ _ (pure (Value.ref d)) _ _ s;refine wP ?_;show wpAny _ _ (Builtin.Dict.showsAll d >>= _) _ _ s;unfold Builtin.Dict.showsAll;rw[iN (by rw[lo];exact Bool.false_ne_true)];refine wB (wP ?_);refine wB (wpAny_dictEntries h1 h3 (wB (wpAny_dictEpoch h1 h3 (wB (wpAny_newObj_type (wP ⟨_,rfl,"dict_keyiterator",_,⟨_,Heap.get?_push_size _ rfl,rfl⟩,PySem.F.slot_dict_keyiterator_next.lookup,?_⟩))))));simpa[rawInt]using q
theorem KY{Q:Option Value->Shared->Prop}(hit:s.heap.IsKeyIter it d i es.length ep)(hm:Dv s.heap d es ep){e:DictEntry}(hx:es[i]? =some e)
 (q:∀h',h'.IsKeyIter it d (i + 1) es.length ep->Heap.SameBut it s.heap h'->Q (some e.key) {s with heap:=h'}):wpAny (model prog w) A (pyNext (.ref it)) Q E s:=by
 have ty:=hit.typeIs;obtain⟨oi,i1,i2,i3⟩:=hit;obtain⟨o,h1,h2,h3⟩:=hm;unfold pyNext;refine wB (wpAny_attempt (wpAny_callSpecial?_slot (name:=Str.ofString "__next__") ty PySem.F.slot_dict_keyiterator_next (wpAny_call_entry PySem.F.slot_dict_keyiterator_next ty PySem.F.entry_dict_keyiterator_next ?_ (PySem.F.args_dict_keyiterator_next_1 _))));refine wB (wP ?_);refine wB ?_;refine wB ?_;refine wB (wpAny_typeNameOfWhole_keyiter ty (wP (wB (wpAny_fieldsOf i1 i3 ?_))));simp only[show Builtin.Dict_items.ownsTuple "dict_keyiterator"=false from by decide,Bool.false_eq_true,if_false];show wpAny _ _ (ite ((Value.ref d == Value.none)=true) _ _) _ _ s;rw[iN (λz:(Value.ref d == Value.none)=true=>Bool.false_ne_true z)];refine wB (wP ?_);refine wB (wpAny_dictEntries h1 h3 ?_);rw[iN (by simp)];refine wB (wP ?_);refine wB (wpAny_dictEpoch h1 h3 ?_);rw[iN (by simp)];have he:es.toArray[i]? =some e:=by rw[List.getElem?_toArray];exact hx
 refine wP ?_;simp only[show ¬((i:Int) < 0)from by lia,if_false,Int.toNat_natCast,he];refine wB ?_;refine wB (wpAny_typeNameOfWhole_keyiter ty (wP (wB (wpAny_isOneOf_keyiter ty ?_))));show wpAny _ _ (setField (.ref it) 1 (rawInt ((i:Int) + 1)) >>= _) _ _ s;refine wB (wpAny_setField i1 i3 (by simp) ?_)
 have st:(s.heap.update it (Obj.mapFields (·.setIfInBounds 1 (rawInt ((i:Int) + 1))))).IsKeyIter it d (i + 1) es.length ep:=by
  refine⟨_,Heap.get?_update_self _ i1 (Obj.isFreed_of_fields (Obj.data_mapFields i3 _)),(Obj.cls_mapFields ..).trans i2,?_⟩;rw[Obj.data_mapFields i3];simp[rawInt]
 refine wB ?_;refine wpAny_holding (wB (wpAny_isOneOf_keyiter (s:={s with heap:=_}) st.typeIs ?_));show wpAny _ _ (pure e.key) _ _ _;exact wP (wP ⟨_,rfl,wP (q _ st (Heap.SameBut.update ..))⟩)
theorem Nk{Q:Option Value->Shared->Prop}(hh:A.handled=none)(hit:s.heap.IsKeyIter it d i es.length ep)(hm:Dv s.heap d es ep)(hx:es.length<=i)
 (q:∀h',Heap.ExtBut it s.heap h'->Q none {s with heap:=h'}):wpAny (model prog w) A (pyNext (.ref it)) Q E s:=by
 have ty:=hit.typeIs;obtain⟨oi,i1,i2,i3⟩:=hit;obtain⟨o,h1,h2,h3⟩:=hm;unfold pyNext;refine wB (wpAny_attempt (wpAny_callSpecial?_slot (name:=Str.ofString "__next__") ty PySem.F.slot_dict_keyiterator_next (wpAny_call_entry PySem.F.slot_dict_keyiterator_next ty PySem.F.entry_dict_keyiterator_next ?_ (PySem.F.args_dict_keyiterator_next_1 _))));refine wB (wP ?_);refine wB ?_;refine wB ?_;refine wB (wpAny_typeNameOfWhole_keyiter ty (wP (wB (wpAny_fieldsOf i1 i3 ?_))));simp only[show Builtin.Dict_items.ownsTuple "dict_keyiterator"=false from by decide,Bool.false_eq_true,if_false];show wpAny _ _ (ite ((Value.ref d == Value.none)=true) _ _) _ _ s;rw[iN (λz:(Value.ref d == Value.none)=true=>Bool.false_ne_true z)];refine wB (wP ?_);refine wB (wpAny_dictEntries h1 h3 ?_);rw[iN (by simp)];refine wB (wP ?_);refine wB (wpAny_dictEpoch h1 h3 ?_);rw[iN (by simp)];refine wP ?_;have he:es.toArray[i]? =none:=by rw[List.getElem?_toArray];exact List.getElem?_eq_none hx
 simp only[show ¬((i:Int) < 0)from by lia,if_false,Int.toNat_natCast,he];refine wB ?_;refine wB (wpAny_typeNameOfWhole_keyiter ty (wP ?_));show wpAny _ _ (setField (.ref it) 0 .none >>= _) _ _ s;refine wB (wpAny_setField i1 i3 (by simp) ?_);show wpAny _ _ (newExc (.type "StopIteration") [] >>= _) _ _ _;refine wB ?_;simp only[newExc,newTuple];refine wB (wpAny_newObj_type (wB (m:=firstArgMember _ _) (wpAny_of_eq (a:=Value.none) (by first|rfl|(simp only[firstArgMember];rfl)) (wpAny_newObj_type ?_ (by size_fits)))) (by size_fits));simp only[raiseNew];refine wB ?_;refine wpAny_handled ?_;rw[show A.in1.handled=none from hh];refine wB (wP ?_);refine wpAny_throw (wB (wpAny_isInstance (T:="StopIteration") (b:=true) ⟨_,Heap.get?_push_size _ rfl,rfl⟩ isSubtype_stop (wP (q _ ?_))));exact((Heap.SameBut.update ..).extBut.push _).push _
def Rv(es:List DictEntry)(i:Nat)(v:Value):Prop:=∃e,es[i]? =some e/\v=e.key
theorem Oo(hh:A.handled=none)(I d:Addr)(hne:d≠I):Walks prog w A I [I,d] [I] es.length (Rv es) (λi h=>h.IsKeyIter I d i es.length ep/\Dv h d es ep) where
 sub:=λb hb=>by rw[mE hb];exact mS
 frame:=λi h h' x k=>⟨x.1.at (k I mS),x.2.at' (k d (mC mS))⟩
 item:=λi s Q E hi x q=>by
  refine KY x.1 x.2 (List.getElem?_eq_getElem hi) λh' y sb=>q _ h' s.toks ⟨_,List.getElem?_eq_getElem hi,rfl⟩ ⟨y,x.2.at' λo e=>(sb.2 d hne).trans e⟩ λb o hb e=>?_
  exact(sb.2 b λz=>hb (mem_singleton.mpr z)).trans e
 done:=λs Q E x q=>Nk hh x.1 x.2 (lR) λh' eb=>q h' s.toks λb o hb e=>eb b o (λz=>hb (mem_singleton.mpr z)) e
 self:=λi s Q E x q=>wpAny_pyIter_keyiter x.1 q
theorem JG(x:Dv h d es ep):d < h.objs.size:=let⟨_,h1,_⟩:=x;Heap.lt_size h1
theorem Nj{d:Addr}(lo:(d == sysModules)=false):KdlSrc prog w "dict" d d es.length (Rv es) (λh=>Dv h d es ep) where
 type:=λs x=>x.typ
 there:=λh x=>⟨JG x,JG x⟩
 keep:=λh h' x k=>x.at' (k d (.inl rfl))
 notList:=by decide
 notTuple:=by decide
 hint:=λA E s Q x q=>PySem.W.kdl_hint_dict x.typ q
 iter:=λA s hh x=>⟨_,_,λE Q q=>KZ lo x q,Oo hh _ d (Nat.ne_of_lt (JG x)),⟨⟨_,Heap.get?_push_size _ rfl,rfl,rfl⟩,x.at' λo e=>gP e⟩⟩
variable{H:Hp}
theorem FZ:∀{kvs:List (P×P)} {es:List DictEntry},Paired (FL W H) kvs es->∃vs,Vals vs (es.map (·.key))/\A7 W H (kvs.map (·.1)) vs
 |_,_,.nil=>⟨[],.nil,.nil⟩
 | _,_,.cons r t=>by
   obtain⟨vs,h1,h2⟩:=FZ t;obtain⟨k,rk,hk⟩:=r.2.1;exact⟨k::vs,.cons rk h1,.cons hk h2⟩
theorem Hf{es:List DictEntry}{acc:Array Value}(h:ItemsOf (Rv es) acc es.length):acc.toList=es.map (·.key):=by
 apply ext_getElem?;intro j;have hsz:acc.size=es.length:=h.1
 by_cases hj:j < es.length
 . obtain⟨e,h1,h2⟩:=h.2 j (acc[j]'(by lia)) (by simp[hsz,hj]);rw[List.getElem?_map,h1,Option.map_some,<-h2];simp[hsz,hj]
 . rw[List.getElem?_eq_none (by simp;lia),List.getElem?_eq_none (by simp;lia)]
theorem Ej{σ:L2.St}{kvs:List (P×P)}(I:Inv X pins σ H s)(hd:Dj W H a kvs):∃es ep,Dv s.heap a es ep/\Paired (FL W H) kvs es/\es.length=kvs.length/\ep=kvs.length:=by
 obtain⟨es,hH,hp⟩:=hd.ex;obtain⟨⟨o,h1,h2,h3⟩,_⟩:=(show C8 X.prog X.w H s.heap a (DX a es)from I.Aj a _ hH);exact⟨es,es.length,⟨o,h1,h2,h3⟩,hp,hp.length.symm,hp.length.symm⟩
theorem Ug(hc:X.calm=true):B4 X (.type "list") (B5 W (Gv λc=>match c with| .AJ kvs=>some (.lst (kvs.map (·.1)))|_=>none)):=by
 intro pins s σ H xs us Q I r h;obtain⟨x,c,r',rfl,h1,e,q⟩:=CV h;split at e
 case h_2=>cases e
 rename_i kvs;cases e;obtain⟨a,rfl,hd⟩:=h1;obtain⟨u,rfl,ru⟩:=vals1 r;cases ru;obtain⟨es,ep,x,hp,hl,_⟩:=Ej I hd;obtain⟨vs,v1,v2⟩:=FZ hp;have hz:kvs.length<=sizeLine:=Nat.le_trans hd.len C3;refine PySem.W.kdl_call (Nj hd.sm) (I.ok.hd hc) x (by lia) λh' tk acc c' hk hS hacc=>?_
 have eacc:=Hf hacc;have hS:h'.get? s.heap.objs.size=some (seqObj "list" (es.map (·.key)).toArray c'):=by rw[hS,<-eacc];try simp[seqObj]
 refine⟨.ref s.heap.objs.size,_,I.laid (t':=tk) (o:=.lst vs) hk (lR) ?_,rfl,q.list v2 _ (I.Aj.fresh (lR))⟩;exact⟨by rw[v2.length,lM];exact hz,es.map (·.key),c',v1,hS⟩
theorem R7{Q:Value->Shared->Prop}(lo:(d == sysModules)=false)(hm:Dv s.heap d es ep)(q:Q (.int es.length s.toks) {s with toks:=s.toks + 1}):
 wpAny (model prog w) A (callSpecial? (.ref d) (Str.ofString "__len__")) (λr s'=>∃v,r=some v/\Q v s') E s:=by
 have ty:=hm.typ;obtain⟨o,h1,h2,h3⟩:=hm;refine wpAny_callSpecial?_slot (name:=Str.ofString "__len__") ty PySem.F.slot_dict_len (wpAny_call_entry PySem.F.slot_dict_len ty PySem.F.entry_dict_len ?_ (PySem.F.args_dict_len_1 _));show wpAny _ _ (dictSize d >>= _) _ _ s;unfold dictSize;refine wB (wB (wpAny_dictEntries h1 h3 (wP ?_)));show wpAny _ _ (Builtin.Dict.pendingCount d >>= _) _ _ s;refine wB (wpAny_pendingCount_other lo ?_);refine wB (wpAny_mkInt (wP ⟨_,rfl,_,rfl,?_⟩));rw[Nat.add_zero,size_toArray];exact q
theorem TY{Q:Value->Shared->Prop}(lo:(d == sysModules)=false)(hm:Dv s.heap d es ep)(hf:(es.length:Int) < 2 ^ 63)(q:Q (.int es.length (s.toks + 1)) {s with toks:=s.toks + 1 + 1}):
 wpAny (model prog w) A (Builtin.«len» ⟨[.ref d],[]⟩) (λfin s'=>∃r,fin= .done (.ret r)/\Q r s') E s:=by
 unfold Builtin.«len»;refine wB (m:=oneArg "len" _) (wP (wB (m:=callSpecial? (.ref d) (Str.ofString "__len__")) (wpAny_mono (R7 (Q:=λv s'=>v= .int es.length s.toks/\s'={s with toks:=s.toks + 1}) lo hm ⟨rfl,rfl⟩) ?_ λ_ _ e=>e)))
 rintro r s' ⟨v,rfl,rfl,rfl⟩
 refine wB (wpAny_holding (wP (wB (wpAny_letGo ?_))));show wpAny _ _ (ite (((es.length:Nat):Int) < 0) _ _) _ _ _;rw[iN (by lia)];show wpAny _ _ (ite (((es.length:Nat):Int)≥2 ^ 63) _ _) _ _ _;rw[iN (by lia)];exact wB (wpAny_mkInt (wP ⟨_,rfl,q⟩))
theorem WJ:B4 X (.builtin "len") (B5 W (Gv λc=>match c with| .AJ kvs=>DJ (.AJ kvs)|_=>none)):=by
 intro pins s σ H xs us Q I r h;obtain⟨x,c,r',rfl,h1,e,q⟩:=CV h;split at e
 case h_2=>cases e
 rename_i kvs;cases e;obtain⟨a,rfl,hd⟩:=h1;obtain⟨u,rfl,ru⟩:=vals1 r;cases ru;obtain⟨es,ep,x,hp,hl,_⟩:=Ej I hd;have hz:kvs.length<=sizeLine:=Nat.le_trans hd.len C3;have h63:=EU;refine Calls.call_function_entry kind_len plain_len entry_len (args_len1 _) (TY hd.sm x (by lia) ?_);exact⟨.int kvs.length,H,I.tok _,⟨_,by rw[hl]⟩,q.plain (Ac.mpr rfl)⟩
def Pq(W:Wd):V->Hp->(Bool->Hp->Prop)->Prop:=λx H Q=>∃c b,Eo W H c x/\D2 c=some b/\Q b H
theorem Oq{ps:List P}(h:A7 W H ps vs):(!ps.isEmpty)= !vs.isEmpty:=by
 have:=h.length;cases ps<;>cases vs<;>simp at this ⊢
theorem Vg(hK:W.K=X.K):Zj X (Pq W):=by
 intro pins s σ H x v Q I rx h;obtain⟨c,b,h1,e,q⟩:=h;have ok:=λ(z:Zi X.K x H b)=>Vh pins s σ H x v Q I rx ⟨b,z,q⟩
 unfold D2 at e;split at e
 . rename_i hc;cases e;rw[LQ hc]at h1;cases Pp h1;exact ok rfl
 . rename_i ps hc;cases e;obtain⟨a,vs,rfl,k1,k2⟩:=Cn h1 hc;exact ok (.inl ⟨vs,hK▸k1,Oq k2⟩)
 . cases e
variable{σ:L2.St}
theorem N7{F:Env->Res Hd}{K:List V->Hp->Prop}(h:tG W (Be W) (λρ=>(F ρ).bind λh ρ=>.ok [h] ρ) σ H K):tG W (E8 W) F σ H λv H1=>K [v] H1:=by
 obtain⟨ρ,os,hR,hn,hA⟩:=h;dsimp only at hA;refine⟨ρ,os,hR,hn,?_⟩;cases eF:F ρ with
 |stuck=>rw[eF]at hA;exact hA
 | ok a ρ1=>
   rw[eF]at hA;exact λv H1 o os1 h1 h2 h3 h4=>hA [v] H1 o os1 ⟨v,[],o,[],rfl,h1,⟨rfl,rfl⟩,by simp⟩ h2 h3 h4
theorem GA{F:Env->Res (List Hd)}{n:Nat}(hF:∀ρ hs ρ',F ρ= .ok hs ρ'->hs.length=n){K:List V->Hp->Prop}(h:tG W (Be W) F σ H K):tG W (Be W) F σ H λvs H1=>vs.length=n/\K vs H1:=by
 obtain⟨ρ,os,hR,hn,hA⟩:=h;refine⟨ρ,os,hR,hn,?_⟩;unfold Ck at hA ⊢;cases eF:F ρ with
 |stuck=>rw[eF]at hA;exact hA
 | ok a ρ1=>
   rw[eF]at hA;intro vs H1 o os1 h1 h2 h3 h4;refine⟨?_,hA vs H1 o os1 h1 h2 h3 h4⟩;rw[<-hF ρ a ρ1 eF];clear hA eF h3 h4
   induction a generalizing vs o with
   |nil=>rw[h1.1];rfl
   | cons h hs ih=>
     obtain⟨v,r,o1,o2,rfl,_,h5,rfl⟩:=h1;rw[lC,lC,ih r o2 h5]
theorem ES{α β:Type}{rep:L2.St->Hp->Env->α->β->List Addr->Prop}{F:Env->Res α}{Q Q':β->Hp->Prop}(h:tG W rep F σ H Q)(k:∀b H',Q b H'->Q' b H'):tG W rep F σ H Q':=by
 obtain⟨ρ,os,hR,hn,hA⟩:=h;exact⟨ρ,os,hR,hn,hA.imp k⟩
section
variable{tg:Expr}
theorem NI(hK:W.K=X.K){xs:List P}{g:Hp->Prop}(h:∀H,g H->∃vs,Dt W.K H a vs/\A7 W H xs vs):Walk W (c8 X.K a) xs g where
 go:=λi H hg hi=>by
   obtain⟨vs,h1,h2⟩:=h H hg;have hi':i < vs.length:=by rw[h2.length];exact hi
   exact⟨vs,vs[i],hK▸h1,List.getElem?_eq_getElem hi'⟩
 Mw:=λi H x H' hg hi hy=>by
  obtain⟨rfl,hy⟩:=hy;obtain⟨vs,h1,h2⟩:=h _ hg;exact⟨Di.refl _,h2.get' (hy vs (hK▸h1))⟩
 stop:=λH hg=>by
  obtain⟨vs,h1,h2⟩:=h H hg;exact⟨vs,hK▸h1,Nat.le_of_eq h2.length⟩
theorem OP(hK:W.K=X.K){xs:List P}{g:Hp->Prop}(h:∀H,g H->∃vs,En W.K H a vs/\A7 W H xs vs):Walk W (bZ X.K a) xs g where
 go:=λi H hg hi=>by
   obtain⟨vs,h1,h2⟩:=h H hg;have hi':i < vs.length:=by rw[h2.length];exact hi
   exact⟨vs,vs[i],hK▸h1,List.getElem?_eq_getElem hi'⟩
 Mw:=λi H x H' hg hi hy=>by
  obtain⟨rfl,hy⟩:=hy;obtain⟨vs,h1,h2⟩:=h _ hg;exact⟨Di.refl _,h2.get' (hy vs (hK▸h1))⟩
 stop:=λH hg=>by
  obtain⟨vs,h1,h2⟩:=h H hg;exact⟨vs,hK▸h1,Nat.le_of_eq h2.length⟩
noncomputable def c9(W:Wd)(a:Addr)(n:Nat):It:=
 ⟨λi H=>i < n/\∃kvs,Dj W H a kvs/\kvs.length=n,λi H x H'=>H'=H/\∀kvs,Dj W H a kvs->kvs.length=n->∃p,kvs[i]? =some p/\Av W H p.1 x,λi H=>n<=i/\∃kvs,Dj W H a kvs/\kvs.length=n⟩
theorem Ve{P:Program}{w:World}{K:PySem.W.Frag}{tg:Expr}(hK:W.K=K)(hw:W.w=w)(a it:Addr)(n:Nat)(hne:a≠it):Turn P w K tg (c9 W a n) [it] it (λi h=>h.IsKeyIter it a i n n) where
 mem:=mS
 obj:=λi h st b hb=>by
  cases mE hb;obtain⟨o,e,c,d⟩:=st;exact⟨o,e,λv z=>by rw[d]at z;cases z⟩
 keep:=λi h h' st k=>let⟨o,e,r⟩:=st;⟨o,k it mS o e,r⟩
 item:=by
  intro X hP hw' hK' hc i pins s σ H E I hf st hg;subst hP hw' hK';obtain⟨hi,kvs,hd,hl⟩:=hg;obtain⟨es,ep,x,hp,hl2,hep⟩:=Ej I hd;have e1:es.length=n:=by lia
  have e2:ep=n:=by lia
  have st':s.heap.IsKeyIter it a i es.length ep:=by rw[e1,e2];exact st
  obtain⟨f0,f1,f2,f3,f4,f5⟩:=hf it mS;have hx:es[i]? =some (es[i]'(by lia)):=List.getElem?_eq_getElem (by lia);refine KY st' x hx λh' y sb=>?_
  have I1:Inv X pins σ H {s with heap:=h'}:=I.turned (t':=s.toks) (λb o hb e=>(sb.2 b hb).trans e) f0 f1 f3 f4 f5;obtain⟨p,g1,g2,⟨k,g3,g4⟩,_⟩:=Paired.at hp hx;obtain⟨o,e,c,d⟩:=id y;have y':h'.IsKeyIter it a (i + 1) n n:=by rw[e1,e2]at y;exact y
  refine⟨_,rfl,Hm (s:={s with heap:=h'}) e c d (by decide) ⟨k,H,I1,g3,⟨rfl,λkvs' hd' hl'=>?_⟩,y',λb hb=>(hf b hb).1⟩⟩;obtain⟨es2,ep2,x2,hp2,_⟩:=Ej I hd'
  have ees:es2=es:=by
   obtain⟨o1,a1,_,a2⟩:=x;obtain⟨o2,b1,_,b2⟩:=x2;rw[a1]at b1;cases b1;rw[a2]at b2;injection b2 with b3 _
   simpa using(congrArg Array.toList b3).symm
  subst ees;obtain⟨p',q1,_,⟨k',q3,q4⟩,_⟩:=Paired.at hp2 hx;have:=g3.inj q3;subst this;exact⟨p',q1,q4⟩
 done:=by
  intro X hP hw' hK' hc i pins s σ H E I hf st hg;subst hP hw' hK';obtain⟨hi,kvs,hd,hl⟩:=hg;obtain⟨es,ep,x,hp,hl2,hep⟩:=Ej I hd;have e1:es.length=n:=by lia
  have e2:ep=n:=by lia
  have st':s.heap.IsKeyIter it a i es.length ep:=by rw[e1,e2];exact st
  obtain⟨f0,f1,f2,f3,f4,f5⟩:=hf it mS;exact Nk (I.ok.hd hc) st' x (by lia) λh' eb=>⟨rfl,I.turned (t':=s.toks) (λb o hb e=>eb b o hb e) f0 f1 f3 f4 f5⟩
 self:=λ_ _ _ _ _ st h=>wpAny_pyIter_keyiter st h
theorem V6{kvs:List (P×P)}{g:Hp->Prop}(h:∀H,g H->Dj W H a kvs):Walk W (c9 W a kvs.length) (kvs.map (·.1)) g where
 go:=λi H hg hi=>⟨by rw[lM]at hi;exact hi,kvs,h H hg,rfl⟩
 Mw:=λi H x H' hg hi hy=>by
  obtain⟨rfl,hy⟩:=hy;obtain⟨p,h1,h2⟩:=hy kvs (h _ hg) rfl;exact⟨Di.refl _,p.1,by rw[List.getElem?_map,h1];rfl,h2⟩
 stop:=λH hg=>⟨by rw[lM];exact lR,kvs,h H hg,rfl⟩
theorem MV(hK:W.K=X.K)(hw:W.w=X.w){F:Env->Res Hd}(hl:PE X l (tG W (E8 W) F)):PI X tg l (Mx W .op (λρ=>(F ρ).bind λh ρ=>.ok [h] ρ)):=by
 intro pins s σ H R I h;refine BB (hl pins s σ H _ I (N7 h)) λv s1 ⟨x,H1,I1,r1,q1⟩=>?_
 obtain⟨cs,xs,h1,h2,h3⟩:=q1
 have hS:∃c,cs=[c]/\EF c=some xs:=by
  unfold Ah at h2;split at h2<;>first|cases h2|skip
  all_goals first|exact⟨_,rfl,h2⟩|(exfalso;simp_all)
 clear h2;obtain⟨c,rfl,h2⟩:=hS;obtain⟨_,e,hc⟩:=Cb h1;cases e
 have up:∀{H'},Eb W H' [c] [x]->Eo W H' c x:=λz=>by
  obtain⟨_,e,hc⟩:=Cb z;cases e;exact hc
 have fp:∀b,b=s1.heap.objs.size->G6 X pins H1 b:=λb hb=>by
  subst hb;exact I1.Md (lR) (I1.Aj.fresh (lR))
 unfold EF at h2;split at h2
 . rename_i ps hn;cases h2;obtain⟨a,vs,rfl,k1,k2⟩:=Cn hc hn;cases r1;obtain⟨its,rv,p,hz⟩:=I1.list (hK▸k1);refine wpAny_pyIter_list p.isList ⟨s1.heap.objs.size,[s1.heap.objs.size],_,_,H1,rfl,I1.kept (t':=s1.toks) λb o e=>gP e,NL a _,⟨_,Heap.get?_push_size _ rfl,rfl,rfl⟩,λb hb=>fp b (mE hb),h3 _ (NI hK λH' z=>?_)⟩;obtain⟨a',vs',e,g1,g2⟩:=Cn (up z) hn;cases e;exact⟨vs',g1,g2⟩
 . rename_i ps hn;cases h2;have hn':=LQ hn;subst hn';obtain⟨a,vs,rfl,k1,k2⟩:=CB hc;cases r1;obtain⟨its,rv,p,hz⟩:=I1.tuple (hK▸k1);refine wpAny_pyIter_tuple (show s1.heap.IsTuple a its.toArray from p) ⟨s1.heap.objs.size,[s1.heap.objs.size],_,_,H1,rfl,I1.kept (t':=s1.toks) λb o e=>gP e,Lu a _,⟨_,Heap.get?_push_size _ rfl,rfl,rfl⟩,λb hb=>fp b (mE hb),h3 _ (OP hK λH' z=>?_)⟩;obtain⟨a',vs',e,g1,g2⟩:=CB (up z);cases e;exact⟨vs',g1,g2⟩
 . rename_i kvs hn;cases h2;have hn':=Jj hn;subst hn';obtain⟨a,rfl,hd⟩:=hc;cases r1;obtain⟨es,ep,x,hp,hl,hep⟩:=Ej I1 hd;have hlt:a < s1.heap.objs.size:=JG x;refine KZ hd.sm x ⟨s1.heap.objs.size,[s1.heap.objs.size],_,_,H1,rfl,I1.kept (t':=s1.toks) λb o e=>gP e,Ve hK hw a _ kvs.length (Nat.ne_of_lt hlt),⟨_,Heap.get?_push_size _ rfl,rfl,by rw[hl,hep];rfl⟩,λb hb=>fp b (mE hb),h3 _ (V6 λH' z=>?_)⟩;obtain⟨a',e,hd'⟩:=up z;cases e;exact hd'
 . cases h2
theorem B9(lo hi:Int):(Ad lo hi).length=(hi - lo).toNat:=by unfold Ad;rw[lM,length_range]
theorem K3{lo hi:Int}{g:Hp->Prop}:Walk W (Xv lo (hi - lo).toNat) (Ad lo hi) g where
 go:=λi H _ h=>by rw[B9]at h;exact h
 Mw:=λi H x H' _ h hy=>by
  obtain⟨rfl,rfl⟩:=hy;rw[B9]at h;refine⟨Di.refl _,.int (lo + (i:Nat)),?_,Ac.mpr rfl⟩;unfold Ad;rw[List.getElem?_map,List.getElem?_range h];rfl
 stop:=λH _=>by rw[B9];exact lR
variable{α:Type}
theorem Qn{l:List α}(h:l.length=1):∃a,l=[a]:=by
 match l,h with
 |[a],_=>exact⟨a,rfl⟩
theorem Qm{l:List α}(h:l.length=2):∃a b,l=[a,b]:=by
 match l,h with
 |[a,b],_=>exact⟨a,b,rfl⟩
theorem YC{l:List α}(h:l.length=3):∃a b c,l=[a,b,c]:=by
 match l,h with
 |[a,b,c],_=>exact⟨a,b,c,rfl⟩
theorem Sg{c:C}{xs:List P}(h:Ah .Et [c]=some xs):∃n:Int,c= .p (.int n)/\n.natAbs < 2 ^ 61/\xs=Ad 0 n:=by
 unfold Ah at h;split at h<;>first|(exfalso;simp_all;done)|skip
 . rename_i n hk hc;split at h
   . rename_i hb;cases hc;cases h;exact⟨n,rfl,hb,rfl⟩
   . cases h
theorem Sf{c d:C}{xs:List P}(h:Ah .Et [c,d]=some xs):∃a n:Int,c= .p (.int a)/\d= .p (.int n)/\(a.natAbs < 2 ^ 61/\n.natAbs < 2 ^ 61)/\xs=Ad a n:=by
 unfold Ah at h;split at h<;>first|(exfalso;simp_all;done)|skip
 . rename_i a n hk hc;split at h
   . rename_i hb;cases hc;cases h;exact⟨a,n,rfl,rfl,hb,rfl⟩
   . cases h
end
section
variable{tg:Expr}
theorem NT{c d f:C}{xs:List P}(h:Ah .Et [c,d,f]=some xs):∃a n s:Int,c= .p (.int a)/\d= .p (.int n)/\f= .p (.int s)/\(0 < s/\s < 1000000/\a.natAbs < 2 ^ 61/\n.natAbs < 2 ^ 61)/\xs=(List.range ((n - a + s - 1) / s).toNat).map λk=>.int (a + s * (k:Nat)):=by
 unfold Ah at h;split at h<;>first|(exfalso;simp_all;done)|skip
 . rename_i a n s hk hc;split at h
   . rename_i hb;cases hc;cases h;exact⟨a,n,s,rfl,rfl,rfl,hb,rfl⟩
   . cases h
variable{H:Hp}{y:V}
theorem Gu{a b:C}{x:V}(h:Eb W H [a,b] [x,y]):Eo W H a x/\Eo W H b y:=by
 obtain⟨_,_,e,h1,h2⟩:=h;cases e;obtain⟨_,e,h2⟩:=Cb h2;cases e;exact⟨h1,h2⟩
theorem NU{a b c:C}{x z:V}(h:Eb W H [a,b,c] [x,y,z]):Eo W H a x/\Eo W H b y/\Eo W H c z:=by
 obtain⟨_,_,e,h1,h2⟩:=h;cases e;exact⟨h1,Gu h2⟩
variable{F:Env->Res (List Hd)}{pos:Pos}
theorem SJ{a:Expr}{p:Pos}(hg:Gl X "range")(hm:X.mg "range"=none)(hF:∀ρ hs ρ',F ρ= .ok hs ρ'->hs.length=1)(ha:PA X [a] (tG W (Be W) F))(hs:starEach [a] X.env=[(false,eval a X.env)]):PI X tg (.Call (.Name "range" p) [a] [] pos) (Mx W .Et F):=by
 intro pins s σ H R I h;refine O5 hg hm ha hs pins s σ H R I (ES (GA hF h) λvs H1 z=>?_);obtain⟨hl,cs,xs,h1,h2,h3⟩:=z;obtain⟨v,rfl⟩:=Qn hl;obtain⟨c,rfl⟩:=Qn (h1.length.symm.trans hl);obtain⟨n,rfl,hb,rfl⟩:=Sg h2;obtain⟨_,e,hc⟩:=Cb h1;cases e;cases B8 hc;have:=h3 (Xv 0 (n - 0).toNat) K3;rw[Int.sub_zero]at this;exact⟨n,rfl,by lia,by lia,this⟩
theorem SI{a b:Expr}{p:Pos}(hg:Gl X "range")(hm:X.mg "range"=none)(hF:∀ρ hs ρ',F ρ= .ok hs ρ'->hs.length=2)(ha:PA X [a,b] (tG W (Be W) F))(hs:starEach [a,b] X.env=[(false,eval a X.env),(false,eval b X.env)])(hs2:starEach [b] X.env=[(false,eval b X.env)]):PI X tg (.Call (.Name "range" p) [a,b] [] pos) (Mx W .Et F):=by
 intro pins s σ H R I h;refine O4 hg hm ha hs hs2 pins s σ H R I (ES (GA hF h) λvs H1 z=>?_);obtain⟨hl,cs,xs,h1,h2,h3⟩:=z;obtain⟨v,u,rfl⟩:=Qm hl;obtain⟨c,d,rfl⟩:=Qm (h1.length.symm.trans hl);obtain⟨i,n,rfl,rfl,hb,rfl⟩:=Sf h2;obtain⟨c1,c2⟩:=Gu h1;cases B8 c1;cases B8 c2;exact⟨i,n,rfl,⟨by lia,by lia,by lia,by lia⟩,h3 _ K3⟩
theorem UJ{s:Int}(hs:0 < s):Builtin.Range.rangeSize a n s=(((n - a + s - 1) / s).toNat:Nat):=by
 unfold Builtin.Range.rangeSize;rw[iP hs];have e:n - a + s - 1=(n - a - 1) + s:=by lia
 have e2:((n - a - 1) + s) / s=(n - a - 1) / s + 1:=by
  have:=Int.add_mul_ediv_right (n - a - 1) 1 (c:=s) (by lia);rw[Int.one_mul]at this;exact this
 rw[e,e2];split
 . have:0<=(n - a - 1) / s:=Int.ediv_nonneg (by lia) (by lia)
   lia
 . have:(n - a - 1) / s < 0:=Int.ediv_neg_of_neg_of_pos (by lia) hs
   lia
theorem Vl{a n s:Int}(hs:0 < s)(h2:s < 1000000)(ha:a.natAbs < 2 ^ 61)(hn:n.natAbs < 2 ^ 61):Builtin.Range.small a n s=true:=by
 have hz:=UJ (a:=a) (n:=n) hs
 have hb:(n - a + s - 1) / s<=2 ^ 62 + 1000000:=by
  have:(n - a + s - 1) / s * s<=n - a + s - 1:=Int.ediv_mul_le _ (by omega);rcases Int.lt_or_le ((n - a + s - 1) / s) 0 with z|z
  . omega
  . have h1:(n - a + s - 1) / s * 1<=(n - a + s - 1) / s * s:=Int.mul_le_mul_of_nonneg_left (by omega) z;omega
 unfold Builtin.Range.small;rw[hz,iP hs];simp only[Builtin.Range.rangeFitsLong,bA,Bool.or_eq_true,decide_eq_true_eq,beq_iff_eq];omega
theorem NH{a s:Int}{n:Nat}{g:Hp->Prop}:Walk W (bC a s n) ((List.range n).map λk=>.int (a + s * (k:Nat))) g where
 go:=λi H _ h=>by rw[lM,length_range]at h;exact h
 Mw:=λi H x H' _ h hy=>by
  obtain⟨rfl,rfl⟩:=hy;rw[lM,length_range]at h;refine⟨Di.refl _,.int (a + s * (i:Nat)),?_,Ac.mpr (by rw[Int.mul_comm])⟩;rw[List.getElem?_map,List.getElem?_range h];rfl
 stop:=λH _=>by rw[lM,length_range];exact lR
theorem SH{a b c:Expr}{p:Pos}(hg:Gl X "range")(hm:X.mg "range"=none)(hF:∀ρ hs ρ',F ρ= .ok hs ρ'->hs.length=3)(ha:PA X [a,b,c] (tG W (Be W) F))(hs:starEach [a,b,c] X.env=[(false,eval a X.env),(false,eval b X.env),(false,eval c X.env)])
 (hs2:starEach [b,c] X.env=[(false,eval b X.env),(false,eval c X.env)]):PI X tg (.Call (.Name "range" p) [a,b,c] [] pos) (Mx W .Et F):=by
 intro pins s σ H R I h;refine O3 hg hm ha hs hs2 pins s σ H R I (ES (GA hF h) λvs H1 z=>?_);obtain⟨hl,cs,xs,h1,h2,h3⟩:=z;obtain⟨v,u,t,rfl⟩:=YC hl;obtain⟨c,d,f,rfl⟩:=YC (h1.length.symm.trans hl);obtain⟨i,n,k,rfl,rfl,rfl,hb,rfl⟩:=NT h2;obtain⟨c1,c2,c3⟩:=NU h1;cases B8 c1;cases B8 c2;cases B8 c3;exact⟨i,n,k,_,rfl,hb.1,hb.2.1,Vl hb.1 hb.2.1 hb.2.2.1 hb.2.2.2,UJ hb.1,h3 _ NH⟩
noncomputable def bY(K:PySem.W.Frag)(a:Addr)(n:Nat):It:=
 ⟨λi H=>i < n/\∃xs,Dt K H a xs/\xs.length=n,λi H x H'=>H'=H/\∀xs,Dt K H a xs->xs[n - 1 - i]? =some x,λi H=>n<=i⟩
theorem Vd{P:Program}{w:World}{K:PySem.W.Frag}{tg:Expr}(a it:Addr)(n:Nat):Turn P w K tg (bY K a n) [it] it (λi h=>i<=n/\h.IsRevIter it a ((n:Int) - 1 - (i:Int))) where
 mem:=mS
 obj:=λi h st b hb=>by
  cases mE hb;obtain⟨_,o,e,c,d⟩:=st;exact⟨o,e,λv z=>by rw[d]at z;cases z⟩
 keep:=λi h h' st k=>⟨st.1,st.2.at λo e=>k it mS o e⟩
 item:=by
  intro X hP hw hK hc i pins s σ H E I hf st hg;subst hP hw hK;obtain⟨hi,xs,hq,rfl⟩:=hg;obtain⟨its,rv,p,hz⟩:=I.list hq;have hlen:=rv.length;have hx:xs[xs.length - 1 - i]? =some (xs[xs.length - 1 - i]'(by lia)):=List.getElem?_eq_getElem (by lia);obtain⟨u,hu,ru⟩:=rv.get hx;obtain⟨f0,f1,f2,f3,f4,f5⟩:=hf it mS;have st2:=st.2;rw[show(xs.length:Int) - 1 - (i:Int)=((xs.length - 1 - i:Nat):Int)by lia]at st2;refine wpAny_pyNext_rev_item st2 p.isList (x:=u) (by simpa using hu) λh' st' sb=>?_
  rw[show((xs.length - 1 - i:Nat):Int) - 1=(xs.length:Int) - 1 - ((i + 1:Nat):Int)by lia]at st';have I1:Inv X pins σ H {s with heap:=h'}:=I.turned (t':=s.toks) (λb o hb e=>(sb.2 b hb).trans e) f0 f1 f3 f4 f5;obtain⟨o,e,c,d⟩:=id st';exact⟨u,rfl,Hm (s:={s with heap:=h'}) e c d (by decide) ⟨_,H,I1,ru,⟨rfl,λys hy=>by rw[I.KI hy hq];exact hx⟩,⟨hi,st'⟩,λb hb=>(hf b hb).1⟩⟩
 done:=by
  intro X hP hw hK hc i pins s σ H E I hf st hg;subst hP hw hK;have hg:n<=i:=hg;have hi:i=n:=Nat.le_antisymm st.1 hg;obtain⟨f0,f1,f2,f3,f4,f5⟩:=hf it mS;have st2:=st.2;rw[show(n:Int) - 1 - (i:Int)= -1 by lia]at st2;exact wpAny_pyNext_rev_end (I.ok.hd hc) st2 λh' eb=>⟨rfl,I.turned (t':=s.toks) (λb o hb e=>eb b o hb e) f0 f1 f3 f4 f5⟩
 self:=λ_ _ _ _ _ st h=>wpAny_pyIter_revIter st.2 h
theorem V5(hK:W.K=X.K){ps:List P}{g:Hp->Prop}(h:∀H,g H->∃vs,Dt W.K H a vs/\A7 W H ps vs):Walk W (bY X.K a ps.length) ps.reverse g where
 go:=λi H hg hi=>by
   obtain⟨vs,h1,h2⟩:=h H hg;exact⟨by rw[length_reverse]at hi;exact hi,vs,hK▸h1,h2.length⟩
 Mw:=λi H x H' hg hi hy=>by
  obtain⟨rfl,hy⟩:=hy;rw[length_reverse]at hi;obtain⟨vs,h1,h2⟩:=h _ hg;obtain⟨p,h3,h4⟩:=h2.get' (hy vs (hK▸h1));refine⟨Di.refl _,p,?_,h4⟩;rw[List.getElem?_reverse hi];exact h3
 stop:=λH _=>by rw[length_reverse];exact lR
theorem Si{c:C}{xs:List P}(h:Ah .rev [c]=some xs):∃ps,c.nf= .lst ps/\xs=ps.reverse:=by
 unfold Ah at h;split at h<;>first|(exfalso;simp_all;done)|skip
 . rename_i hk hc;cases hc;split at h
   . rename_i ps hn;cases h;exact⟨ps,hn,rfl⟩
   . cases h
theorem SK(hK:W.K=X.K){F:Env->Res Hd}{p:Pos}(hg:Gl X "reversed")(hm:X.mg "reversed"=none)(hl:PE X l (tG W (E8 W) F))(hs:starEach [l] X.env=[(false,eval l X.env)]):PI X tg (.Call (.Name "reversed" p) [l] [] pos) (Mx W .rev (λρ=>(F ρ).bind λh ρ=>.ok [h] ρ)):=by
 intro pins s σ H R I h
 have h':D3 (tG W (E8 W) F) FO σ H (λvs H1=>match vs with|[x]=>(∃c ps,c.nf= .lst ps/\Eo W H1 c x/\∀J,Walk W J ps.reverse (λH=>Eo W H c x)->R J H1)|_=>False):=by
  refine ES (N7 h) λv H1 z=>?_
  obtain⟨cs,xs,h1,h2,h3⟩:=z;obtain⟨c,rfl⟩:=Qn h1.length.symm;obtain⟨ps,hn,rfl⟩:=Si h2;obtain⟨_,e,hc⟩:=Cb h1;cases e;refine⟨c,ps,hn,hc,λJ hJ=>h3 J ⟨λi H hg=>hJ.go i H ?_,λi H x H' hg=>hJ.Mw i H x H' ?_,λH hg=>hJ.stop H ?_⟩⟩
  all_goals
   obtain⟨_,e,hc⟩:=Cb hg;cases e;exact hc
 refine Call_ (CT I hg hm boot_reversed (PyProof.Rows.callWith_type1 (BB (DT hl FU hs pos pins s σ H _ I h') λus s1 ⟨vs,H1,I1,r1,q1⟩=>?_) hs rfl))
 match vs,r1,q1 with
 | [x],r1,q1=>
   obtain⟨u,rfl,ru⟩:=vals1 r1;obtain⟨c,ps,hn,hc,q⟩:=q1;obtain⟨a,vs,rfl,k1,k2⟩:=Cn hc hn;cases ru;obtain⟨its,rv,pl,hz⟩:=I1.list (hK▸k1);refine call_reversed_list pl.isList ?_;rw[show(its.toArray.size:Int) - 1=(ps.length:Int) - 1 by rw[size_toArray,<-rv.length,k2.length]];have st:(s1.heap.push (revObj a ((ps.length:Int) - 1))).IsRevIter s1.heap.objs.size a ((ps.length:Int) - 1 - ((0:Nat):Int)):=⟨_,Heap.get?_push_size _ rfl,rfl,by simp[revObj]⟩;refine wpAny_pyIter_revIter st ⟨s1.heap.objs.size,[s1.heap.objs.size],_,_,H1,rfl,I1.kept (t':=s1.toks) λb o e=>gP e,Vd a _ ps.length,⟨Nat.zero_le _,st⟩,λb hb=>?_,q _ (V5 hK λH' z=>?_)⟩
   . cases mE hb;exact I1.Md (lR) (I1.Aj.fresh (lR))
   . obtain⟨a',vs',e,g1,g2⟩:=Cn z hn;cases e;exact⟨vs',g1,g2⟩
end
end Iv
namespace Iv
open PySem PySem.Spec L2 PyProof.Rows
variable{prog:Program}{w:World}{A:Around}{R:Result->Shared->Prop}{s:Shared}
abbrev tests(ifs:List Expr)(env:PySem.Env):Sem Bool:=forIn ifs true λc r=>if r=true then do let ok <-isTrue c env (eval c env);pure (ForInStep.yield ok)else pure (ForInStep.yield r)
theorem LZ{elt target iter:Expr}{ifs:List Expr}{scope:Scope}{pos:Pos}{it acc:Value}{env:PySem.Env}(I:Nat->Shared->Prop)
 (turn : ∀n s,I n s->wpAny (model prog w) A (pyNext it) (λr s₁=>match r with
  |none=>R (.ok .next) s₁
  |some v=>wpAny (model prog w) A (letOwnedTupleGo target it v) (λ_ s₀=>wpAny (model prog w) A (assign target env v) (λ_ s₂=>wpAny (model prog w) A (tests ifs env) (λok s₃=>
   if ok=true then wpAny (model prog w) A (eval elt env) (λx s₄=>
    wpAny (model prog w) A (call (.builtin "list.append") [acc,x]) (λ_ s₅=>∃m,m < n/\I m s₅) (λ_ _=>False) s₄) (λ_ _=>False) s₃ else ∃m,m < n/\I m s₃) (λ_ _=>False) s₂) (λ_ _=>False) s₀) (λ_ _=>False) s₁) (λ_ _=>False) s)
 (n:Nat)(h:I n s):codeAny (model prog w) A (.compLoop (.ListComp elt [⟨target,iter,ifs,0⟩] scope pos) 0 it acc env) R s:=by
 refine codeAny_loop rfl I (λn s hI=>?_) n h;show wpAny _ _ ((compTurn (.ListComp elt [⟨target,iter,ifs,0⟩] scope pos) 0 it acc env).onRaise (λx=>noteFrame x env >>= λ_=>theTreesLotGoes x)) _ _ s;refine wpAny_noted ?_;rw[compTurn_list];refine wB (wpAny_standAt (wB (wpAny_mono (turn n s hI) (λr s₁ h₁=>?_) λ_ _ z=>z.elim)));cases r with
 |none=>exact wP h₁
 | some v=>
   refine wB (wpAny_mono h₁ (λ_ s₀ h₀=>wB (wpAny_mono h₀ (λ_ s₂ h₂=>wB (wpAny_mono h₂ (λok s₃ h₃=>?_) λ_ _ z=>z.elim)) λ_ _ z=>z.elim)) λ_ _ z=>z.elim);cases ok with
   | true=>
     rw[iP rfl]at h₃;exact wB (wB (wpAny_mono h₃ (λx s₄ h₄=>wB (wpAny_mono h₄ (λ_ s₅ h₅=>wP (wP ⟨rfl,h₅⟩)) λ_ _ z=>z.elim)) λ_ _ z=>z.elim))
   | false=>
     rw[iN Bool.false_ne_true]at h₃;exact wP ⟨rfl,h₃⟩
section
variable{X:Cx}{elt iter tg:Expr}{ifs:List Expr}{scope:Scope}{pos:Pos}{N:List Str}{fr:List (Option Nat)}{g:TG}{te:TE}{tc:TT}{wi:TI}
def Uu(X:Cx)(ifs:List Expr)(t:TT):Prop:=
 ∀(pins:List (Addr×Obj)) (s:Shared) (σ:L2.St) (H:Hp) (Q:Bool->Hp->Prop),Inv X pins σ H s->t σ H Q->wpAny (model X.prog X.w) X.A (tests ifs X.env) (TP X pins σ Q) X.xe s
theorem SF:Uu X [] (λσ H Q=>Q true H):=λpins s σ H Q I h=>wpAny_tests_nil ⟨H,I,h⟩
theorem SE(h:PT X c tc):Uu X [c] tc:=λpins s σ H Q I k=>wpAny_tests_one (h pins s σ H Q I k)
def Rt(J:It)(g:TG)(tc:TT)(te:TE)(σ0:L2.St)(H0:Hp)(Q:List V->Hp->Prop):Prop:=∃W:Nat->List V->Nat->L2.St->Hp->Prop,(∃m,W 0 [] m σ0 H0)/\∀i acc m σ' H',W i acc m σ' H'->
 (J.stop i H'/\Q acc H')\/(J.go i H'/\acc.length < sizeLine/\∀x H2,J.Mw i H' x H2->g x σ' H2 λσ2 H3=>tc σ2 H3 λb H4=>if b=true then te σ2 H4 λy H5=>∃m',m' < m/\W (i + 1) (acc++[y]) m' σ2 H5 else ∃m',m' < m/\W (i + 1) acc m' σ2 H4)
theorem Rm{pins:List (Addr×Obj)}{σ:L2.St}{H:Hp}{s:Shared}{J:It}{fp:List Addr}{it:Addr}{tn:Nat->Heap->Prop}{Q:List V->Hp->Prop}{E:Value->Shared->Prop}(hc:X.calm=true)(ok:E4 X.N X.env.scope N scope fr)
 (hb:∀C s H fp,PG (Bc X N scope C s H fp) tg g/\PE (Bc X N scope C s H fp) elt te/\Uu (Bc X N scope C s H fp) ifs tc)(I:Inv X pins σ H s)(T:Turn X.prog X.w X.K tg J fp it tn)(t0:tn 0 s.heap)(hf:∀b∈fp,G6 X pins H b)
 (hW:Rt J g tc te (CA fr σ) H Q):
 wpAny (model X.prog X.w) X.A (newList []) (λacc s₃=>wpAny (model X.prog X.w) X.A (newFunctionEnv scope X.env.globals (Lb X.env.cells scope.names []) [] X.env.qual none .none (some X.env)) (λcenv s₄=>
  codeAny (model X.prog X.w) X.A (.compStart (.ListComp elt [⟨tg,iter,ifs,0⟩] scope pos) 0 (.ref it) acc {cenv with scope:=relabel scope X.env}) (CompEnd X pins σ Q acc cenv.locals) s₄) E s₃) E s:=by
 have hfl:∀b∈fp,b < s.heap.objs.size:=λb hb=>by
  obtain⟨o,e,_⟩:=T.obj 0 _ t0 b hb;exact Heap.lt_size e
 refine wpAny_newObj_type (wpAny_newFunctionEnv ok.Jf (by intro y hy;simp at hy) (λh₁ hns₁ hsb₁=>?_) ok.kind);dsimp only at hns₁ hsb₁ ⊢;generalize hH2:s.heap.push {cls:=.type "list",dict:=none,data:=.seq ([]:List Value).toArray}=H2 at hns₁ hsb₁ ⊢;have hC:H2.objs.size=s.heap.objs.size + 1:=by rw[<-hH2,Heap.size_push]
 have hDC:s.heap.objs.size≠H2.objs.size:=by rw[hC];exact Nat.ne_of_lt (Nat.lt_succ_self _)
 have hCle:s.heap.objs.size<=H2.objs.size:=by rw[hC];exact Nat.le_succ _
 have old:∀b o,s.heap.get? b=some o->h₁.get? b=some o:=λb o e=>
  hsb₁.extBut b o (by rw[hC];exact Nat.ne_of_lt (Nat.lt_succ_of_lt (Heap.lt_size e))) (gP (hH2▸gP e))
 have hacc:h₁.get? s.heap.objs.size=some {cls:=.type "list",dict:=none,data:=.seq ([]:List Value).toArray}:=hsb₁.extBut _ _ hDC (gP (hH2▸Heap.get?_push_size _ rfl));obtain⟨W,⟨m0,w0⟩,turn⟩:=hW;obtain⟨hg,he,ht⟩:=hb H2.objs.size s H fp;have I1:=Rg (N:=N) (fr:=fr) (tk:=s.toks + ([]:List (Str×Value)).length) I ok hf hfl hCle hns₁ old;have hDfp:s.heap.objs.size∉fp:=λz=>Nat.lt_irrefl _ (hfl _ z)
 have fpx:∀{H':Hp} {ps:List (Addr×Obj)},(∀b∈fp,H' b=none)->(∀p∈ps,p.1=s.heap.objs.size)->∀b∈fp,G6 (Bc X N scope H2.objs.size s H fp) ps H' b:=λ{H' ps} hn hp b hb=>
  ⟨hn b hb,(I1.ok.ZI b hb).1,I1.ok.QS b hb,.inl hb,(I1.ok.ZI b hb).2,λp hp' z=>by
   have hp':p∈([]:List (Addr×Obj))++ps:=hp';rw[nil_append]at hp'
   exact hDfp (by rw[<-hp p hp',z];exact hb)⟩
 have loop :∀s₃:Shared,s₃={s with heap:=h₁,toks:=s.toks + ([]:List (Str×Value)).length}->
  codeAny (model X.prog X.w) X.A (.compLoop (.ListComp elt [⟨tg,iter,ifs,0⟩] scope pos) 0 (.ref it) (.ref s.heap.objs.size) (compEnvC scope (Lb X.env.cells scope.names []) H2.objs.size X.env))
   (CompEnd X pins σ Q (.ref s.heap.objs.size) H2.objs.size) s₃:=by
  rintro s₃ rfl
  refine LZ (λn s'=>∃i acc its k σ' H',Inv (Bc X N scope H2.objs.size s H fp) [(s.heap.objs.size,({cls:=.type "list",data:=.seq its k}:Obj))] σ' H' s'/\tn i s'.heap/\(∀b∈fp,H' b=none)/\acc.length<=sizeLine/\Vals acc its.toList/\W i acc n σ' H') ?_ m0
   ⟨0,[],#[],0,CA fr σ,H,?_,?_,λb hb=>(hf b hb).1,Nat.zero_le _,.nil,w0⟩
  . rintro n s3 ⟨i,acc,its,k,σ3,H3,I3,st3,fr3,hz3,va3,w3⟩
    have pinD:=I3.pin _ (mR mS);rcases turn i acc n σ3 H3 w3 with⟨stop,q⟩|⟨go,hlen,step⟩
    . refine BB (T.done (Bc X N scope H2.objs.size s H fp) rfl rfl rfl hc i _ s3 σ3 H3 _ I3 (fpx fr3 (by simp)) st3 stop) λr s4 ⟨hr,I4⟩=>?_
      subst hr;have p4:=I4.pin _ (mR mS);have J4:Inv X pins σ H3 s4:=I.YX (ch:=fp) I4.os I4.base I4.Aj I4.bare λb hb=>⟨(hf b hb).2.2.2.1,(hf b hb).2.1,(hf b hb).2.2.2.2.1,(hf b hb).2.2.2.2.2⟩
      have fD:G6 X pins H3 s.heap.objs.size:=I.Md (lR) p4.2.1;have e4:s4.heap.get? s.heap.objs.size=some {cls:=.type "list",data:=.seq its.toList.toArray k}:=by simpa using p4.1
      refine⟨rfl,_,H3,acc,rfl,p4.2.1,J4.XA fD hz3 va3 e4,?_,I.Md hCle ?_,q⟩
      . obtain⟨m,hn,_⟩:=I4.loc;exact⟨m,hn⟩
      . rw[Au (Ne.symm hDC)];exact I4.free
    . refine BB (T.item (Bc X N scope H2.objs.size s H fp) rfl rfl rfl hc i _ s3 σ3 H3 _ I3 (fpx fr3 (by simp)) st3 go) λr s4 ⟨u,hr,h4⟩=>?_
      subst hr;refine BB h4 λ_ s5 ⟨x,H5,I5,r5,y5,st5,fr5⟩=>?_
      have I5':=I5.pinned (fpx fr5 (by simp)) (T.obj _ _ st5);refine BB (hg _ s5 σ3 H5 x u _ I5' r5 (step x H5 y5)) λ_ s6 ⟨σ6,H6,I6,q6⟩=>?_
      refine BB (ht _ s6 σ6 H6 _ I6 q6) λok s6' ⟨H6',I6',q6'⟩=>?_
      cases ok with
      | false=>
        rw[iN Bool.false_ne_true]at q6' ⊢;obtain⟨m',hm,w7⟩:=q6';have p7:=I6'.pin _ (mR (mL mS));refine⟨m',hm,i + 1,acc,its,k,σ6,H6',?_,?_,λb hb=>?_,hz3,va3,w7⟩
        . refine(I6'.DR (pins':=[]) λp hp=>absurd hp (by simp)).DR λp hp=>?_
          have:p=(s.heap.objs.size,({cls:=.type "list",data:=.seq its k}:Obj)):=by simpa using hp
          subst this;exact p7
        . refine T.keep _ _ _ st5 λb hb o e=>?_
          exact(I6'.pin (b,o) (mR (mR (CG hb e)))).1
        . obtain⟨o,e,d⟩:=T.obj _ _ st5 b hb;exact(I6'.pin (b,o) (mR (mR (CG hb e)))).2.1
      |true=>
      rw[iP rfl]at q6' ⊢;refine BB (he _ s6' σ6 H6' _ I6' q6') λy s7 ⟨z,H7,I7,r7,q7⟩=>?_
      obtain⟨m',hm,w7⟩:=q7;have p7:=I7.pin _ (mR (mL mS));have hsz:its.size=acc.length:=by rw[va3.length];simp
      refine wpAny_list_append_plain (hsz:=by rw[hsz];exact hz3) ⟨k,p7.1⟩ λh₅ hl₅ hs₅=>?_
      obtain⟨k',e5⟩:=hl₅;refine⟨m',hm,i + 1,acc++[z],its.push y,k',σ6,H7,?_,?_,λb hb=>?_,?_,?_,w7⟩
      . have J7:Inv (Bc X N scope H2.objs.size s H fp) [] σ6 H7 s7:=I7.DR λp hp=>absurd hp (by simp)
        have J8:Inv (Bc X N scope H2.objs.size s H fp) [] σ6 H7 {s7 with heap:=h₅}:=by
         refine J7.turned (t':=s7.toks) (it:=s.heap.objs.size) (λb o hb e=>(hs₅.2 b hb).trans e) p7.2.1 p7.2.2.1 (.inr (lR)) (λx c e z=>?_) λp hp=>absurd (show p∈([]:List (Addr×Obj))from hp) (by simp)
         obtain⟨v,oc,hoc,hod⟩:=J7.cell x c e;rw[z,p7.1]at hoc;cases hoc;cases hod
        refine J8.DR λp hp=>?_
        have:p=(s.heap.objs.size,({cls:=.type "list",data:=.seq (its.push y) k'}:Obj)):=by simpa using hp
        subst this;exact⟨e5,p7.2.1,p7.2.2.1,p7.2.2.2.1,λv z=>by cases z⟩
      . refine T.keep _ _ _ st5 λb hb o e=>?_
        have q:=(I7.pin (b,o) (mR (mR (CG hb e)))).1;exact(hs₅.2 b (λz=>hDfp (z▸hb))).trans q
      . obtain⟨o,e,d⟩:=T.obj _ _ st5 b hb;exact(I7.pin (b,o) (mR (mR (CG hb e)))).2.1
      . rw[lA,lS];exact hlen
      . rw[Array.toList_push];exact Vals.append va3 (.cons r7 .nil)
  . refine I1.DR λp hp=>?_
    have:p=(s.heap.objs.size,({cls:=.type "list",data:=.seq #[] 0}:Obj)):=by simpa using hp
    subst this
    exact⟨hacc,I.Aj.fresh (lR),hDC,λz=>I.Yw (lR) (by
     rcases mK (I.IZ _ z)with e|e
     . exact absurd I.lt (by rw[<-e];exact Nat.lt_irrefl _)
     . exact e),λv z=>by cases z⟩
  . exact T.keep _ _ _ t0 λb _ o e=>old b o e
 refine codeAny_compStart_list (loop _ rfl) ?_;exact T.self _ 0 _ _ _ (T.keep _ _ _ t0 λb _ o e=>old b o e) (loop _ rfl)
noncomputable def IV(wi:TI)(g:TG)(tc:TT)(te:TE)(fr:List (Option Nat)):TE:=λσ H Q=>wi σ H λJ H1=>Rt J g tc te (CA fr σ) H1 λxs H'=>∀p,H' p=none->Q (.ref p) (upd H' p (.lst xs))
theorem PX(N:List Str)(fr:List (Option Nat))(hc:X.calm=true)(ok:E4 X.N X.env.scope N scope fr)(hi:PI X tg iter wi)(hb:∀C s H fp,PG (Bc X N scope C s H fp) tg g/\PE (Bc X N scope C s H fp) elt te/\Uu (Bc X N scope C s H fp) ifs tc)
 (hs:∀x,foldedSetIterable iter X.env x=pure x:=by intro _;rfl):PE X (.ListComp elt [⟨tg,iter,ifs,0⟩] scope pos) (IV wi g tc te fr):=by
 intro pins s σ H Q I h;rw[eval_ListComp];refine wpAny_comprehension_free (use:=none) rfl hs (El λy hy e=>I.ok.has y.1 (ok.free y hy e)) ok.kind ok.own ?_;refine BB (hi pins s σ H _ I h) λv s1 h1=>BB h1 λitv s2 h2=>?_
 obtain⟨it,fp,tn,J,H2,e,I2,T,st2,f2,hW⟩:=h2;subst e;refine BB (Rm (pos:=pos) (iter:=iter) (E:=X.xe) hc ok hb I2 T st2 f2 hW) λacc s3 h3=>BB h3 λcenv s4 h4=>?_
 refine codeAny_mono h4 λr s5 h5=>?_
 obtain⟨rfl,D,H',xs,rfl,hD,I5,⟨m,hn⟩,fC,q⟩:=h5;refine⟨m,hn,λh' hs'=>⟨.ref D,_,I5.turned (t':=s5.toks) (it:=cenv.locals) (λb o hb e=>(hs'.2 b hb).trans e) fC.1 fC.2.1 fC.2.2.2.1 fC.2.2.2.2.1 fC.2.2.2.2.2,rfl,q D hD⟩⟩
theorem PB{i:Nat}{y:Str}{py spos:Pos}(N:List Str)(fr:List (Option Nat))(hN:X.N.Nodup)(hy:X.N[i]? =some y)(hl:X.env.scope.names.lookup y=some .local)(hc:X.calm=true)(ok:E4 X.N X.env.scope N scope fr)(hi:PI X tg iter wi)
 (hb:∀C s H fp,PG (Bc X N scope C s H fp) tg g/\PE (Bc X N scope C s H fp) elt te/\Uu (Bc X N scope C s H fp) ifs tc)
 (hsw:swapsWith (.ListComp elt [⟨tg,iter,ifs,0⟩] scope pos) (some (.Name y py)) spos.line X.env=pure true:=by rfl)
 (hs:∀x,foldedSetIterable iter X.env x=pure x:=by intro _;rfl):PS X (.Assign [.Name y py] (.ListComp elt [⟨tg,iter,ifs,0⟩] scope pos) spos) (P4 (IV wi g tc te fr) (Hn i)):=by
 intro pins s σ H Q I h;rw[exec_Assign_Name_used _ _ _ _ hsw];refine wB (wpAny_standAt (wB ?_));show wpAny _ X.A (do let _ <-comprehension (.ListComp elt [⟨tg,iter,ifs,0⟩] scope pos) scope X.env _ (newList []) false (eval iter X.env) (some (assign (.Name y py) X.env))) _ _ s;refine wB (wpAny_mono (wpAny_comprehension_free (use:=some (assign (.Name y py) X.env)) (Q:=λ_ s'=>SP X pins Q .next s') rfl hs (El λy hy e=>I.ok.has y.1 (ok.free y hy e)) ok.kind ok.own ?_) (λ_ s' hq=>wP (wP hq)) λ_ _ e=>e);refine BB (hi pins s σ H _ I h) λv s1 h1=>BB h1 λitv s2 h2=>?_
 obtain⟨it,fp,tn,J,H2,e,I2,T,st2,f2,hW⟩:=h2;subst e;refine BB (Rm (pos:=pos) (iter:=iter) (E:=X.xe) hc ok hb I2 T st2 f2 hW) λacc s3 h3=>BB h3 λcenv s4 h4=>?_
 refine codeAny_mono h4 λr s5 h5=>?_
 obtain⟨rfl,D,H',xs,rfl,hD,I5,⟨m,hn⟩,fC,q⟩:=h5;show wpAny _ X.A (assign (.Name y py) X.env (.ref D)) _ _ _;refine wpAny_assign_Name (I8 (v:=.ref D) I5 hN hy (.inl hl) rfl (λs6 I6 hsb=>?_) (.inr hl));obtain⟨a,sb,ha⟩:=hsb
 have hCa:cenv.locals≠a:=by
  rcases ha with e|e
  . rw[e];exact fC.2.1
  . exact λz=>fC.2.2.2.2.1 _ _ e z.symm
 refine⟨m,hn.sameBut sb hCa,λh' hs'=>?_⟩;exact⟨_,_,I6.turned (t':=s6.toks) (it:=cenv.locals) (λb o hb e=>(hs'.2 b hb).trans e) fC.1 fC.2.1 fC.2.2.2.1 fC.2.2.2.2.1 fC.2.2.2.2.2,q D hD⟩
end
end Iv
namespace Iv
open PySem L2
variable{ρ:Env}
theorem EJ{i:Nat}(e:A9 ρ i=none):ρ.set i none=ρ:=by
 apply ext_getElem?;intro j;rw[List.getElem?_set];split
 . rename_i hj;subst hj;split
   . rename_i hl;unfold A9 at e;rw[List.getElem?_eq_getElem hl]at e ⊢;have e:ρ[i]=none:=e;rw[e]
   . rename_i hl;rw[List.getElem?_eq_none (by lia)]
 . rfl
variable{j:Nat}
theorem Eg{i:Nat}(h:i≠j):A9 (ρ.set i x) j=A9 ρ j:=by
 unfold A9;rw[List.getElem?_set_ne h]
variable{W:Wd}{H:Hp}
variable{fr:List (Option Nat)}
theorem AZ{o:Option Nat}:(o::fr).filterMap id=(match o with|some i=>[i]|none=>[])++fr.filterMap id:=by
 cases o<;>simp
theorem Lf{i:Nat}(h:i∉fr.filterMap id):Bd fr (ρ.set i none)=Bd fr ρ:=by
 unfold Bd;apply map_congr_left;intro o ho;cases o with
 |none=>rfl
 | some j=>
   show A9 (ρ.set i none) j=A9 ρ j;refine Eg λz=>h ?_
   subst z;exact mem_filterMap.mpr ⟨some i,ho,rfl⟩
theorem Fc:∀{fr:List (Option Nat)} {ρ:Env} {σ:L2.St} {os:List Addr},(fr.filterMap id).Nodup->Ab W H ρ σ os->∃ob or_,Ab W H (Bd fr ρ) (CA fr σ) ob/\Ab W H (BX fr ρ) σ or_/\(ob++or_).Perm os
 |[],ρ,σ,os,_,hR=>⟨[],os,⟨rfl,rfl⟩,hR,.refl _⟩
 | none::fr,ρ,σ,os,hn,hR=>by
   obtain⟨ob,or_,h1,h2,h3⟩:=Fc (fr:=fr) (by simpa[AZ]using hn) hR;exact⟨ob,or_,⟨none,CA fr σ,rfl,h1⟩,by unfold BX at h2 ⊢;simpa[AZ]using h2,h3⟩
 | some i::fr,ρ,σ,os,hn,hR=>by
   rw[AZ]at hn;have hn:=nA hn;have hi:i∉fr.filterMap id:=λz=>hn.2.2 i mS i z rfl
   cases hg:A9 ρ i with
   | none=>
     obtain⟨ob,or_,h1,h2,h3⟩:=Fc (fr:=fr) hn.2.1 hR;refine⟨ob,or_,?_,?_,h3⟩
     . show Ab W H (A9 ρ i::Bd fr ρ) _ _;rw[hg];exact⟨_,CA fr σ,rfl,h1⟩
     . unfold BX at h2 ⊢;rw[AZ,foldl_append];show Ab W H ((fr.filterMap id).foldl _ (ρ.set i none)) _ _;rw[EJ hg];exact h2
   | some c=>
     obtain⟨v,o,osr,t1,t2,t3,t4⟩:=hR.take hg;obtain⟨ob,or_,h1,h2,h3⟩:=Fc (fr:=fr) hn.2.1 t3;rw[Lf hi]at h1;refine⟨o++ob,or_,?_,?_,?_⟩
     . show Ab W H (A9 ρ i::Bd fr ρ) _ _;rw[hg];refine⟨v,CA fr σ,o,ob,?_,t2,h1,rfl⟩;show(σ[i]?).join::CA fr σ=_;rw[t1];rfl
     . unfold BX at h2 ⊢;rw[AZ,foldl_append];exact h2
     . rw[append_assoc];exact(h3.append_left o).trans t4
theorem Fw:∀{fr:List (Option Nat)} {β ρ:Env} {τ σ:L2.St} {ob or_:List Addr},(fr.filterMap id).Nodup->Ab W H β τ ob->Ab W H ρ σ or_->(∀i∈fr.filterMap id,A9 ρ i=none)->(∀(j i:Nat),fr[j]? =some (some i)->τ[j]? =some ((σ[i]?).join))->(ob++or_).Nodup->
 ∃os',Ab W H (AD ρ fr β) σ os'/\os'.Nodup/\∀a∈os',a∈ob++or_
 |[],β,ρ,τ,σ,ob,or_,_,_,hR,_,_,hn=>⟨or_,by cases β<;>exact hR,(nA hn).2.1,λa ha=>mR ha⟩
 |none::fr,[],ρ,τ,σ,ob,or_,_,_,hR,_,_,hn=>⟨or_,hR,(nA hn).2.1,λa ha=>mR ha⟩
 |some i::fr,[],ρ,τ,σ,ob,or_,_,_,hR,_,_,hn=>⟨or_,hR,(nA hn).2.1,λa ha=>mR ha⟩
 | none::fr,x::β,ρ,τ,σ,ob,or_,hd,hB,hR,he,ht,hn=>by
   have hd':(fr.filterMap id).Nodup:=by simpa[AZ]using hd
   have he':∀i∈fr.filterMap id,A9 ρ i=none:=λi hi=>he i (by rw[AZ];exact mR hi)
   cases x with
   | none=>
     obtain⟨y,r,rfl,hB⟩:=hB;show ∃os',Ab W H (AD ρ fr β) σ os'/\_;exact Fw hd' hB hR he' (λj i e=>by simpa using ht (j + 1) i (by simpa using e)) hn
   | some c=>
     obtain⟨v,r,o,o2,rfl,hc,hB,rfl⟩:=hB;show ∃os',Ab W H (AD ρ fr β) σ os'/\_
     have hn':(o2++or_).Nodup:=by
      rw[append_assoc]at hn;exact(nA hn).2.1
     obtain⟨os',h1,h2,h3⟩:=Fw hd' hB hR he' (λj i e=>by simpa using ht (j + 1) i (by simpa using e)) hn';exact⟨os',h1,h2,λa ha=>by rw[append_assoc];exact mR (h3 a ha)⟩
 | some i::fr,x::β,ρ,τ,σ,ob,or_,hd,hB,hR,he,ht,hn=>by
   rw[AZ]at hd;have hd:=nA hd;have hi:i∉fr.filterMap id:=λz=>hd.2.2 i mS i z rfl
   have hei:A9 ρ i=none:=he i (by rw[AZ];exact mL mS)
   have he':∀{y:Option C},∀k∈fr.filterMap id,A9 (ρ.set i y) k=none:=λ{y} k hk=>by
    have hne:i≠k:=λz=>hi (by rw[z];exact hk)
    rw[Eg hne];exact he k (by rw[AZ];exact mR hk)
   have hti:=ht 0 i rfl;cases x with
   | none=>
     obtain⟨y,r,rfl,hB⟩:=hB;show ∃os',Ab W H (AD (ρ.set i none) fr β) σ os'/\_;have hR':Ab W H (ρ.set i none) σ or_:=by rw[EJ hei];exact hR
     exact Fw hd.2.1 hB hR' he' (λj i e=>by simpa using ht (j + 1) i (by simpa using e)) hn
   | some c=>
     obtain⟨v,r,o,o2,rfl,hc,hB,rfl⟩:=hB
     have hσ:σ[i]? =some (some v):=by
      have hti:some (some v)=some ((σ[i]?).join):=hti;cases q:σ[i]? with
      |none=>rw[q]at hti;cases hti
      |some z=>rw[q]at hti;exact congrArg some (Option.some.inj hti).symm
     have hil:i < ρ.length:=by
      rw[<-hR.length];exact(List.getElem?_eq_some_iff.mp hσ).1
     obtain⟨os2,u1,u2⟩:=Ab.fill hc hR hei hil;rw[set_same hσ]at u1;show ∃os',Ab W H (AD (ρ.set i (some c)) fr β) σ os'/\_
     have hp:(o2++os2).Perm ((o++o2)++or_):=by
      refine(u2.append_left o2).trans ?_;rw[<-append_assoc];exact perm_append_comm.append_right or_
     obtain⟨os',h1,h2,h3⟩:=Fw hd.2.1 hB u1 he' (λj i e=>by simpa using ht (j + 1) i (by simpa using e)) (hp.nodup_iff.mpr hn);exact⟨os',h1,h2,λa ha=>hp.subset (h3 a ha)⟩
theorem NJ:(BX fr ρ).length=ρ.length:=DB
theorem Ls{i:Nat}(h:i∈fr.filterMap id):A9 (BX fr ρ) i=none:=Dc h
theorem OR{i:Nat}(h:i∉fr.filterMap id):A9 (BX fr ρ) i=A9 ρ i:=FA h
theorem Jd{i:Nat}:∀{fr:List (Option Nat)} {ρ β:Env},i∉fr.filterMap id->A9 (AD ρ fr β) i=A9 ρ i
 |[],ρ,β,_=>by cases β<;>rfl
 |none::fr,ρ,[],_=>rfl
 |some j::fr,ρ,[],_=>rfl
 |none::fr,ρ,x::β,h=>Jd (fr:=fr) (by simpa[AZ]using h)
 | some j::fr,ρ,x::β,h=>by
   rw[AZ]at h;have h1:i∉fr.filterMap id:=λz=>h (mR z)
   have h2:j≠i:=λz=>h (mL (by rw[z];exact mS))
   show A9 (AD (ρ.set j x) fr β) i=_;rw[Jd h1,Eg h2]
theorem LM{i:Nat}{x:Option C}:∀{fr:List (Option Nat)} {ρ β:Env} {j:Nat},(fr.filterMap id).Nodup->fr[j]? =some (some i)->β[j]? =some x->i < ρ.length->A9 (AD ρ fr β) i=x
 |[],_,_,_,_,e,_,_=>by simp at e
 |o::fr,ρ,[],j,_,_,e,_=>by simp at e
 |none::fr,ρ,y::β,0,_,e,_,_=>by simp at e
 |none::fr,ρ,y::β,j + 1,hn,e,e2,hl=>LM (fr:=fr) (j:=j) (by simpa[AZ]using hn) (by simpa using e) (by simpa using e2) hl
 | some k::fr,ρ,y::β,0,hn,e,e2,hl=>by
   rw[AZ]at hn;have hn:=nA hn;simp at e e2;subst e e2;show A9 (AD (ρ.set k y) fr β) k=y;rw[Jd (λz=>hn.2.2 k mS k z rfl),C5 hl]
 | some k::fr,ρ,y::β,j + 1,hn,e,e2,hl=>by
   rw[AZ]at hn;have hn:=nA hn;exact LM (fr:=fr) (j:=j) (ρ:=ρ.set k y) hn.2.1 (by simpa using e) (by simpa using e2) (by rw[length_set];exact hl)
theorem M9{i:Nat}(h:inner fr i=some j):fr[j]? =some (some i):=by
 unfold inner at h;obtain⟨hj,h1,_⟩:=List.findIdx?_eq_some_iff_getElem.mp h;rw[List.getElem?_eq_getElem hj];exact congrArg some (by simpa using h1)
theorem Hi{i:Nat}(h:inner fr i=none):i∉fr.filterMap id:=λz=>by
 unfold inner at h;obtain⟨o,ho,e⟩:=mem_filterMap.mp z;have e:o=some i:=e;subst e;have:=List.findIdx?_eq_none_iff.mp h _ ho;simp at this
variable{σ:L2.St}
theorem HW{g:Tg}(h:BW g fr=true):(fr.filterMap id).Nodup/\∀j∈g.slots,fr[j]? =some none:=by
 unfold BW at h;rw[bA]at h;exact⟨of_decide_eq_true h.1,λj hj=>of_decide_eq_true (all_eq_true.mp h.2 j hj)⟩
theorem QO{i:Nat}(e:fr[j]? =some (some i)):(CA fr σ)[j]? =some ((σ[i]?).join):=by
 unfold CA;rw[List.getElem?_map,e];rfl
theorem U9{k:IK}{F:Env->Res (List Hd)}{B:Env->Res Bool}{E:Env->Res C}{Q:VK}(h:tG W (rV W) (λρ=>(F ρ).bind (DP k g fr B E)) σ H Q):
 IV (Mx W k F) (gT W g) (tG W rB B) (tG W (rV W) E) fr σ H Q:=by
 obtain⟨ρ,os,hR,hn,hA⟩:=h;dsimp only at hA;refine⟨ρ,os,hR,hn,?_⟩;unfold Ck;cases eF:F ρ with
 |stuck=>rw[eF]at hA;exact hA
 | ok hs ρ1=>
   rw[eF,Res.A5]at hA;intro vs H1 o1 os1 h1 h2 h3 h4;have hA:=Ck.shift hA h4;unfold DP at hA;cases ec:AB ρ1 hs with
   |none=>rw[ec]at hA;exact hA.elim
   |some cs=>
   rw[ec]at hA;dsimp only at hA;cases ex:Ah k cs with
   |none=>rw[ex]at hA;exact hA.elim
   |some xs=>
   rw[ex]at hA;dsimp only at hA;refine⟨cs,xs,DO h2 h1 ec,ex,λJ hJ=>?_⟩;split at hA
   case isFalse=>exact hA.elim
   rename_i hgd;rw[bA,bA]at hgd;obtain⟨⟨hgf,hbk⟩,hbig⟩:=hgd;have hbig:xs.length<=big:=of_decide_eq_true hbig;obtain⟨hnd,hsl⟩:=HW hbk;cases eL:Cv g (Bv fr hs cs) B E xs [] (Bd fr ρ1)with
   |stuck=>rw[eL]at hA;exact hA.elim
   |ok ys βf=>
   rw[eL]at hA;have hA:∀v H' o os',Bt W H' (.lst ys) v o->Ab W H' (AD (BX fr ρ1) fr βf) σ os'->(o++os').Nodup->Bn H1 H' (o1++os1) (o++os')->Q v H':=hA;obtain⟨ob,or_,s1,s2,s3⟩:=Fc hnd h2;have n3:=nA h3;have nob:=nA (s3.nodup_iff.mpr n3.2.1);have hlen:(CA fr σ).length=fr.length:=by unfold CA;rw[lM]
   have whole:∀{H':Hp} {β:Env} {τ:L2.St} {ob':List Addr},Ab W H' β τ ob'->ob'.Nodup->Bn H1 H' ob ob'->B7 g.slots (CA fr σ) τ->∃os',Ab W H' (AD (BX fr ρ1) fr β) σ os'/\os'.Nodup/\∀a∈os',a∈ob'++or_:=by
    intro H' β τ ob' r1 r2 r3 r4;have k1:Bm H1 H':=r3.but.keep s1.own;have s2':Ab W H' (BX fr ρ1) σ or_:=s2.frame k1 r3.but λa ha z=>nob.2.2 a z a ha rfl
    refine Fw hnd r1 s2' (λi hi=>Ls hi) (λj i e=>?_) ?_
    . rw[r4.2 j (λz=>by rw[hsl j z]at e;cases e)];exact QO e
    . rw[nodup_append];refine⟨r2,nob.2.1,λa ha b hb z=>?_⟩;subst z;rcases r3.src a ha with y|y
      . exact nob.2.2 a y a hb rfl
      . obtain⟨x,e,_⟩:=s2.own a hb;rw[y]at e;cases e
   have rd : ∀ {H':Hp} {β:Env} {τ:L2.St} {ob':List Addr},Ab W H' β τ ob'->ob'.Nodup->Bn H1 H' ob ob'->B7 g.slots (CA fr σ) τ->holds (Bv fr hs cs) β=true->Eb W H' cs vs:=by
    intro H' β τ ob' r1 r2 r3 r4 hh;obtain⟨os',w1,w2,w3⟩:=whole r1 r2 r3 r4;refine J5 w1 (r3.but.keep s1.own) r3.but h1 ec h2 hgf (λq hq=>⟨?_,rfl⟩) λa ha z=>n3.2.2 a ha a (s3.subset (mL z)) rfl
    have hq':A9 ρ1 q.1=some q.2:=by
     unfold guards at hq;obtain⟨p,hp,e⟩:=mem_filterMap.mp hq;split at e
     . cases e
     . split at e
       . rename_i i hi;cases e
         have:∀{hs:List Hd} {cs:List C},AB ρ1 hs=some cs->p∈hs.zip cs->p.1.cont ρ1=some p.2:=by
          intro hs
          induction hs with
          |nil=>intro cs _ hp;simp at hp
          | cons h hs ih=>
            intro cs e hp;unfold AB at e;obtain⟨c,ec,e⟩:=oB e;obtain⟨ds,ed,rfl⟩:=oM e;rw[zip_cons_cons]at hp;rcases mK hp with z|z
            . rw[z];exact ec
            . exact ih ed z
         have z:=this ec hp;rw[hi]at z;exact z
       . cases e
    have hlt:q.1 < (BX fr ρ1).length:=by rw[NJ];exact Dq hq'
    cases hin:inner fr q.1 with
    |none=>rw[Jd (Hi hin),OR (Hi hin)];exact hq'
    | some j=>
      have hm:(j,q.2)∈Bv fr hs cs:=by
       unfold Bv;exact mem_filterMap.mpr ⟨q,hq,by rw[hin];rfl⟩
      have hj:=Iq hh _ hm;have hj:A9 β j=some q.2:=hj
      have hjβ:β[j]? =some (some q.2):=by
       unfold A9 at hj;cases z:β[j]? with
       |none=>rw[z]at hj;cases hj
       |some y=>rw[z]at hj;exact congrArg some hj
      exact LM hnd (M9 hin) hjβ hlt
   refine⟨λi acc m τ H'=>m=xs.length - i/\i<=xs.length/\∃β ob' accP,Ab W H' β τ ob'/\ob'.Nodup/\Bn H1 H' ob ob'/\B7 g.slots (CA fr σ) τ/\A7 W H' accP acc/\accP.length<=i/\Cv g (Bv fr hs cs) B E (xs.drop i) accP β= .ok ys βf,
    ⟨xs.length,rfl,Nat.zero_le _,Bd fr ρ1,ob,[],s1,nob.1,Bn.refl _ _,B7.refl _ _,.nil,lR,eL⟩,?_⟩
   rintro i acc m τ H' ⟨rfl,hi,β,ob',accP,r1,r2,r3,r4,r5,r6,r7⟩
   by_cases hlt:i < xs.length
   . rw[List.drop_eq_getElem_cons hlt]at r7;unfold Cv at r7;split at r7
     case isFalse=>cases r7
     rename_i hh;have hrd:=rd r1 r2 r3 r4 hh;refine .inr ⟨hJ.go i H' hrd hlt,?_,λx H2 hy=>?_⟩
     . rw[r5.length];exact Nat.lt_of_le_of_lt r6 (Nat.lt_of_lt_of_le hlt (Nat.le_trans hbig C3))
     obtain⟨sm,p,ep,rp⟩:=hJ.Mw i H' x H2 hrd hlt hy;rw[List.getElem?_eq_getElem hlt]at ep;cases ep;cases eT:DF g xs[i] β with
     |none=>rw[eT]at r7;cases r7
     |some β1=>
     rw[eT,Res.Je,Res.A5]at r7;refine US eT rp (r1.same sm) r2 (λj hj=>?_) λτ2 ob2 g1 g2 g3 g4=>?_
     . have e:=hsl j hj;have:τ.length=fr.length:=r4.1.trans hlen;rw[this];exact(List.getElem?_eq_some_iff.mp e).1
     have fr2:Bn H1 H2 ob ob2:=(r3.trans (Bn.of sm λa ha=>.inl ha)).sub g3;have un2:B7 g.slots (CA fr σ) τ2:=r4.trans g4;refine⟨β1,ob2,g1,g2,?_⟩;unfold Ck;cases eB:B β1 with
     |stuck=>rw[eB]at r7;cases r7
     |ok b β2=>
     rw[eB,Res.A5]at r7;intro b' H4 o4 os4 rb hR4 hn4 fr4;obtain⟨rfl,rfl⟩:=rb;have fr4':Bn H1 H4 ob os4:=fr2.trans fr4;have kp4:Bm H' H4:=(Bm.of sm).trans (fr4.but.keep g1.own);cases b with
     | false=>
       rw[iN Bool.false_ne_true]at r7 ⊢;exact⟨xs.length - (i + 1),by lia,rfl,hlt,β2,os4,accP,hR4,hn4,fr4',un2,r5.mono kp4,by lia,r7⟩
     | true=>
       rw[iP rfl]at r7 ⊢;refine⟨β2,os4,hR4,hn4,?_⟩;unfold Ck;cases eE:E β2 with
       |stuck=>rw[eE]at r7;cases r7
       |ok c β3=>
       rw[eE,Res.A5]at r7;intro y H5 o5 os5 rc hR5 hn5 fr5;cases c with
       |obj _ _=>cases r7
       |b bb=>
       cases bb with
       |lst _=>cases r7
       |AJ _=>cases r7
       |ro _=>cases r7
       |p yp=>
       have r7:Cv g (Bv fr hs cs) B E (xs.drop (i + 1)) (accP++[yp]) β3= .ok ys βf:=r7;obtain⟨rp5,rfl⟩:=(show Av W H5 yp y/\o5=[]from rc);have kp5:Bm H' H5:=kp4.trans (fr5.but.keep hR4.own);refine⟨xs.length - (i + 1),by lia,rfl,hlt,β3,os5,accP++[yp],hR5,hn5,fr4'.trans fr5,un2,A7.append (.cons rp5 .nil) (r5.mono kp5),?_,r7⟩;rw[lA,lS]
       lia
   . have e:i=xs.length:=by lia
     subst e;rw[List.drop_length]at r7;unfold Cv at r7;split at r7
     case isFalse=>cases r7
     rename_i hh;cases r7;refine .inl ⟨hJ.stop H' (rd r1 r2 r3 r4 hh),λp hp=>?_⟩;obtain⟨os',w1,w2,w3⟩:=whole r1 r2 r3 r4;have sm:Di H' (upd H' p (.lst acc)):=λb o e=>by rw[Au (B1 e hp)];exact e
     have hpos:p∉os':=λz=>by
      obtain⟨x,e,_⟩:=w1.own p z;rw[hp]at e;cases e
     have fr':Bn H1 H' (o1++os1) os':=by
      have f1:=((r3.more or_).perm (perm_append_comm.trans s3) (.refl _)).sub (os2:=os') λa ha=>by
       rcases mem_append.mp (w3 a ha)with z|z
       . exact mR z
       . exact mL z
      exact f1.weak λa ha=>mR ha
     refine hA (.ref p) _ [p] os' ⟨p,acc,rfl,AH,r5.mono (Bm.of sm),rfl⟩ (w1.same sm) ?_ ?_
     . rw[nodup_append];exact⟨by simp,w2,λa ha b hb z=>hpos (by rw[<-mE ha,z];exact hb)⟩
     . refine fr'.trans (Bn.of sm λa ha=>?_);rcases mem_append.mp ha with z|z
       . rw[mE z];exact .inr hp
       . exact .inl z
variable{X:Cx}
theorem AF{t t':TE}(h:PE X e t)(k:∀σ H Q,t' σ H Q->t σ H Q):PE X e t':=λpins s σ H Q I z=>h pins s σ H Q I (k σ H Q z)
theorem GO{t t':TT}(h:PT X e t)(k:∀σ H Q,t' σ H Q->t σ H Q):PT X e t':=λpins s σ H Q I z=>h pins s σ H Q I (k σ H Q z)
theorem LL{t t':TA}(h:PA X e t)(k:∀σ H Q,t' σ H Q->t σ H Q):PA X e t':=λpos pins s σ H Q I z=>h pos pins s σ H Q I (k σ H Q z)
variable{t':TS}
theorem CS{e:Stmt}{t:TS}(h:PS X e t)(k:∀D σ H,t' D σ H->t D σ H):PS X e t':=λpins s σ H D I z=>h pins s σ H D I (k D σ H z)
theorem MR{e:List Stmt}{t:TS}(h:Lm X e t)(k:∀D σ H,t' D σ H->t D σ H):Lm X e t':=λpins s σ H D I z=>h pins s σ H D I (k D σ H z)
noncomputable def XR(W:Wd)(σ:L2.St)(H:Hp):T->V->Prop
 | .cst p,v=>HM p=true/\Av W H p v
 | .var i,v=>σ[i]? =some (some v)
 | .bor i,v=>σ[i]? =some (some v)
 | .fld i f,v=>∃a C dx fs,σ[i]? =some (some (.ref a))/\H a=some (.ins C dx fs)/\JZ W.K C/\Ci W.K C f/\fs.lookup f=some v
 |_,_=>False
def tX(W:Wd)(t:T):TE:=λσ H Q=>∃v,XR W σ H t v/\Q v H
def OZ(W:Wd):List T->TA
 |[]=>FO
 |t::ts=>D3 (tX W t) (OZ W ts)
section
variable{cf:CF}{mt:MT}{ρ:Env}{os:List Addr}
theorem Lh(h:HM p=true):∃v,Av W H p v:=by
 cases p with
 |AG=>exact⟨_,Ak.mpr rfl⟩
 |bl b=>exact⟨_,AA.mpr rfl⟩
 |int b=>exact⟨_,Ac.mpr rfl⟩
 |str b=>exact⟨_,Ai.mpr rfl⟩
 |tup b=>cases h
 |fn b=>cases h
theorem DU(hR:Ab W H ρ σ os){i:Nat}{c:C}(e:BE ρ i f=some c):∃a C dx fs v b o',σ[i]? =some (some (.ref a))/\H a=some (.ins C dx fs)/\JZ W.K C/\Ci W.K C f/\fs.lookup f=some v/\c= .b b/\C4 W H b v o':=by
 unfold BE at e;cases hg:A9 ρ i with
 |none=>rw[hg]at e;cases e
 | some d=>
   rw[hg]at e;cases d with
   |b x=>cases e
   | obj k fs'=>
     obtain⟨b,hb,rfl⟩:=oM e;obtain⟨u,o',q1,q2,_⟩:=hR.get hg;obtain⟨a',dx',vs,os',rfl,q3,q4,_,q5⟩:=q2;obtain⟨v',o'',g1,g2,_⟩:=q4.look hb;exact⟨a',W.FJ k,dx',vs,v',b,o'',q1,q3,q5.1,q5.2 _ (PySem.mem_of_lookup hb),g1,rfl,g2⟩
theorem QJ{t:T}(ht:t.calm=true)(hR:Ab W H ρ σ os):(∃h v,BV t (ev cf mt t) ρ= .ok h ρ/\XR W σ H t v/\E8 W σ H ρ h v [])\/BV t (ev cf mt t) ρ= .stuck:=by
 have slot:∀i,(∃h v,(if(A9 ρ i).isSome then Res.ok (Hd.slot i) ρ else .stuck)= .ok h ρ/\σ[i]? =some (some v)/\E8 W σ H ρ h v [])\/(if(A9 ρ i).isSome then Res.ok (Hd.slot i) ρ else .stuck)= .stuck:=by
  intro i;cases hg:A9 ρ i with
  |none=>exact .inr rfl
  | some c=>
    obtain⟨v,o,q1,_⟩:=hR.get hg;exact .inl ⟨.slot i,v,rfl,q1,q1,rfl⟩
 cases t with
 | cst p=>
   obtain⟨v,hv⟩:=Lh (W:=W) (H:=H) (show HM p=true from ht);exact .inl ⟨.BG (.p p),v,by unfold BV ev den;rfl,⟨ht,hv⟩,hv,rfl⟩
 |var i=>exact slot i
 |bor i=>exact slot i
 | fld i f=>
   show(∃h v,(if(BE ρ i f).isSome then Res.ok (Hd.fld i f) ρ else .stuck)= .ok h ρ/\_)\/(if(BE ρ i f).isSome then Res.ok (Hd.fld i f) ρ else .stuck)= .stuck;cases hg:BE ρ i f with
   |none=>exact .inr rfl
   | some c=>
     obtain⟨a,C,dx,fs,v,b,o',q1,q2,q3,q4,q5,_⟩:=DU hR hg;exact .inl ⟨.fld i f,v,rfl,⟨a,C,dx,fs,q1,q2,q3,q4,q5⟩,rfl,a,C,dx,fs,q1,q2,q5⟩
 |_=>cases ht
theorem BO(t:T)(ts:List T)(ρ:Env):An cf mt (t::ts) ρ=(BV t (ev cf mt t) ρ).bind λh ρ=>match h with
 | .fld i f=>if ts.all T.calm then(An cf mt ts ρ).bind λhs ρ=>.ok (.fld i f::hs) ρ else .stuck
 |h=>(An cf mt ts ρ).bind λhs ρ=>.ok (h::hs) ρ:=rfl
theorem Cu(ρ:Env):An cf mt [] ρ= .ok [] ρ:=rfl
theorem Ey:∀{ts:List T},ts.all T.calm=true->Ab W H ρ σ os->(∃hs,An cf mt ts ρ= .ok hs ρ/\∀Q:List V->Hp->Prop,(∀vs,Be W σ H ρ hs vs []->Q vs H)->OZ W ts σ H Q)\/An cf mt ts ρ= .stuck
 |[],_,hR=>.inl ⟨[],Cu ρ,λQ k=>k [] ⟨rfl,rfl⟩⟩
 | t ::ts,ht,hR=>by
   rw[all_cons,bA]at ht;rcases QJ (cf:=cf) (mt:=mt) ht.1 hR with⟨h,v,e,x,r⟩|e
   . rcases Ey ht.2 hR with⟨hs,e2,q2⟩|e2
     . refine .inl ⟨h::hs,?_,λQ k=>⟨v,x,q2 _ λvs r2=>k (v::vs) ⟨v,vs,[],[],rfl,r,r2,rfl⟩⟩⟩;rw[BO,e,Res.A5];cases h with
       |fld i f=>dsimp only;rw[iP ht.2,e2];rfl
       |slot i=>dsimp only;rw[e2];rfl
       |BG c=>dsimp only;rw[e2];rfl
     . refine .inr ?_;rw[BO,e,Res.A5];cases h with
       |fld i f=>dsimp only;rw[iP ht.2,e2];rfl
       |slot i=>dsimp only;rw[e2];rfl
       |BG c=>dsimp only;rw[e2];rfl
   . refine .inr ?_;rw[BO,e];rfl
noncomputable def P1(W:Wd)(cf:CF)(mt:MT):List T->TA
 |[]=>FO
 |t::ts=>if(t::ts).all T.calm=true then OZ W (t::ts)else D3 (tG W (E8 W) (BV t (ev cf mt t))) (P1 W cf mt ts)
theorem Ro{r:Res C}{i:Nat}(e:(r.bind λc ρ=>Res.ok (Hd.BG c) ρ)=Res.ok (Hd.fld i f) ρ'):False:=by
 cases r<;>cases e
theorem TJ{i:Nat}(e:BV t (ev cf mt t) ρ= .ok (.fld i f) ρ'):t= .fld i f:=by
 cases t with
 | fld j g=>
   have e:(if(BE ρ j g).isSome then Res.ok (Hd.fld j g) ρ else .stuck)= .ok (.fld i f) ρ':=e;split at e
   . cases e;rfl
   . cases e
 | var j=>
   have e:(if(A9 ρ j).isSome then Res.ok (Hd.slot j) ρ else .stuck)= .ok (.fld i f) ρ':=e;split at e<;>cases e
 | bor j=>
   have e:(if(A9 ρ j).isSome then Res.ok (Hd.slot j) ρ else .stuck)= .ok (.fld i f) ρ':=e;split at e<;>cases e
 | _=>
   unfold BV at e;exact(Ro e).elim
theorem LN:∀{ts:List T} {σ:L2.St} {H:Hp} {K:List V->Hp->Prop},tG W (Be W) (An cf mt ts) σ H K->P1 W cf mt ts σ H K
 | [],σ,H,K,h=>by
   obtain⟨ρ,os,hR,hn,hA⟩:=h;rw[Cu]at hA;exact hA [] H [] os ⟨rfl,rfl⟩ hR hn (Bn.refl _ _)
 | t ::ts,σ,H,K,h=>by
   unfold P1;split
   . rename_i hc;obtain⟨ρ,os,hR,hn,hA⟩:=h;rcases Ey (cf:=cf) (mt:=mt) hc hR with⟨hs,e,q⟩|e
     . rw[e]at hA;exact q K λvs r=>hA vs H [] os r hR hn (Bn.refl _ _)
     . rw[e]at hA;exact hA.elim
   . rename_i hc
     by_cases hf:∃i f,t= .fld i f
     . obtain⟨i,f,rfl⟩:=hf;have hts:¬ts.all T.calm=true:=λz=>hc (by rw[all_cons,z];rfl)
       obtain⟨ρ,os,hR,hn,hA⟩:=h;rw[BO]at hA;have e:BV (.fld i f) (ev cf mt (.fld i f)) ρ=(if(BE ρ i f).isSome then Res.ok (Hd.fld i f) ρ else .stuck):=rfl;rw[e]at hA;cases hg:(BE ρ i f).isSome with
       |false=>rw[hg]at hA;exact False.elim hA
       | true=>
         rw[hg]at hA;have hA:Ck W (Be W σ) H os σ (if ts.all T.calm then(An cf mt ts ρ).bind λhs ρ=>.ok (.fld i f::hs) ρ else .stuck) K:=hA;rw[iN hts]at hA;exact False.elim hA
     . have nf:∀ρ h ρ',BV t (ev cf mt t) ρ= .ok h ρ'->∀i f,h≠.fld i f:=λρ h ρ' e i f z=>hf ⟨i,f,by rw[z]at e;exact TJ e⟩
       have h2:tG W (Be W) (λρ=>(BV t (ev cf mt t) ρ).bind λh ρ=>(An cf mt ts ρ).bind λhs ρ=>.ok (h::hs) ρ) σ H K:=by
        obtain⟨ρ,os,hR,hn,hA⟩:=h;refine⟨ρ,os,hR,hn,?_⟩;rw[BO]at hA;show Ck W (Be W σ) H os σ ((BV t (ev cf mt t) ρ).bind λh ρ=>(An cf mt ts ρ).bind λhs ρ=>.ok (h::hs) ρ) K;cases e:BV t (ev cf mt t) ρ with
        |stuck=>rw[e]at hA;exact hA
        | ok h ρ'=>
          rw[e,Res.A5]at hA;cases h with
          |fld i f=>exact absurd rfl (nf ρ _ ρ' e i f)
          |slot i=>exact hA
          |BG c=>exact hA
       have:=QE nf h2;exact ES this λv H1 z=>LN z
end
end Iv
namespace Iv
open PySem L2 PyProof.Rows
def AU:Expr->Bool
 | .Starred _ _=>false
 | .Set _ _ _=>false
 | .Slice _ _ _ _=>false
 |_=>true
theorem Ay(h:AU e=true)(es:List Expr)(env:PySem.Env):starEach (e::es) env=(false,eval e env)::starEach es env:=by
 cases e<;>first|rfl|cases h
theorem IL(h:AU e=true)(op:CmpOp):behindInMarks op e=false:=by
 cases e<;>first|rfl|cases h
theorem Ed(h:Cc e=false)(tg:Option Expr)(l:Nat)(env:PySem.Env):swapsWith e tg l env=pure false:=by
 cases e<;>first|rfl|cases h
theorem G3(h:AU e=true)(env:PySem.Env)(x:Value):foldedSetIterable e env x=pure x:=by
 cases e<;>first|rfl|cases h
variable{W:Wd}{σ:L2.St}{H:Hp}
theorem Ma{F:Env->Res C}{Q:VK}(h:tG W (E8 W) (λρ=>(F ρ).bind λc ρ=>.ok (.BG c) ρ) σ H Q):tG W (rV W) F σ H Q:=by
 obtain⟨ρ,os,hR,hn,hA⟩:=h;refine⟨ρ,os,hR,hn,?_⟩;dsimp only at hA;cases e:F ρ with
 |stuck=>rw[e]at hA;exact hA
 |ok c ρ'=>rw[e]at hA;exact hA
theorem Lw{F:Env->Res Hd}{Q:Bool->Hp->Prop}(h:tG W rB (λρ=>(F ρ).bind λh ρ=>Res.of ((h.cont ρ).bind D2) ρ) σ H Q):tG W (E8 W) F σ H λx H1=>Pq W x H1 Q:=by
 obtain⟨ρ,os,hR,hn,hA⟩:=h;dsimp only at hA;refine⟨ρ,os,hR,hn,?_⟩;unfold Ck;cases eF:F ρ with
 |stuck=>rw[eF]at hA;exact hA
 | ok a ρ1=>
   rw[eF,Res.A5]at hA;intro u H1 o1 os1 rA hR1 hn1 fr1;cases ec:a.cont ρ1 with
   |none=>rw[ec]at hA;exact False.elim hA
   | some c=>
     rw[ec]at hA;have hA:Ck W (rB σ) H os σ (Res.of (D2 c) ρ1) Q:=hA;cases eb:D2 c with
     |none=>rw[eb]at hA;exact False.elim hA
     | some b=>
       rw[eb]at hA;refine⟨c,b,Ez hR1 rA ec,eb,hA b H1 [] os1 ⟨rfl,rfl⟩ hR1 (nA hn1).2.1 (fr1.sub λa ha=>mR ha)⟩
variable{X:Cx}
theorem Px(hK:W.K=X.K){a:Expr}{ta:TE}(ha:PE X a ta)(he:∀whole,isTrue a X.env whole=(do let v <-whole;standAt a.pos;holding [v] (truthy v))):PT X a (λσ H Q=>ta σ H λx H1=>Pq W x H1 Q):=by
 intro pins s σ H Q I h;exact isTrue_plain (BB (ha pins s σ H _ I h) λv s1 ⟨x,H1,I1,r1,q1⟩=>Vg hK pins s1 σ H1 x v Q I1 r1 q1) (he _)
structure AX(X:Cx)(W:Wd)(cf:CF)(mt:MT)(e:Expr)(t:T):Prop where
 v:PE X e (tG W (rV W) (ev cf mt t))
 h:PE X e (tG W (E8 W) (BV t (ev cf mt t)))
 b:PT X e (tG W rB (tv cf mt t))
 x:t.calm=true->PE X e (tX W t)
 st:AU e=true
 i:(Bp t).1.ok=true->∀tg,PI X tg e (Mx W (Bp t).1 (An cf mt (Bp t).2))
 a:∀(i:Nat) (y:Str) (py spos:Pos),X.N.Nodup->X.N[i]? =some y->Loc X.env.scope y->(X.fn y=true\/X.env.scope.names.lookup y=some .local)->PS X (.Assign [.Name y py] e spos) (P4 (tG W (rV W) (ev cf mt t)) (Hn i))
 nc:Cc e=true->∃elt gs sc pos,e= .ListComp elt gs sc pos
 rv:∀u,t= .prim (.iter .rev) [u]->∃l p pos,e= .Call (.Name "reversed" p) [l] [] pos/\Gl X "reversed"/\X.mg "reversed"=none/\PE X l (tG W (E8 W) (BV u (ev cf mt u)))/\AU l=true
 zp:∀u w,t= .prim (.iter .zip) [u,w]->∃l m p pos,e= .Call (.Name "zip" p) [l,m] [] pos/\Gl X "zip"/\X.mg "zip"=none/\PA X [l,m] (tG W (Be W) (An cf mt [u,w]))/\AU l=true/\AU m=true
inductive Cg(X:Cx)(W:Wd)(cf:CF)(mt:MT):List Expr->List T->Prop where
 |nil:Cg X W cf mt [] []
 |cons {e:Expr} {t:T} {es:List Expr} {ts:List T} (h:AX X W cf mt e t) (r:Cg X W cf mt es ts):Cg X W cf mt (e::es) (t::ts)
section
variable{cf:CF}{mt:MT}
theorem L3(t:T)(ρ:Env):An cf mt [t] ρ=(BV t (ev cf mt t) ρ).bind λh ρ=>.ok [h] ρ:=by
 rw[BO];cases BV t (ev cf mt t) ρ with
 |stuck=>rfl
 |ok h ρ'=>cases h<;>(rw[Res.A5,Res.A5];dsimp only;rw[Cu];rfl)
theorem DN(t:T):An cf mt [t]=λρ=>(BV t (ev cf mt t) ρ).bind λh ρ=>.ok [h] ρ:=funext λρ=>L3 t ρ
theorem AX.of(hK:W.K=X.K)(hw:W.w=X.w){e:Expr}{t:T}(ht:∀v ρ,BV t v ρ=(v ρ).bind λc ρ=>.ok (.BG c) ρ)(hb:∀ρ,tv cf mt t ρ=((ev cf mt t ρ).bind λc ρ=>.ok (Hd.BG c) ρ).bind λh ρ=>Res.of ((h.cont ρ).bind D2) ρ)
 (hc:t.calm=false)(hi:Bp t=(.op,[t]))(v:PE X e (tG W (rV W) (ev cf mt t)))(he:∀whole,isTrue e X.env whole=(do let v <-whole;standAt e.pos;holding [v] (truthy v)))(st:AU e=true)(nc:Cc e=false:=by rfl):AX X W cf mt e t:=by
 have h:PE X e (tG W (E8 W) (BV t (ev cf mt t))):=AF v λσ H Q z=>Ma (by
  rw[show BV t (ev cf mt t)=λρ=>(ev cf mt t ρ).bind λc ρ=>.ok (.BG c) ρ from funext λρ=>ht _ ρ]at z
  exact z)
 refine⟨v,h,GO (Px hK h he) λσ H Q z=>Lw ?_,λz=>(by rw[hc]at z;cases z),st,λ_ tg=>?_,λi y py spos hN hi' hx hf=>GQ hN hi' hx v (Ed nc _ _ _) hf,λz=>(by rw[nc]at z;cases z),λu z=>?_,λu w z=>?_⟩
 . rw[show(λρ=>(BV t (ev cf mt t) ρ).bind λh ρ=>Res.of ((h.cont ρ).bind D2) ρ)=tv cf mt t from funext λρ=>by rw[hb,ht]];exact z
 . rw[hi];show PI X tg e (Mx W .op (An cf mt [t]));rw[DN];exact MV hK hw h
 . rw[z]at hi;cases hi
 . rw[z]at hi;cases hi
theorem AX.Yn(hK:W.K=X.K)(hw:W.w=X.w){t:T}(ht:∀v ρ,BV t v ρ=(v ρ).bind λc ρ=>.ok (.BG c) ρ)
 (hc:t.calm=false)(hi:Bp t=(.op,[t]))(v:PE X e (tG W (rV W) (ev cf mt t)))(hb:PT X e (tG W rB (tv cf mt t)))(st:AU e=true)(nc:Cc e=false:=by rfl):AX X W cf mt e t:=by
 have h:PE X e (tG W (E8 W) (BV t (ev cf mt t))):=AF v λσ H Q z=>Ma (by
  rw[show BV t (ev cf mt t)=λρ=>(ev cf mt t ρ).bind λc ρ=>.ok (.BG c) ρ from funext λρ=>ht _ ρ]at z
  exact z)
 refine⟨v,h,hb,λz=>(by rw[hc]at z;cases z),st,λ_ tg=>?_,λi y py spos hN hi' hx hf=>GQ hN hi' hx v (Ed nc _ _ _) hf,λz=>(by rw[nc]at z;cases z),λu z=>?_,λu w z=>?_⟩
 . rw[hi];show PI X tg e (Mx W .op (An cf mt [t]));rw[DN];exact MV hK hw h
 . rw[z]at hi;cases hi
 . rw[z]at hi;cases hi
variable{α:Type}{H:Hp}
theorem GI{β:Type}{rep:L2.St->Hp->Env->α->β->List Addr->Prop}{F:Env->Res α}(hF:∀ρ,F ρ= .stuck){σ:L2.St}{Q:β->Hp->Prop}(h:tG W rep F σ H Q):False:=by
 obtain⟨ρ,os,hR,hn,hA⟩:=h;rw[hF]at hA;exact hA
theorem DH{rep:L2.St->Hp->Env->α->V->List Addr->Prop}{F:Env->Res α}(hF:∀ρ,F ρ= .stuck):PE X e (tG W rep F):=λ_ _ _ _ _ _ h=>(GI hF h).elim
theorem Ko{rep:L2.St->Hp->Env->α->Bool->List Addr->Prop}{F:Env->Res α}(hF:∀ρ,F ρ= .stuck):PT X e (tG W rep F):=λ_ _ _ _ _ _ h=>(GI hF h).elim
theorem AX.not(hK:W.K=X.K)(hw:W.w=X.w){t:T}(ht:∀v ρ,BV t v ρ=(v ρ).bind λc ρ=>.ok (.BG c) ρ)(hv:∀ρ,ev cf mt t ρ= .stuck)(hb:∀ρ,tv cf mt t ρ= .stuck)(hc:t.calm=false)(hi:Bp t=(.op,[t]))(st:AU e=true)(nc:Cc e=false:=by rfl):AX X W cf mt e t:=
 AX.Yn hK hw ht hc hi (DH hv) (Ko hb) st nc
def IQ(t:TE):Prop:=∀σ H Q Q',t σ H Q->(∀v H',Q v H'->Q' v H')->t σ H Q'
theorem T9{rep:L2.St->Hp->Env->Hd->V->List Addr->Prop}{F:Env->Res Hd}:IQ (tG W rep F):=λ_ _ _ _ h k=>ES h k
theorem T8 :IQ (tX W t):=λ_ _ _ _ ⟨v,h1,h2⟩ k=>⟨v,h1,k _ _ h2⟩
noncomputable def ZQ(X:Cx):List Expr->List TE->Prop
 |[],[]=>True
 |e::es,t::ts=>PE X e t/\AU e=true/\ZQ X es ts/\IQ t
 |_,_=>False
def chain:List TE->TA
 |[]=>FO
 |t::ts=>D3 t (chain ts)
theorem Fm:∀{es:List Expr} {ts:List TE},ZQ X es ts->PA X es (chain ts)
 |[],[],_=>FU
 |e::es,t::ts,⟨h1,h2,h3,_⟩=>DT h1 (Fm h3) (Ay h2 es X.env)
 |[],_::_,h=>h.elim
 |_::_,[],h=>h.elim
theorem E1:∀{es:List Expr} {ts:List T},Cg X W cf mt es ts->ts.all T.calm=true->∃tes,ZQ X es tes/\OZ W ts=chain tes
 |_,_,.nil,_=>⟨[],True.intro,rfl⟩
 | _,_,.cons (t:=t) (ts:=ts) h r,hc=>by
   rw[all_cons,bA]at hc;obtain⟨tes,h1,h2⟩:=E1 r hc.2;exact⟨tX W t::tes,⟨h.x hc.1,h.st,h1,T8⟩,by show D3 (tX W t) (OZ W ts)=D3 (tX W t) (chain tes);rw[h2]⟩
theorem Eu:∀{es:List Expr} {ts:List T},Cg X W cf mt es ts->∃tes,ZQ X es tes/\P1 W cf mt ts=chain tes
 |_,_,.nil=>⟨[],True.intro,rfl⟩
 | _,_,.cons (t:=t) (ts:=ts) h r=>by
   by_cases hc:(t::ts).all T.calm=true
   . obtain⟨tes,h1,h2⟩:=E1 (.cons h r) hc;refine⟨tes,h1,?_⟩;unfold P1;rw[iP hc];exact h2
   . obtain⟨tes,h1,h2⟩:=Eu r;refine⟨_::tes,⟨h.h,h.st,h1,T9⟩,?_⟩;unfold P1;rw[iN hc,h2];rfl
variable{ts:List T}
theorem VT{es:List Expr}(h:Cg X W cf mt es ts):PA X es (P1 W cf mt ts):=by
 obtain⟨tes,h1,h2⟩:=Eu h;rw[h2];exact Fm h1
theorem DS{es:List Expr}(h:Cg X W cf mt es ts):PA X es (tG W (Be W) (An cf mt ts)):=LL (VT h) λσ H Q z=>LN z
theorem Cg.plain:∀{es:List Expr} {ts:List T},Cg X W cf mt es ts->∀e∈es,AU e=true
 |_,_,.nil,e,he=>by cases he
 | _,_,.cons h r,e,he=>by
   rcases mK he with z|z
   . rw[z];exact h.st
   . exact r.plain e z
theorem Fb:∀{es:List Expr},(∀e∈es,AU e=true)->∀env,starEach es env=es.map λe=>(false,eval e env)
 |[],_,env=>rfl
 |e::es,h,env=>by rw[Ay (h e mS),Fb (λe he=>h e (mC he)) env];rfl
theorem CM{o:O}(Aj:o.ok=true){σ:L2.St}{Q:VK}(h:tG W (rV W) (ev cf mt (.prim o ts)) σ H Q):P1 W cf mt ts σ H λvs H1=>B5 W (Aa o) vs H1 Q:=by
 refine LN (UK ?_)
 rw[show ev cf mt (.prim o ts)=λρ=>(An cf mt ts ρ).bind λhs ρ=>Res.of ((AB ρ hs).bind (Aa o)) ρ from funext λρ=>by
   show(den cf mt (.prim o ts)).v ρ=_
   conv=>lhs;unfold den
   show(if o.ok=true then _ else _)=_
   rw[iP Aj]]at h
 exact h
theorem GS{o:O}(Aj:o.ok=false)(ρ:Env):ev cf mt (.prim o ts) ρ= .stuck:=by
 show(den cf mt (.prim o ts)).v ρ=_
 conv=>lhs;unfold den
 show(if o.ok=true then _ else _)=_;rw[Aj];rfl
theorem BU(ρ:Env):tv cf mt (.prim o ts) ρ=((ev cf mt (.prim o ts) ρ).bind λc ρ=>.ok (Hd.BG c) ρ).bind λh ρ=>Res.of ((h.cont ρ).bind D2) ρ:=rfl
theorem D6{g:List C->Option C}{g2:C->C->Option C}(hg:∀a b,g [a,b]=g2 a b){x y:V}{Q:VK}(h:B5 W g [x,y] H Q):D5 W g2 x y H Q:=by
 obtain⟨cs,c,h1,h2,h3⟩:=h;have:=h1.length;obtain⟨a,b,rfl⟩:=Qm this.symm;obtain⟨r1,r2⟩:=Gu h1;exact⟨a,b,c,r1,r2,by rw[<-hg];exact h2,h3⟩
theorem GN{g:List C->Option C}{g1:C->Option C}(hg:∀a,g [a]=g1 a){x:V}{Q:VK}(h:B5 W g [x] H Q):XW W g1 x H Q:=by
 obtain⟨cs,c,h1,h2,h3⟩:=h;have:=h1.length;obtain⟨a,rfl⟩:=Qn this.symm;obtain⟨v,e,r1⟩:=Cb h1;cases e;exact⟨a,c,r1,by rw[<-hg];exact h2,h3⟩
theorem F8(h1:AX X W cf mt a x)(h2:AX X W cf mt b y):∃ta tb,PE X a ta/\PE X b tb/\P1 W cf mt [x,y]=D3 ta (D3 tb FO)/\IQ ta/\IQ tb:=by
 obtain⟨tes,h3,h4⟩:=Eu (.cons h1 (.cons h2 .nil))
 match tes,h3 with
 |[ta,tb],⟨q1,_,⟨q2,_,_,m2⟩,m1⟩=>exact⟨ta,tb,q1,q2,h4,m1,m2⟩
theorem Q7(h1:AX X W cf mt a x):∃ta,PE X a ta/\P1 W cf mt [x]=D3 ta FO/\IQ ta:=by
 obtain⟨tes,h3,h4⟩:=Eu (.cons h1 .nil)
 match tes,h3 with
 |[ta],⟨q1,_,_,m⟩=>exact⟨ta,q1,h4,m⟩
variable{r':R2}
theorem Du.imp{f:Value->Value->Sem Value}{r:R2}(h:Du X f r)(k:∀x y H Q,r' x y H Q->r x y H Q):Du X f r':=λpins s σ H x y v u Q I rx ry z=>h pins s σ H x y v u Q I rx ry (k _ _ _ _ z)
theorem V0.imp{f:Value->Sem Value}{r r':V->Hp->VK->Prop}(h:V0 X f r)(k:∀x H Q,r' x H Q->r x H Q):V0 X f r':=λpins s σ H x v Q I rx z=>h pins s σ H x v Q I rx (k _ _ _ z)
theorem B4.imp{r r':List V->Hp->VK->Prop}(h:B4 X f r)(k:∀x H Q,r' x H Q->r x H Q):B4 X f r':=λpins s σ H xs us Q I r z=>h pins s σ H xs us Q I r (k _ _ _ z)
theorem Rw.imp{r:R2}(h:Rw X r)(k:∀x y H Q,r' x y H Q->r x y H Q):Rw X r':=λvalue slice pins s σ H x y v u Q I rx ry z hs=>h value slice pins s σ H x y v u Q I rx ry (k _ _ _ _ z) hs
theorem Bw(v:Env->Res C)(ρ:Env):BV (.prim o ts) v ρ=(v ρ).bind λc ρ=>.ok (.BG c) ρ:=rfl
variable{pos:Pos}
theorem Er(hK:W.K=X.K)(hw:W.w=X.w){op:Operator}{o:O}(Aj:o.ok=true){g:C->C->Option C}(ho:Du X (binaryOp op) (D5 W g))(hg:∀a b,Aa o [a,b]=g a b){a b:Expr}{x y:T}(hi:Bp (.prim o [x,y])=(.op,[.prim o [x,y]]))
 (h1:AX X W cf mt a x)(h2:AX X W cf mt b y):AX X W cf mt (.BinOp a op b pos) (.prim o [x,y]):=by
 obtain⟨ta,tb,q1,q2,q3,_,_⟩:=F8 h1 h2;refine AX.of hK hw Bw BU rfl hi (AF (Ya (Du.imp ho λx y H Q z=>D6 hg z) q1 q2) λσ H Q z=>?_) (λ_=>rfl) rfl;have z:=CM Aj z;rw[q3]at z;exact z
theorem RX(hK:W.K=X.K)(hw:W.w=X.w)(h1:AX X W cf mt a x):AX X W cf mt (.UnaryOp .USub a pos) (.prim .neg [x]):=by
 obtain⟨ta,q1,q3,_⟩:=Q7 h1;refine AX.of hK hw Bw BU rfl rfl (AF (Y8 (V0.imp Xy λx H Q z=>GN (W:=W) (g:=Aa .neg) (g1:=Jw Kz) (λ_=>rfl) z) q1) λσ H Q z=>?_) (λ_=>rfl) rfl;have z:=CM (o:=.neg) rfl z;rw[q3]at z;exact z
theorem NZ{o:O}(Aj:o.ok=true)(hbl:∀cs c,Aa o cs=some c->∃b,c= .p (.bl b)){σ:L2.St}{Q:Bool->Hp->Prop}(h:tG W rB (tv cf mt (.prim o ts)) σ H Q):
 P1 W cf mt ts σ H λvs H1=>B5 W (Aa o) vs H1 λx H2=>∃k,x= .bl k/\Q k H2:=by
 refine CM Aj ?_;obtain⟨ρ,os,hR,hn,hA⟩:=h;refine⟨ρ,os,hR,hn,?_⟩;rw[BU]at hA
 have hv :∀c ρ',ev cf mt (.prim o ts) ρ= .ok c ρ'->∃b,c= .p (.bl b):=by
  intro c ρ' e;have e:(den cf mt (.prim o ts)).v ρ= .ok c ρ':=e;unfold den at e;have e:(if o.ok=true then(An cf mt ts ρ).bind λhs ρ=>Res.of ((AB ρ hs).bind (Aa o)) ρ else .stuck)= .ok c ρ':=e;rw[iP Aj]at e;cases e1:An cf mt ts ρ with
  |stuck=>rw[e1]at e;cases e
  | ok hs ρ2=>
    rw[e1,Res.A5]at e;cases e2:AB ρ2 hs with
    |none=>rw[e2]at e;cases e
    | some cs=>
      rw[e2]at e;have e:Res.of (Aa o cs) ρ2= .ok c ρ':=e;cases e3:Aa o cs with
      |none=>rw[e3]at e;cases e
      | some d=>
        rw[e3]at e;cases e;exact hbl cs _ e3
 show Ck W (rV W σ) H os σ (ev cf mt (.prim o ts) ρ) _;cases e:ev cf mt (.prim o ts) ρ with
 |stuck=>rw[e]at hA;exact hA
 | ok c ρ'=>
   rw[e]at hA;obtain⟨b,rfl⟩:=hv c ρ' e;intro v H' o1 os' r1 r2 r3 r4;have r1:Bt W H' (.p (.bl b)) v o1:=r1;obtain⟨r5,rfl⟩:=r1;refine⟨b,AA.mp r5,?_⟩;exact hA b H' [] os' ⟨rfl,rfl⟩ r2 r3 r4
theorem S4(hK:W.K=X.K)(hw:W.w=X.w){op:CmpOp}{o:O}(Aj:o.ok=true)(ho:Du X (compareOp op) (D5 W (EI o)))(hg:∀a b,Aa o [a,b]=EI o a b)(hbl:∀cs c,Aa o cs=some c->∃b,c= .p (.bl b)){a b:Expr}{x y:T}
 (hi:Bp (.prim o [x,y])=(.op,[.prim o [x,y]]))(h1:AX X W cf mt a x)(h2:AX X W cf mt b y):AX X W cf mt (.Compare a [op] [b] pos) (.prim o [x,y]):=by
 obtain⟨ta,tb,q1,q2,q3,_,_⟩:=F8 h1 h2;have ho':=Du.imp ho λx y H Q z=>D6 hg z
 refine AX.Yn hK hw Bw rfl hi (AF (SS ho' q1 q2 (IL h2.st op)) λσ H Q z=>?_) (GO (Ss ho' q1 q2 (IL h2.st op)) λσ H Q z=>?_) rfl
 . have z:=CM Aj z;rw[q3]at z;exact z
 . have z:=NZ Aj hbl z;rw[q3]at z;exact z
end
variable{α β γ δ:Type}
theorem BR{rep:L2.St->Hp->Env->α->β->List Addr->Prop}{rep':L2.St->Hp->Env->γ->δ->List Addr->Prop}{F:Env->Res α}{G:α->Env->Res γ}{Q:δ->Hp->Prop}{K:β->Hp->Prop}
 (h:tG W rep' (λρ=>(F ρ).bind G) σ H Q)(k:∀a ρ1 b H1 o1 os1,rep σ H1 ρ1 a b o1->Ab W H1 ρ1 σ os1->(o1++os1).Nodup->Ck W (rep' σ) H1 (o1++os1) σ (G a ρ1) Q->Bm H H1->(∃ρ0,F ρ0= .ok a ρ1)->K b H1):tG W rep F σ H K:=by
 obtain⟨ρ,os,hR,hn,hA⟩:=h;dsimp only at hA;refine⟨ρ,os,hR,hn,?_⟩;unfold Ck;cases eF:F ρ with
 |stuck=>rw[eF]at hA;exact hA
 | ok a ρ1=>
   rw[eF,Res.A5]at hA;exact λb H1 o1 os1 h1 h2 h3 h4=>k a ρ1 b H1 o1 os1 h1 h2 h3 (Ck.shift hA h4) (h4.but.keep hR.own) ⟨ρ,eF⟩
section
variable{cf:CF}{mt:MT}
variable{pos:Pos}
theorem S0(hK:W.K=X.K)(hw:W.w=X.w)(hu:X.A.units + 200 < cLine)(hs:JV b)(h1:AX X W cf mt a x)(h2:AX X W cf mt b y):AX X W cf mt (.Subscript a b pos) (.prim .idx [x,y]):=by
 obtain⟨ta,tb,q1,q2,q3,_,_⟩:=F8 h1 h2;refine AX.of hK hw Bw BU rfl rfl (AF (Yb (Rw.imp (YD hK (g:=AN) (Wo hK hw hu)) λx y H Q z=>D6 (W:=W) (g:=Aa .idx) (g2:=AN) (λ_ _=>rfl) z) q1 q2 hs) λσ H Q z=>?_) (λ_=>rfl) rfl;have z:=CM (o:=.idx) rfl z;rw[q3]at z;exact z
abbrev TV:=L2.St->Hp->(Option V->Hp->Prop)->Prop
def bM:Option V->Value->Prop
 |none,u=>u= .none
 |some v,u=>RelV v u
def ax:Option V->Option Int->Prop
 |none,none=>True
 |some v,some i=>v= .int i
 |_,_=>False
def PV(X:Cx)(e:Option Expr)(t:TV):Prop:=∀(pins:List (Addr×Obj)) (s:Shared) (σ:L2.St) (H:Hp) (Q:Option V->Hp->Prop),Inv X pins σ H s->t σ H Q->
    wpAny (model X.prog X.w) X.A (evalPart e X.env) (λu s'=>∃o H',Inv X pins σ H' s'/\bM o u/\Q o H') X.xe s
def Vc:TV:=λ_ H Q=>Q none H
def Vb(t:TE):TV:=λσ H Q=>t σ H λv H1=>Q (some v) H1
theorem MQ:PV X none Vc:=by
 intro pins s σ H Q I h;rw[evalPart_none];exact wP ⟨none,H,I,rfl,h⟩
variable{te:TE}
theorem MP(h:PE X e te):PV X (some e) (Vb te):=by
 intro pins s σ H Q I hw;rw[evalPart_some];exact BB (h pins s σ H _ I hw) λu s1 ⟨x,H1,I1,r1,q1⟩=>⟨some x,H1,I1,r1,q1⟩
theorem UL{o:Option V}{i:Option Int}(h:ax o i)(r:bM o u):IsPart u i:=by
 cases o with
 | none=>
   cases i with
   |none=>rw[show u= .none from r];exact .none
   |some i=>exact h.elim
 | some v=>
   cases i with
   |none=>exact h.elim
   | some i=>
     have h:v= .int i:=h;subst h;obtain⟨t,rfl⟩:=r;exact .int i t
theorem PU{r:V->Option Int->Option Int->Hp->VK->Prop}{lo hi:Option Expr}{tl th:TV}(hr:Xt X r)(he:PE X e te)(hl:PV X lo tl)(hu:PV X hi th):
 PE X (.Subscript e (.Slice lo hi none p2) pos) (λσ H Q=>te σ H λx H1=>tl σ H1 λl H2=>th σ H2 λu H3=>∃i j,ax l i/\ax u j/\r x i j H3 Q):=by
 intro pins s σ H Q I h;refine Subscript_ (BB (he pins s σ H _ I h) λv s1 ⟨x,H1,I1,r1,q1⟩=>?_);refine wpAny_Slice (BB (hl pins s1 σ H1 _ I1 q1) λvl s2 ⟨l,H2,I2,pl,q2⟩=>BB (hu pins s2 σ H2 _ I2 q2) λvu s3 ⟨u,H3,I3,pu,i,j,g1,g2,q3⟩=>?_);rw[evalPart_none];refine wP ?_;have I4:Inv X pins σ H3 {s3 with heap:=s3.heap.push {cls:=.type "slice",data:=.fields #[vl,vu,.none]}}:=I3.kept (t':=s3.toks) λb ob q=>gP q
 obtain⟨T,id,hT,ht,hg⟩:=hr pins {s3 with heap:=s3.heap.push {cls:=.type "slice",data:=.fields #[vl,vu,.none]}} σ H3 x v vl vu i j s3.heap.objs.size Q I4 r1 (Heap.IsSliceOf.new ..) (UL g1 pl) (UL g2 pu) q3;show wpAny (model X.prog X.w) X.A (subscriptTail e (.Slice lo hi none p2) v (.ref s3.heap.objs.size)) (EP X pins σ Q) X.xe {s3 with heap:=s3.heap.push {cls:=.type "slice",data:=.fields #[vl,vu,.none]}};exact tail_any (ops:=[.ref s3.heap.objs.size,v]) ht hT hg (by with_unfolding_all rfl)
theorem MX{i:Int}{H:Hp}(h:DI d=some i)(r:Eo W H d u):u= .int i:=by
 unfold DI at h;split at h
 . cases h;exact B8 r
 . cases h
theorem P9(hK:W.K=X.K)(hw:W.w=X.w)(h1:AX X W cf mt a x)(h2:AX X W cf mt b y):AX X W cf mt (.Subscript a (.Slice (some b) none none p2) pos) (.prim (.Gj true false) [x,y]):=by
 obtain⟨ta,tb,q1,q2,q3,m1,m2⟩:=F8 h1 h2;refine AX.of hK hw Bw BU rfl rfl (AF (PU (UI hK) q1 (MP q2) MQ) λσ H Q z=>?_) (λ_=>rfl) rfl;have z:=CM (o:=.Gj true false) rfl z;rw[q3]at z;refine m1 _ _ _ _ z λu H1 z=>m2 _ _ _ _ z λw H2 z=>?_
 obtain⟨a,b,c,g1,g2,g3,g4⟩:=D6 (g:=Aa (.Gj true false)) (g2:=λa i=>(DI i).bind λi=>Dw a (some i) none) (λ_ _=>rfl) z;obtain⟨i,e1,e2⟩:=oB g3;exact⟨some i,none,MX e1 g2,True.intro,a,c,g1,e2,g4⟩
theorem P8(hK:W.K=X.K)(hw:W.w=X.w)(h1:AX X W cf mt a x)(h2:AX X W cf mt b y):AX X W cf mt (.Subscript a (.Slice none (some b) none p2) pos) (.prim (.Gj false true) [x,y]):=by
 obtain⟨ta,tb,q1,q2,q3,m1,m2⟩:=F8 h1 h2;refine AX.of hK hw Bw BU rfl rfl (AF (PU (UI hK) q1 MQ (MP q2)) λσ H Q z=>?_) (λ_=>rfl) rfl;have z:=CM (o:=.Gj false true) rfl z;rw[q3]at z;refine m1 _ _ _ _ z λu H1 z=>m2 _ _ _ _ z λw H2 z=>?_
 obtain⟨a,b,c,g1,g2,g3,g4⟩:=D6 (g:=Aa (.Gj false true)) (g2:=λa i=>(DI i).bind λi=>Dw a none (some i)) (λ_ _=>rfl) z;obtain⟨i,e1,e2⟩:=oB g3;exact⟨none,some i,True.intro,MX e1 g2,a,c,g1,e2,g4⟩
end
section
variable{cf:CF}{mt:MT}
noncomputable def X8(c:C)(r:Env->Res C)(ρ:Env):Res C:=match c with
    | .p (.bl true)=>r ρ
    | .p (.bl false)=>.ok (.p (.bl false)) ρ
    |_=>.stuck
noncomputable def aG(c:C)(r:Env->Res C)(ρ:Env):Res C:=match c with
    | .p (.bl true)=>.ok (.p (.bl true)) ρ
    | .p (.bl false)=>r ρ
    |_=>.stuck
theorem R3(a b:T):ev cf mt (.and a b)=λρ=>(ev cf mt a ρ).bind λc ρ=>X8 c (ev cf mt b) ρ:=rfl
theorem OW(a b:T):tv cf mt (.and a b)=λρ=>(tv cf mt a ρ).bind λc ρ=>if c then tv cf mt b ρ else .ok false ρ:=rfl
theorem UW(a b:T):ev cf mt (.or a b)=λρ=>(ev cf mt a ρ).bind λc ρ=>aG c (ev cf mt b) ρ:=rfl
theorem UA(a b:T):tv cf mt (.or a b)=λρ=>(tv cf mt a ρ).bind λc ρ=>if c then .ok true ρ else tv cf mt b ρ:=rfl
variable{H:Hp}
theorem Xs{c:C}{b:Bool}(r:Bt W H (.p (.bl b)) v o):v= .bl b/\o=[]:=⟨AA.mp r.1,r.2⟩
variable{os:List Addr}
theorem Mp{σ:L2.St}{b:Bool}{Q:VK}(hR:Ab W H ρ σ os)(hn:os.Nodup)(h:Ck W (rV W σ) H os σ (.ok (.p (.bl b)) ρ) Q):Q (.bl b) H:=
 h (.bl b) H [] os ⟨AA.mpr rfl,rfl⟩ hR hn (Bn.refl _ _)
theorem Zb{σ:L2.St}{Q:VK}(h:tG W (rV W) (ev cf mt (.and a b)) σ H Q):UG (tG W (rV W) (ev cf mt a)) (tG W (rV W) (ev cf mt b)) σ H Q:=by
 rw[R3]at h;refine BR h λc ρ1 v H1 o1 os1 r1 r2 r3 r4 kp ef=>?_
 unfold X8 at r4;split at r4
 . obtain⟨rfl,rfl⟩:=Xs (c:=.p (.bl true)) r1;exact⟨true,rfl,Tv ⟨ρ1,os1,r2,r3,r4⟩⟩
 . obtain⟨rfl,rfl⟩:=Xs (c:=.p (.bl false)) r1;exact⟨false,rfl,Tw (Mp r2 r3 r4)⟩
 . exact False.elim r4
theorem aE{σ:L2.St}{Q:VK}(h:tG W (rV W) (ev cf mt (.or a b)) σ H Q):XF (tG W (rV W) (ev cf mt a)) (tG W (rV W) (ev cf mt b)) σ H Q:=by
 rw[UW]at h;refine BR h λc ρ1 v H1 o1 os1 r1 r2 r3 r4 kp ef=>?_
 unfold aG at r4;split at r4
 . obtain⟨rfl,rfl⟩:=Xs (c:=.p (.bl true)) r1;exact⟨true,rfl,Tv (Mp r2 r3 r4)⟩
 . obtain⟨rfl,rfl⟩:=Xs (c:=.p (.bl false)) r1;exact⟨false,rfl,Tw ⟨ρ1,os1,r2,r3,r4⟩⟩
 . exact False.elim r4
theorem Zc{σ:L2.St}{Q:Bool->Hp->Prop}(h:tG W rB (tv cf mt (.and a b)) σ H Q):XJ (tG W rB (tv cf mt a)) (tG W rB (tv cf mt b)) σ H Q:=by
 rw[OW]at h;refine BR h λc ρ1 v H1 o1 os1 r1 r2 r3 r4 kp ef=>?_
 obtain⟨rfl,rfl⟩:=r1;cases c with
 |true=>exact Tv ⟨ρ1,os1,r2,r3,r4⟩
 |false=>exact Tw (r4 false H1 [] os1 ⟨rfl,rfl⟩ r2 r3 (Bn.refl _ _))
theorem aF{σ:L2.St}{Q:Bool->Hp->Prop}(h:tG W rB (tv cf mt (.or a b)) σ H Q):bI (tG W rB (tv cf mt a)) (tG W rB (tv cf mt b)) σ H Q:=by
 rw[UA]at h;refine BR h λc ρ1 v H1 o1 os1 r1 r2 r3 r4 kp ef=>?_
 obtain⟨rfl,rfl⟩:=r1;cases c with
 |true=>exact Tv (r4 true H1 [] os1 ⟨rfl,rfl⟩ r2 r3 (Bn.refl _ _))
 |false=>exact Tw ⟨ρ1,os1,r2,r3,r4⟩
structure JU(X:Cx)(W:Wd)(cf:CF)(mt:MT)(op:PySem.BoolOp)(es:List Expr)(t:T):Prop where
 v:∀pos,PE X (.BoolOp op es pos) (tG W (rV W) (ev cf mt t))
 w:∀pos,PW X (.BoolOp op es pos) (tG W rB (tv cf mt t))
theorem JU.one{op:PySem.BoolOp}(h:AX X W cf mt e t):JU X W cf mt op [e] t:=
 ⟨λpos=>VL h.v,λpos=>by cases op with|And=>exact Sq h.b|Or=>exact Vy h.b⟩
variable{e':Expr}
theorem JU.and{es:List Expr}(h:AX X W cf mt e t)(r:JU X W cf mt .And (e'::es) u):JU X W cf mt .And (e::e'::es) (.and t u):=
 ⟨λpos=>AF (VS h.v (r.v pos)) λ_ _ _ z=>Zb z,λpos whole pins s σ H Q I z=>Vz h.b (r.w pos) whole pins s σ H Q I (Zc z)⟩
theorem JU.or{es:List Expr}(h:AX X W cf mt e t)(r:JU X W cf mt .Or (e'::es) u):JU X W cf mt .Or (e::e'::es) (.or t u):=
 ⟨λpos=>AF (Y9 h.v (r.v pos)) λ_ _ _ z=>aE z,λpos whole pins s σ H Q I z=>Y5 h.b (r.w pos) whole pins s σ H Q I (aF z)⟩
def W7(c:C)(ρ:Env):Res C:=match c with
    | .p (.bl b)=>.ok (.p (.bl (!b))) ρ
    |_=>.stuck
theorem QZ(a:T):ev cf mt (.not a)=λρ=>(ev cf mt a ρ).bind λc ρ=>W7 c ρ:=rfl
theorem OV(a:T):tv cf mt (.not a)=λρ=>(tv cf mt a ρ).bind λb ρ=>.ok (!b) ρ:=rfl
variable{pos:Pos}
theorem RW(hK:W.K=X.K)(hw:W.w=X.w)(h1:AX X W cf mt a x):AX X W cf mt (.UnaryOp .Not a pos) (.not x):=by
 refine AX.Yn hK hw (λ_ _=>rfl) rfl rfl (AF (VM h1.v) λσ H Q z=>?_) (GO (VB h1.b) λσ H Q z=>?_) rfl
 . rw[QZ]at z;refine BR z λc ρ1 v H1 o1 os1 r1 r2 r3 r4 kp ef=>?_
   unfold W7 at r4;split at r4
   . rename_i b;obtain⟨rfl,rfl⟩:=Xs (c:=.p (.bl b)) r1;exact⟨b,rfl,Mp r2 r3 r4⟩
   . exact False.elim r4
 . rw[OV]at z;refine BR z λc ρ1 v H1 o1 os1 r1 r2 r3 r4 kp ef=>?_
   obtain⟨rfl,rfl⟩:=r1;exact r4 (!c) H1 [] os1 ⟨rfl,rfl⟩ r2 r3 (Bn.refl _ _)
noncomputable def Nq(c:C)(r:Env->Res (List P))(ρ:Env):Res (List P):=match c with
    | .p x=>(r ρ).bind λxs ρ=>.ok (x::xs) ρ
    |_=>.stuck
theorem G4(t:T)(ts:List T):HE cf mt (t::ts)=λρ=>(ev cf mt t ρ).bind λc ρ=>Nq c (HE cf mt ts) ρ:=rfl
theorem HC(ρ:Env):HE cf mt [] ρ= .ok [] ρ:=rfl
theorem Jc:∀{es:List Expr} {ts:List T},Cg X W cf mt es ts->PA X es (tG W (bL W) (HE cf mt ts))
 | _,_,.nil=>LL FU λσ H Q h=>by
   obtain⟨ρ,os,hR,hn,hA⟩:=h;rw[HC]at hA;exact hA [] H [] os ⟨A7.nil,rfl⟩ hR hn (Bn.refl _ _)
 | _,_,.cons (t:=t) (ts:=ts) h r=>LL (DT h.v (Jc r) (Ay h.st _ _)) λσ H Q z=>by
   rw[G4]at z;refine BR z λc ρ1 v H1 o1 os1 r1 r2 r3 r4 kp ef=>?_
   unfold Nq at r4;split at r4
   . rename_i x;have r1:Bt W H1 (.p x) v o1:=r1;obtain⟨r5,rfl⟩:=r1;refine BR (rep':=bL W) (G:=λxs ρ=>.ok (x::xs) ρ) (Q:=Q) ⟨ρ1,os1,r2,r3,r4⟩ λxs ρ2 vs H2 o2 os2 s1 s2 s3 s4 kp2 _=>?_
     obtain⟨s5,rfl⟩:=s1;exact s4 (v::vs) H2 [] os2 ⟨A7.cons (r5.mono kp2) s5,rfl⟩ s2 s3 (Bn.refl _ _)
   . exact False.elim r4
theorem HD:∀{ts:List T} {ρ ρ':Env} {ps:List P},HE cf mt ts ρ= .ok ps ρ'->ps.length=ts.length
 |[],ρ,ρ',ps,e=>by rw[HC]at e;cases e;rfl
 | t ::ts,ρ,ρ',ps,e=>by
   rw[G4]at e;dsimp only at e;cases e1:ev cf mt t ρ with
   |stuck=>rw[e1]at e;cases e
   | ok c ρ2=>
     rw[e1,Res.A5]at e;unfold Nq at e;split at e
     . cases e2:HE cf mt ts ρ2 with
       |stuck=>rw[e2]at e;cases e
       | ok qs ρ3=>
         rw[e2]at e;cases e;rw[lC,lC,HD e2]
     . cases e
theorem QX(ts:List T):ev cf mt (.tup ts)=λρ=>if ts.length<=1000 then(HE cf mt ts ρ).bind λps ρ=>.ok (.p (.tup ps)) ρ else .stuck:=rfl
theorem R1(ts:List T):ev cf mt (.lst ts)=λρ=>if ts.length<=1000 then(HE cf mt ts ρ).bind λps ρ=>.ok (.lst ps) ρ else .stuck:=rfl
theorem Jk{σ:L2.St}{Q:VK}(hR:Ab W H ρ σ os)(hn:os.Nodup)(h:Ck W (rV W σ) H os σ (.ok c ρ) Q):F3 W H c Q:=λv H' o s r ho hf=>h.made hR hn s r ho hf
theorem GJ{n:Nat}(h:n<=1000):n<=sizeLine:=Nat.le_trans h (by decide)
variable{ts:List T}
theorem RU(hK:W.K=X.K)(hw:W.w=X.w){es:List Expr}{k:Nat}(h:Cg X W cf mt es ts):AX X W cf mt (.Tuple es k pos) (.tup ts):=by
 refine AX.of hK hw (λ_ _=>rfl) (λρ=>by show(den cf mt (.tup ts)).b ρ=(((den cf mt (.tup ts)).v ρ).bind _).bind _;unfold den;rfl) rfl rfl ?_ (λ_=>rfl) rfl;rw[QX]
 by_cases hl:ts.length<=1000
 . refine AF (VI (Jc h)) λσ H Q z=>?_
   simp only[iP hl]at z;refine BR z λps ρ1 vs H1 o1 os1 r1 r2 r3 r4 kp ef=>?_
   obtain⟨r5,rfl⟩:=r1;obtain⟨ρ0,ef⟩:=ef;exact⟨GJ (by rw[r5.length,HD ef];exact hl),(Jk r2 r3 r4).tup r5⟩
 . exact DH λρ=>iN hl
theorem RY(hK:W.K=X.K)(hw:W.w=X.w){es:List Expr}(h:Cg X W cf mt es ts):AX X W cf mt (.List es pos) (.lst ts):=by
 refine AX.of hK hw (λ_ _=>rfl) (λρ=>by show(den cf mt (.lst ts)).b ρ=(((den cf mt (.lst ts)).v ρ).bind _).bind _;unfold den;rfl) rfl rfl ?_ (λ_=>rfl) rfl;rw[R1]
 by_cases hl:ts.length<=1000
 . refine AF (VO (Jc h)) λσ H Q z=>?_
   simp only[iP hl]at z;refine BR z λps ρ1 vs H1 o1 os1 r1 r2 r3 r4 kp ef=>?_
   obtain⟨r5,rfl⟩:=r1;obtain⟨ρ0,ef⟩:=ef;exact⟨GJ (by rw[r5.length,HD ef];exact hl),(Jk r2 r3 r4).list r5⟩
 . exact DH λρ=>iN hl
theorem SR:PE X (.Dict [] [] pos) (λ_ H Q=>∀p,H p=none->(p == sysModules)=false->Q (.ref p) (upd H p (DX p []))):=λpins s σ H Q I h=>by
 have hsm:(s.heap.objs.size == sysModules)=false:=beq_eq_false_iff_ne.mpr (Ne.symm (Nat.ne_of_lt I.big));refine wpAny_Dict_empty ⟨.ref s.heap.objs.size,_,I.laid (a:=s.heap.objs.size) (o:=DX s.heap.objs.size []) (t':=s.toks) (λ_ _ q=>gP q) (lR) ?_,rfl,h _ (I.Aj.fresh (lR)) hsm⟩;have hg:(s.heap.push {cls:=.type "dict",data:=.dict #[]}).get? s.heap.objs.size=some {cls:=.type "dict",data:=.dict #[]}:=Heap.get?_push_size _ rfl;refine⟨⟨_,hg,⟨rfl,rfl,rfl⟩,rfl⟩,⟨_,hg⟩,?_⟩
 rintro h1 h2 ⟨o,q1,q2,q3⟩ k
 exact⟨o,k o q1,q2,q3⟩
theorem S3(hK:W.K=X.K)(hw:W.w=X.w):AX X W cf mt (.Dict [] [] pos) (.AJ [] []):=by
 refine AX.of hK hw (λ_ _=>rfl) (λρ=>by show(den cf mt (.AJ [] [])).b ρ=(((den cf mt (.AJ [] [])).v ρ).bind _).bind _;unfold den;rfl) rfl rfl ?_ (λ_=>rfl) rfl;rw[show ev cf mt (.AJ [] [])=λρ=>.ok (.AJ []) ρ from funext λρ=>by show(den cf mt (.AJ [] [])).v ρ=_;unfold den;rfl];refine AF SR λσ H Q z p hp hs=>?_
 obtain⟨ρ,os,hR,hn,hA⟩:=z;have q:=Jk hR hn hA;have s:Di H (upd H p (DX p [])):=λb o e=>by rw[Au (B1 e hp)];exact e
 exact q (.ref p) _ [p] s ⟨p,rfl,⟨⟨[],AH,.nil⟩,by simp,λq hq=>(by cases hq),Nat.zero_le _,hs⟩,rfl⟩ (by simp) (λa ha=>by rw[mE ha];exact hp)
end
section
variable{cf:CF}{mt:MT}
theorem AX.at(hK:W.K=X.K)(hw:W.w=X.w){e:Expr}{t:T}(hb:∀ρ,tv cf mt t ρ=(BV t (ev cf mt t) ρ).bind λh ρ=>Res.of ((h.cont ρ).bind D2) ρ)(hi:Bp t=(.op,[t]))(v:PE X e (tG W (rV W) (ev cf mt t)))(h:PE X e (tG W (E8 W) (BV t (ev cf mt t))))
 (x:t.calm=true->PE X e (tX W t))(he:∀whole,isTrue e X.env whole=(do let v <-whole;standAt e.pos;holding [v] (truthy v)))(st:AU e=true)(nc:Cc e=false:=by rfl):AX X W cf mt e t:=by
 refine⟨v,h,GO (Px hK h he) λσ H Q z=>Lw ?_,x,st,λ_ tg=>?_,λi y py spos hN hi' hx hf=>GQ hN hi' hx v (Ed nc _ _ _) hf,λz=>(by rw[nc]at z;cases z),λu z=>?_,λu w z=>?_⟩
 . rw[show(λρ=>(BV t (ev cf mt t) ρ).bind λh ρ=>Res.of ((h.cont ρ).bind D2) ρ)=tv cf mt t from funext λρ=>(hb ρ).symm];exact z
 . rw[hi];show PI X tg e (Mx W .op (An cf mt [t]));rw[DN];exact MV hK hw h
 . rw[z]at hi;cases hi
 . rw[z]at hi;cases hi
theorem Me(i:Nat)(ρ:Env):ev cf mt (.var i) ρ=match A9 ρ i with
 |some c=>if c.cp then .ok c ρ else .ok c (ρ.set i none)
 |none=>.stuck:=rfl
variable{pos:Pos}
theorem RT(hK:W.K=X.K)(hw:W.w=X.w){i:Nat}{x:Str}(hN:X.N[i]? =some x)(hv:Zh X.env.scope x)(hd:(x == ("__debug__":Str))=false)(hcd:(x == ("__classdict__":Str))=false):AX X W cf mt (.Name x pos) (.var i):=by
 have pe:=LH (pos:=pos) hN hv hd hcd;refine AX.at hK hw (λρ=>?_) rfl (AF pe λσ H Q z=>?_) (AF pe λσ H Q z=>?_) (λ_=>AF pe λσ H Q z=>z) (λ_=>rfl) rfl
 . show(den cf mt (.var i)).b ρ=_;unfold den;rfl
 . obtain⟨ρ,os,hR,hn,hA⟩:=z;rw[Me]at hA;cases hg:A9 ρ i with
   |none=>rw[hg]at hA;exact False.elim hA
   | some c=>
     rw[hg]at hA;dsimp only at hA;split at hA
     . rename_i hc;obtain⟨v,o,q1,q2,_⟩:=hR.get hg;have:=q2.cp hc;subst this;exact⟨v,q1,hA v H [] os q2 hR hn (Bn.refl _ _)⟩
     . obtain⟨v,o,os',q1,q2,q3,q4⟩:=hR.take hg;exact⟨v,q1,hA v H o os' q2 q3 (q4.nodup_iff.mpr hn) ((Bn.refl _ _).sub λa ha=>q4.subset ha)⟩
 . obtain⟨ρ,os,hR,hn,hA⟩:=z;have hA:Ck W (E8 W σ) H os σ (if(A9 ρ i).isSome then .ok (.slot i) ρ else .stuck) Q:=hA;cases hg:A9 ρ i with
   |none=>rw[hg]at hA;exact False.elim hA
   | some c=>
     rw[hg]at hA;obtain⟨v,o,q1,q2,_⟩:=hR.get hg;exact⟨v,q1,hA v H [] os ⟨q1,rfl⟩ hR hn (Bn.refl _ _)⟩
theorem Rp{H H':Hp}(h:HM p=true)(h1:Av W H p v)(h2:Av W H' p w):v=w:=by
 cases p with
 |AG=>rw[Ak.mp h1,Ak.mp h2]
 |bl b=>rw[AA.mp h1,AA.mp h2]
 |int b=>rw[Ac.mp h1,Ac.mp h2]
 |str b=>rw[Ai.mp h1,Ai.mp h2]
 |tup _=>cases h
 |fn _=>cases h
theorem Fe(hK:W.K=X.K)(hw:W.w=X.w){e:Expr}(pe:PE X e (tC v))(hp:∀H,Av W H p v)(he:∀whole,isTrue e X.env whole=(do let v <-whole;standAt e.pos;holding [v] (truthy v)))(st:AU e=true)(nc:Cc e=false:=by rfl):AX X W cf mt e (.cst p):=by
 refine AX.at hK hw (λρ=>?_) rfl (AF pe λσ H Q z=>?_) (AF pe λσ H Q z=>?_) (λhc=>AF pe λσ H Q z=>?_) he st nc
 . show(den cf mt (.cst p)).b ρ=_;unfold den;rfl
 . obtain⟨ρ,os,hR,hn,hA⟩:=z
   have hA:Ck W (rV W σ) H os σ (.ok (.p p) ρ) Q:=by
    rw[show ev cf mt (.cst p) ρ= .ok (.p p) ρ from by show(den cf mt (.cst p)).v ρ=_;unfold den;rfl]at hA;exact hA
   exact hA v H [] os ⟨hp H,rfl⟩ hR hn (Bn.refl _ _)
 . obtain⟨ρ,os,hR,hn,hA⟩:=z
   have hA:Ck W (E8 W σ) H os σ (.ok (.BG (.p p)) ρ) Q:=by
    rw[show BV (.cst p) (ev cf mt (.cst p)) ρ= .ok (.BG (.p p)) ρ from by unfold BV ev den;rfl]at hA;exact hA
   exact hA v H [] os ⟨hp H,rfl⟩ hR hn (Bn.refl _ _)
 . obtain⟨w,⟨h1,h2⟩,q⟩:=z;have:=Rp hc (hp H) h2;subst this;exact q
theorem S2(hK:W.K=X.K)(hw:W.w=X.w){i:Nat}{x:Str}(hN:X.N[i]? =some x)(hv:Zh X.env.scope x)(hd:(x == ("__debug__":Str))=false)(hcd:(x == ("__classdict__":Str))=false):AX X W cf mt (.Attribute (.Name x p) f pos) (.fld i f):=by
 have pe:=LK (f:=f) (pos:=pos) (LH (pos:=p) hN hv hd hcd) rfl;refine AX.at hK hw (λρ=>?_) rfl (AF pe λσ H Q z=>?_) (AF pe λσ H Q z=>?_) (λhc=>AF pe λσ H Q z=>?_) (λ_=>rfl) rfl
 . show(den cf mt (.fld i f)).b ρ=_;unfold den;rfl
 . obtain⟨ρ,os,hR,hn,hA⟩:=z;rw[show ev cf mt (.fld i f) ρ=(match BE ρ i f with|some c=>if c.cp then .ok c ρ else .stuck|none=>.stuck)from by show(den cf mt (.fld i f)).v ρ=_;unfold den;rfl]at hA;cases hg:BE ρ i f with
   |none=>rw[hg]at hA;exact False.elim hA
   | some c=>
     rw[hg]at hA;dsimp only at hA;split at hA
     . rename_i hc;obtain⟨a,C,dx,fs,v,b,o',q1,q2,q3,q4,q5,rfl,q6⟩:=DU hR hg;have:o'=[]:=Bt.cp (c:=.b b) q6 hc;subst this;exact⟨.ref a,q1,a,C,dx,fs,v,rfl,q2,hK▸q3,hK▸q4,q5,hA v H [] os q6 hR hn (Bn.refl _ _)⟩
     . exact False.elim hA
 . obtain⟨ρ,os,hR,hn,hA⟩:=z;have hA:Ck W (E8 W σ) H os σ (if(BE ρ i f).isSome then .ok (.fld i f) ρ else .stuck) Q:=hA;cases hg:BE ρ i f with
   |none=>rw[hg]at hA;exact False.elim hA
   | some c=>
     rw[hg]at hA;obtain⟨a,C,dx,fs,v,b,o',q1,q2,q3,q4,q5,_,q6⟩:=DU hR hg;exact⟨.ref a,q1,a,C,dx,fs,v,rfl,q2,hK▸q3,hK▸q4,q5,hA v H [] os ⟨rfl,a,C,dx,fs,q1,q2,q5⟩ hR hn (Bn.refl _ _)⟩
 . obtain⟨v,⟨a,C,dx,fs,q1,q2,q3,q4,q5⟩,q⟩:=z;exact⟨.ref a,q1,a,C,dx,fs,v,rfl,q2,hK▸q3,hK▸q4,q5,q⟩
structure ZU(X:Cx)(W:Wd)(cf:CF)(k f:Nat):Prop where
 ex:∃fd ps,E3 X.prog X.w X.K X.mg X.base RC k (W.IA f) fd ps (OG W (cf f))/\Binds X.K fd ps []
theorem CJ{es:List Expr}(h:∀e∈es,AU e=true)(pos:Pos)(env:PySem.Env):(backTo pos (starEach es env)).any (·.1)=false:=by
 rw[Fb h];unfold backTo;rw[map_map,List.any_map];rw[List.any_eq_false];intro e _;simp
theorem AW(f:Nat)(ts:List T):ev cf mt (.call f ts)=λρ=>(An cf mt ts ρ).bind λhs ρ=>B3 cf f hs ρ:=rfl
theorem Pb(hK:W.K=X.K)(hw:W.w=X.w){k f:Nat}{es:List Expr}{ts:List T}(F:ZU X W cf k f)(hr:Cw k X.A)(hg:Gl X x)(hm:X.mg x=some (.ref (W.IA f)))(hk:keepIn X.K (.ref (W.IA f))=true)(hdb:(x == ("__debug__":Str))=false)
 (h:Cg X W cf mt es ts):AX X W cf mt (.Call (.Name x p) es [] pos) (.call f ts):=by
 obtain⟨fd,ps,F1,F2⟩:=F.ex;refine AX.of hK hw (λ_ _=>rfl) (λρ=>by show(den cf mt (.call f ts)).b ρ=(((den cf mt (.call f ts)).v ρ).bind _).bind _;unfold den;rfl) rfl rfl ?_ (λ_=>rfl) rfl;rw[AW];have pl:=h.plain;have pd:=DS h
 have conv1:∀σ H Q,tG W (rV W) (λρ=>(An cf mt ts ρ).bind λhs ρ=>B3 cf f hs ρ) σ H Q->Kb (OG W (cf f)) [] E0 (tG W (Be W) (An cf mt ts)) σ H Q:=λσ H Q z=>by
  have:=Nw (E:=E0) z;unfold Kb;simp only[append_nil];exact this
 cases es with
 | nil=>
   cases h;refine AF (PY F1 hr hg hm hk F2 .nil Ih hdb) λσ H Q z=>?_
   have z:=conv1 σ H Q z;unfold Kb at z ⊢;obtain⟨ρ,os,hR,hn,hA⟩:=z;rw[Cu]at hA;exact hA [] H [] os ⟨rfl,rfl⟩ hR hn (Bn.refl _ _)
 | cons e es=>
   exact AF (SU F1 hr hg hm hk F2 .nil Ih pd hdb (Ay (pl e mS) es _) (CJ (λe he=>pl e (mC he)) pos _)) conv1
end
section
variable{cf:CF}{mt:MT}
variable{H:Hp}
theorem FY:∀{fs:List (Str×B)} {vs:List (Str×V)} {o:List Addr},BL W H fs vs o->fs.lookup m=none->vs.lookup m=none
 |[],_,_,h,_=>by rw[h.1];rfl
 | (g,b)::fs,_,_,⟨v,r,o1,o2,e1,h1,h2,e⟩,el=>by
   subst e1;rw[lookup_cons]at el ⊢;cases hg:m == g with
   |true=>rw[hg]at el;cases el
   |false=>rw[hg]at el;exact FY h2 el
variable{F:Env->Res (List Hd)}
theorem QD{σ:L2.St}{i:Nat}{K:List V->Hp->Prop}(hs:σ[i]? =some (some v))(h:tG W (Be W) (λρ=>(F ρ).bind λhs ρ=>.ok (.slot i::hs) ρ) σ H K):tG W (Be W) F σ H λvs H1=>K (v::vs) H1:=
 BR h λa ρ1 vs H1 o1 os1 r1 r2 r3 r4 kp ef=>r4 (v::vs) H1 o1 os1 ⟨v,vs,[],o1,rfl,⟨hs,rfl⟩,r1,rfl⟩ r2 r3 (Bn.refl _ _)
variable{apos pos:Pos}
theorem N2{es:List Expr}{env:PySem.Env}(pl:∀e∈es,AU e=true)(hl:es.length < 29)(hline:(apos.endLine == pos.line)=true):eval (.Call (.Attribute (.Name x p) m apos) es [] pos) env=(do
 let ov <-eval (.Name x p) env
 standAt apos.atName
 let(f,first) <-holding [ov] (getMethod ov m (do return (<-importBound (.Name x p) env).getD true))
 callWith pos f first (backTo pos (starEach es env)) (backToKw pos (keywordEach [] env))):=by
 have Wv:methodCallForm (es.length + ([]:List Keyword).length) (backTo pos (starEach es env)) (backToKw pos (keywordEach [] env))=true:=by
  unfold methodCallForm
  have h1:(backTo pos (starEach es env)).all (!·.1)=true:=by
   rw[Fb pl];unfold backTo;rw[map_map,all_map,all_eq_true];intro e _;simp
  have h2:(backToKw pos (keywordEach [] env))=[]:=rfl;rw[h1,h2];simp
  lia
 show(do
  let ov <-attributeBase (.Name x p) m env (eval (.Name x p) env)
  standAt apos.atName
  methodCall (.Name x p) m apos pos env ov (es.length + ([]:List Keyword).length) (backTo pos (starEach es env)) (backToKw pos (keywordEach [] env)))=_
 have hb:attributeBase (.Name x p) m env (eval (.Name x p) env)=eval (.Name x p) env:=rfl;rw[hb];unfold methodCall calleeOf methodCallPos;rw[Wv,hline];simp only[Bool.not_true,Bool.false_or,if_true,pure_bind]
theorem Ng(m:Str)(i:Nat)(ts:List T)(ρ:Env):ev cf mt (.Bs m (.var i) ts) ρ=match A9 ρ i with
 | some (.obj c fs)=>match fs.lookup m,mt.m c m with
   |none,some f=>(An cf mt ts ρ).bind λhs ρ=>B3 cf f (.slot i::hs) ρ
   |_,_=>.stuck
 |_=>.stuck:=rfl
structure bx(X:Cx)(W:Wd)(cf:CF)(mt:MT)(k:Nat):Prop where
 Yz:∀c m f,mt.m c m=some f->JZ X.K (W.FJ c)/\(m≠Str.ofString "__init__"->Meth X.K (W.FJ c) m (W.IA f))/\ZU X W cf k f
variable{ts:List T}
theorem P6(hK:W.K=X.K)(hw:W.w=X.w){k:Nat}(M:bx X W cf mt k)(hr:Cw k X.A){i:Nat}{m:Str}{es:List Expr}(hx:PE X (.Name x p) (K9 i))(hni:m≠Str.ofString "__init__")(hl:es.length < 29)(hline:(apos.endLine == pos.line)=true)
 (h:Cg X W cf mt es ts):AX X W cf mt (.Call (.Attribute (.Name x p) m apos) es [] pos) (.Bs m (.var i) ts):=by
 refine AX.of hK hw (λ_ _=>rfl) (λρ=>by show(den cf mt (.Bs m (.var i) ts)).b ρ=(((den cf mt (.Bs m (.var i) ts)).v ρ).bind _).bind _;unfold den;rfl) rfl rfl ?_ (λ_=>rfl) rfl;have pl:=h.plain;have pd:=DS h;intro pins s σ H Q I z;obtain⟨ρ,os,hR,hn,hA⟩:=z;rw[Ng]at hA;cases hg:A9 ρ i with
 |none=>rw[hg]at hA;exact False.elim hA
 | some d=>
   rw[hg]at hA;cases d with
   |b x=>exact False.elim hA
   | obj c fs=>
     dsimp only at hA;cases hl1:fs.lookup m with
     |some y=>rw[hl1]at hA;exact False.elim hA
     | none=>
       cases hl2:mt.m c m with
       |none=>rw[hl1,hl2]at hA;exact False.elim hA
       | some f=>
         rw[hl1,hl2]at hA;dsimp only at hA;obtain⟨v,o,q1,q2,_⟩:=hR.get hg;obtain⟨a,dx,vs,osf,rfl,q3,q4,_,q5⟩:=q2;obtain⟨M1,M2,F⟩:=M.Yz c m f hl2;obtain⟨fd,ps,F1,F2⟩:=F.ex
         have key:tG W (Be W) (An cf mt ts) σ H λvs H2=>OG W (cf f) (.ref a::vs) H2 Q E0:=by
          refine QD (i:=i) q1 (Nw ⟨ρ,os,hR,hn,?_⟩);show Ck W (rV W σ) H os σ (((An cf mt ts ρ).bind λhs ρ=>.ok (.slot i::hs) ρ).bind λhs ρ=>B3 cf f hs ρ) Q;cases e1:An cf mt ts ρ with
          |stuck=>rw[e1]at hA;exact hA
          |ok hs ρ'=>rw[e1]at hA;exact hA
         cases es with
         | nil=>
           cases h;refine PQ hx M1 (M2 hni) F1 hr F2 .nil Ih (N2 pl hl hline) pins s σ H Q I ⟨.ref a,q1,a,dx,vs,rfl,q3,FY q4 hl1,?_⟩;obtain⟨ρ',os',hR',hn',hA'⟩:=key;rw[Cu]at hA';exact hA' [] H [] os' ⟨rfl,rfl⟩ hR' hn' (Bn.refl _ _)
         | cons e es=>
           refine SN hx M1 (M2 hni) F1 hr F2 .nil Ih pd (Ay (pl e mS) es _) (CJ (λe he=>pl e (mC he)) pos _) (N2 pl hl hline) pins s σ H Q I ⟨.ref a,q1,a,dx,vs,rfl,q3,FY q4 hl1,?_⟩;simp only[append_nil];exact key
theorem Ta{f c:Nat}{σ:L2.St}{Q:VK}{E:XK}(hC:JZ W.K (W.FJ c))(h:tG W (rV W) (λρ=>(F ρ).bind λhs ρ=>Hc cf f c hs ρ) σ H Q):
 tG W (Be W) F σ H λvs H1=>∀x dx,H1 x=none->H1 dx=none->dx≠x->OG W (cf f) (.ref x::vs) (upd (upd H1 dx (.own x)) x (.ins (W.FJ c) dx [])) (λv H2=>v= .AG/\Q (.ref x) H2) E:=by
 refine BR h λhs ρ1 vs H1 o1 os1 h1 h2 h3 hA _ _=>?_
 intro x dx hx hdx hne;unfold Hc at hA;cases ec:AB ρ1 hs with
 |none=>rw[ec]at hA;exact False.elim hA
 | some cs =>
   rw[ec]at hA;dsimp only at hA;split at hA
   case isFalse=>exact False.elim hA
   rename_i hg;cases ecf:cf f (.obj c []::cs)with
   |stuck=>rw[ecf]at hA;exact False.elim hA
   | ok rc outs0=>
     rw[ecf]at hA
     obtain ⟨s,outs,rfl,rfl,hB⟩:∃s outs,rc= .p .AG/\outs0=some s::outs/\Ck W (rV W σ) H1 (o1++os1) σ ((Res.of (back (lend ρ1 hs cs) hs cs outs) ρ1).bind λρ' _=>.ok s ρ') Q:=by
      cases rc with
      |obj _ _=>exact False.elim hA
      | b y =>
        cases y with
        | p y =>
          cases y with
          | AG=>
            cases outs0 with
            |nil=>exact False.elim hA
            | cons a outs=>
              cases a with
              |none=>exact False.elim hA
              |some s=>exact⟨s,outs,rfl,rfl,hA⟩
          |_=>exact False.elim hA
        |_=>exact False.elim hA
     cases eb:back (lend ρ1 hs cs) hs cs outs with
     |none=>rw[eb]at hB;exact False.elim hB
     | some ρ2=>
       rw[eb]at hB;have hA:∀v H' o os',Bt W H' s v o->Ab W H' ρ2 σ os'->(o++os').Nodup->Bn H1 H' (o1++os1) (o++os')->Q v H':=hB;obtain⟨oa,or_,q1,q2,q3⟩:=Ft h2 h1 ec hg.2 hg.1 (λ_ _=>rfl) h2;have q2:Ab W H1 (lend ρ1 hs cs) σ or_:=q2;have na:=q3.nodup_iff.mpr h3;have na':=nA na;generalize hH2:upd (upd H1 dx (.own x)) x (.ins (W.FJ c) dx [])=H2
       have sm:Di H1 H2:=λb o e=>by
        rw[<-hH2,Au (B1 e hx),Au (B1 e hdx)];exact e
       have hx2:H2 x=some (.ins (W.FJ c) dx []):=by rw[<-hH2];exact AH
       have xa:x∉oa:=λz=>by
        obtain⟨y,e,_⟩:=q1.own x z;rw[hx]at e;cases e
       have xr:x∉or_:=λz=>by
        obtain⟨y,e,_⟩:=q2.own x z;rw[hx]at e;cases e
       refine⟨.obj c []::cs,x::oa,⟨.ref x,vs.map some,[x],oa,rfl,⟨x,dx,[],[],rfl,hx2,⟨rfl,rfl⟩,rfl,hC,λq hq=>by cases hq⟩,q1.same sm,rfl⟩,nodup_cons.mpr ⟨xa,na'.1⟩,?_⟩;rw[ecf];intro v H' o oos r1 r2 r3 r4;have r1:Bt W H' (.p .AG) v o:=r1;obtain⟨r5,rfl⟩:=r1;refine⟨Ak.mp r5,?_⟩;obtain⟨v',r',os_,oos2,e1,s1,s2,rfl⟩:=r2;cases e1
       have own2:∀a∈x::oa,∃y,H2 a=some y/\Mu y:=λa ha=>by
        rcases mK ha with z|z
        . rw[z];exact⟨_,hx2,λ_ z=>HO.noConfusion z,λ_ _ z=>HO.noConfusion z⟩
        . obtain⟨y,e,m⟩:=q1.own a z;exact⟨y,sm _ _ e,m⟩
       have k1:Bm H2 H':=r4.but.keep own2
       have dis:∀a∈or_,a∉x::oa:=λa ha z=>by
        rcases mK z with y|y
        . exact xr (y▸ha)
        . exact na'.2.2 a y a ha rfl
       have q2':Ab W H' (lend ρ1 hs cs) σ or_:=(q2.same sm).frame k1 r4.but dis;have r3:(os_++oos2).Nodup:=r3;have r3':=nA r3;have r4:Bn H2 H' (x::oa) (os_++oos2):=r4
       have ndo:∀a∈os_++oos2,a∉or_:=λa ha z=>by
        rcases r4.src a ha with y|y
        . exact dis a z y
        . obtain⟨b,eb,_⟩:=q2.own a z;rw[sm _ _ eb]at y;cases y
       obtain⟨os',t1,t2,t3⟩:=FK (ρ0:=ρ1) h1 eb s2 q2' (by
        rw[nodup_append]
        exact⟨r3'.2.1,na'.2.1,λa ha b hb z=>ndo a (mR ha) (z▸hb)⟩) hg.1 λj hj=>⟨Dc hj,by
         show j < ((Cp hs cs).foldl _ ρ1).length;rw[DB]
         exact Jo ec hg.2 j hj⟩
       refine hA (.ref x) H' os_ os' s1 t1 ?_ ?_
       . rw[nodup_append];refine⟨r3'.1,t2,λa ha b hb z=>?_⟩;subst z;rcases mem_append.mp (t3 a hb)with y|y
         . exact r3'.2.2 a ha a y rfl
         . exact ndo a (mL ha) y
       . have f0:Bn H1 H2 (o1++os1) (or_++(x::oa)):=Bn.of sm λa ha=>by
          rcases mem_append.mp ha with z|z
          . exact .inl (q3.subset (mR z))
          . rcases mK z with y|y
            . rw[y];exact .inr hx
            . exact .inl (q3.subset (mL y))
         refine(f0.trans (r4.more or_)).sub λa ha=>?_
         rcases mem_append.mp ha with z|z
         . exact mR (mL z)
         . rcases mem_append.mp (t3 a z)with y|y
           . exact mR (mR y)
           . exact mL y
theorem JE(c:Nat)(ts:List T)(ρ:Env):ev cf mt (.make c ts) ρ=match mt.m c (Str.ofString "__init__")with
 |some f=>(An cf mt ts ρ).bind λhs ρ=>Hc cf f c hs ρ
 |none=>.stuck:=rfl
theorem P7(hK:W.K=X.K)(hw:W.w=X.w){k c:Nat}(M:bx X W cf mt k)(hr:Cw (k + 1) X.A){es:List Expr}(hg:Gl X x)(hm:X.mg x=some (.ref (W.FJ c)))(hmk:∀f,mt.m c (Str.ofString "__init__")=some f->Mk X.K (W.FJ c) (W.IA f))(hdb:(x == ("__debug__":Str))=false)
 (h:Cg X W cf mt es ts):AX X W cf mt (.Call (.Name x p) es [] pos) (.make c ts):=by
 refine AX.of hK hw (λ_ _=>rfl) (λρ=>by show(den cf mt (.make c ts)).b ρ=(((den cf mt (.make c ts)).v ρ).bind _).bind _;unfold den;rfl) rfl rfl ?_ (λ_=>rfl) rfl;have pl:=h.plain;have pd:=DS h;rw[show ev cf mt (.make c ts)=_ from funext λρ=>JE c ts ρ];cases hf:mt.m c (Str.ofString "__init__")with
 |none=>exact DH λρ=>rfl
 | some f=>
   obtain⟨M1,_,F⟩:=M.Yz c _ f hf;obtain⟨fd,ps,F1,F2⟩:=F.ex
   have conv1:∀σ H Q,tG W (rV W) (λρ=>(An cf mt ts ρ).bind λhs ρ=>Hc cf f c hs ρ) σ H Q->Ka (W.FJ c) (OG W (cf f)) [] E0 (tG W (Be W) (An cf mt ts)) σ H Q:=λσ H Q z=>by
    have:=Ta (E:=E0) (hK▸M1) z;unfold Ka;simp only[append_nil];exact this
   cases es with
   | nil=>
     cases h;refine AF (PR (hmk f hf) F1 hr hg hm F2 .nil Ih hdb) λσ H Q z=>?_
     have z:=conv1 σ H Q z;unfold Ka at z ⊢;obtain⟨ρ,os,hR,hn,hA⟩:=z;rw[Cu]at hA;exact hA [] H [] os ⟨rfl,rfl⟩ hR hn (Bn.refl _ _)
   | cons e es=>
     exact AF (SO (hmk f hf) F1 hr hg hm F2 .nil Ih pd hdb (Ay (pl e mS) es _) (CJ (λe he=>pl e (mC he)) pos _)) conv1
end
section
variable{cf:CF}{mt:MT}
variable{H:Hp}
theorem N1{m:MO}{r:V->List V->Hp->VK->Prop}(hM:JW W m r){σ:L2.St}{os o1:List Addr}{hs:List Hd}{vs:List V}{Q:VK}(hR:Ab W H ρ σ os)(hn:(o1++os).Nodup)(hh:E8 W σ H ρ h (.ref a) [])(h1:Be W σ H ρ hs vs o1)
 (hp:∀c,h≠.BG c)(hA:Ck W (rV W σ) H (o1++os) σ (Jl m h hs ρ) Q):r (.ref a) vs H Q:=by
 unfold Jl at hA;cases ec:h.cont ρ with
 |none=>rw[ec]at hA;exact False.elim hA
 | some d=>
   cases ed:AB ρ hs with
   |none=>rw[ec,ed]at hA;cases d<;>exact False.elim hA
   | some cs =>
     rw[ec,ed]at hA;cases d with
     |obj _ _=>exact False.elim hA
     | b b =>
       dsimp only at hA;split at hA
       case isFalse=>exact False.elim hA
       cases es:CL m b cs with
       |none=>rw[es]at hA;exact False.elim hA
       | some q=>
         obtain⟨c,b'⟩:=q;rw[es]at hA;dsimp only at hA;cases e2:setB ρ h b' with
         |none=>rw[e2]at hA;exact False.elim hA
         | some ρ'=>
           rw[e2]at hA;have hA:∀v H' o os',Bt W H' c v o->Ab W H' ρ' σ os'->(o++os').Nodup->Bn H (H') (o1++os) (o++os')->Q v H':=hA
           have nb:C.cp (.b b)=false:=by
            cases b with
            |lst _=>rfl
            |AJ _=>rfl
            |p _=>exact absurd es (by unfold CL;exact nofun)
            |ro _=>exact absurd es (by unfold CL;exact nofun)
           have hb:C4 W H b (.ref a) [a]:=by
            cases h with
            |BG c=>exact absurd rfl (hp c)
            | slot i=>
              obtain⟨v,o,q1,q2,_⟩:=hR.get (show A9 ρ i=some (.b b)from ec);rw[hh.1]at q1;cases q1;have:=C4.addr q2 nb;subst this;exact q2
            | fld i f=>
              obtain⟨a0,C,dx,fs,v,b0,o',q1,q2,_,_,q5,eb,q6⟩:=DU hR (show BE ρ i f=some (.b b)from ec);cases eb;obtain⟨_,a1,C1,dx1,fs1,g1,g2,g3⟩:=hh;rw[g1]at q1;cases q1;rw[g2]at q2;cases q2;rw[g3]at q5;cases q5;have:=C4.addr q6 nb;subst this;exact q6
           refine hM H a b b' cs c vs Q hb nb (DO hR h1 ed) es λv x' hb' k rc=>?_
           obtain⟨os',t1,t2,t3⟩:=I0 hR (nA hn).2.1 ec hh nb hb' k e2;exact hA v _ [] os' rc t1 (t2.nodup_iff.mpr (nA hn).2.1) (t3.weak λa ha=>mR ha)
theorem R0(m:MO)(o:T)(ts:List T)(ρ:Env):ev cf mt (.F4 m o ts) ρ=match placeOf o with
 |some h=>if m.ok && Wq (h.cont ρ) && (!h.CQ || ts.all T.calm)then(An cf mt ts ρ).bind λhs ρ=>Jl m h hs ρ else .stuck
 |none=>.stuck:=rfl
inductive OE(X:Cx)(W:Wd):Expr->T->TE->Prop where
 |nm {x:Str} {p:Pos} {i:Nat} (h:PE X (.Name x p) (K9 i)):OE X W (.Name x p) (.var i) (K9 i)
 |fl {x f:Str} {p q:Pos} {i:Nat} (h:PE X (.Attribute (.Name x p) f q) (Vj X.K (K9 i) f)):OE X W (.Attribute (.Name x p) f q) (.fld i f) (Vj X.K (K9 i) f)
variable{to:TE}
theorem OE.pe(h:OE X W e o to):PE X e to:=by cases h<;>assumption
theorem OE.base(h:OE X W e o to)(m:Str)(env:PySem.Env):attributeBase e m env (eval e env)=eval e env:=by cases h<;>rfl
theorem MZ(hK:W.K=X.K){m:MO}{r:V->List V->Hp->VK->Prop}(hM:JW W m r)(hr:OE X W e o to){es:List Expr}{ts:List T}(h:Cg X W cf mt es ts){σ:L2.St}{Q:VK}(z:tG W (rV W) (ev cf mt (.F4 m o ts)) σ H Q):
 to σ H λx H1=>Zo X.K "list" x H1/\(if ts.all T.calm=true then OZ W ts else tG W (Be W) (An cf mt ts)) σ H1 λxs H2=>r x xs H2 Q:=by
 obtain⟨ρ,os,hR,hn,hA⟩:=z;rw[R0]at hA
 have fin:∀(h:Hd) (a:Addr),(∀c,h≠.BG c)->E8 W σ H ρ h (.ref a) []->(h.CQ=true->ts.all T.calm=true)->(∀H1 ρ1,h.CQ=false->E8 W σ H1 ρ1 h (.ref a) [])->Ck W (rV W σ) H os σ ((An cf mt ts ρ).bind λhs ρ=>Jl m h hs ρ) Q->
  (if ts.all T.calm=true then OZ W ts else tG W (Be W) (An cf mt ts)) σ H λxs H2=>r (.ref a) xs H2 Q:=by
  intro h a hp hh hc hst hA;split
  . rename_i hcalm;rcases Ey (cf:=cf) (mt:=mt) hcalm hR with⟨hs,e1,q⟩|e1
    . rw[e1,Res.A5]at hA;exact q _ λvs hv=>N1 (o1:=[]) hM hR hn hh hv hp hA
    . rw[e1]at hA;exact False.elim hA
  . rename_i hcalm
    have hnf:h.CQ=false:=by
     cases e:h.CQ with
     |false=>rfl
     |true=>exact absurd (hc e) hcalm
    exact BR (rep':=rV W) (G:=λhs ρ=>Jl m h hs ρ) (Q:=Q) ⟨ρ,os,hR,hn,hA⟩ λhs ρ1 vs H1 o1 os1 r1 r2 r3 r4 _ _=>N1 hM r2 r3 (hst H1 ρ1 hnf) r1 hp r4
 cases hr with
 | @nm x p i hx=>
   have hA:Ck W (rV W σ) H os σ (if(m.ok && Wq (A9 ρ i) && (!false || ts.all T.calm))=true then(An cf mt ts ρ).bind λhs ρ=>Jl m (.slot i) hs ρ else .stuck) Q:=hA;split at hA
   case isFalse=>exact False.elim hA
   rename_i hc;rw[bA,bA]at hc;cases hg:A9 ρ i with
   |none=>rw[hg]at hc;exact absurd hc.1.2 (by decide)
   | some d=>
     rw[hg]at hc;unfold Wq at hc;split at hc
     . rename_i ps hd;cases hd;obtain⟨v,o,q1,q2,_⟩:=hR.get hg;obtain⟨a,vs,rfl,q3,q4,rfl⟩:=q2;exact⟨.ref a,q1,.inl ⟨rfl,vs,Dt.of q3⟩,fin (.slot i) a (λc z=>by cases z) ⟨q1,rfl⟩ (λz=>by cases z) (λ_ _ _=>⟨q1,rfl⟩) hA⟩
     . exact absurd hc.1.2 (by decide)
 | @fl x f p q i hx=>
   have hA:Ck W (rV W σ) H os σ (if(m.ok && Wq (BE ρ i f) && (!true || ts.all T.calm))=true then(An cf mt ts ρ).bind λhs ρ=>Jl m (.fld i f) hs ρ else .stuck) Q:=hA;split at hA
   case isFalse=>exact False.elim hA
   rename_i hc;rw[bA,bA]at hc;cases hg:BE ρ i f with
   |none=>rw[hg]at hc;exact absurd hc.1.2 (by decide)
   | some d=>
     rw[hg]at hc;unfold Wq at hc;split at hc
     . rename_i ps hd;cases hd;obtain⟨a0,C,dx,fs,v,b0,o',q1,q2,c1,c2,q5,eb,q6⟩:=DU hR hg;cases eb;obtain⟨a,vs,rfl,q3,q4,rfl⟩:=q6;exact⟨.ref a0,q1,a0,C,dx,fs,.ref a,rfl,q2,hK▸c1,hK▸c2,q5,.inl ⟨rfl,vs,Dt.of q3⟩,fin (.fld i f) a (λc z=>by cases z) ⟨rfl,a0,C,dx,fs,q1,q2,q5⟩ (λ_=>by simpa using hc.2) (λ_ _ z=>by cases z) hA⟩
     . exact absurd hc.1.2 (by decide)
theorem Qc(m:MO)(o:T)(ts:List T)(ρ:Env):tv cf mt (.F4 m o ts) ρ=((ev cf mt (.F4 m o ts) ρ).bind λc ρ=>.ok (Hd.BG c) ρ).bind λh ρ=>Res.of ((h.cont ρ).bind D2) ρ:=rfl
variable{id:String}{apos cpos:Pos}
theorem Kf(hK:W.K=X.K)(hw:W.w=X.w){m:MO}{name:Str}{r:V->List V->Hp->VK->Prop}(hM:JW W m r)(slot:Slot "list" name id)(hty:typeOf (.builtin id)=pure (.type "method_descriptor"))(hm:Xu X id r)(hr:OE X W e o to)(hline:(apos.endLine == cpos.line)=true):
 AX X W cf mt (.Call (.Attribute e name apos) [] [] cpos) (.F4 m o []):=by
 refine AX.of hK hw (λ_ _=>rfl) (Qc m o []) rfl rfl (AF (VR PySem.F.plainAttrs_list slot hty hm hr.pe (hr.base name _) hline) λσ H Q z=>?_) (λ_=>rfl) rfl;exact MZ hK hM hr .nil z
theorem Ke(hK:W.K=X.K)(hw:W.w=X.w){m:MO}{name:Str}{r:V->List V->Hp->VK->Prop}(hM:JW W m r)(slot:Slot "list" name id)(hty:typeOf (.builtin id)=pure (.type "method_descriptor"))(hm:Xu X id r)(hr:OE X W e o to)(hline:(apos.endLine == cpos.line)=true)
 (h:AX X W cf mt a x):AX X W cf mt (.Call (.Attribute e name apos) [a] [] cpos) (.F4 m o [x]):=by
 have hs:Cg X W cf mt [a] [x]:=.cons h .nil;have st:starEach [a] X.env=[(false,eval a X.env)]:=Ay h.st [] X.env
 have Wv:((backTo cpos (starEach [a] X.env)).all (λx=>!x.1) && (backToKw cpos (keywordEach [] X.env)).all (λx=>x.1.isSome)
  && decide (([a]:List Expr).length + ([]:List Keyword).length + (if([]:List Keyword).isEmpty then 0 else 1) < 30))=true:=by rw[st];rfl
 have pa:PA X [a] (if[x].all T.calm=true then OZ W [x]else tG W (Be W) (An cf mt [x])):=by
  split
  . rename_i hc;obtain⟨tes,h1,h2⟩:=E1 hs hc;rw[h2];exact Fm h1
  . exact DS hs
 exact AX.of hK hw (λ_ _=>rfl) (Qc m o [x]) rfl rfl (AF (Yc PySem.F.plainAttrs_list slot hty hm hr.pe pa (hr.base name _) Wv hline st rfl) λσ H Q z=>MZ hK hM hr hs z) (λ_=>rfl) rfl
theorem LR:JW W .extend MM:=Gw λH a ps xs b' cs c vs Q h1 h2 hv e q=>by
 have e:Fs ps cs=some (c,b'):=e;unfold Fs at e;split at e
 . rename_i zs;split at e
   . rename_i hl;cases e;obtain⟨v,rfl,b,ws,rfl,s1,r1⟩:=Cb hv;have k:=Fv (x':=.lst (xs++ws)) h1;refine⟨a,b,xs,ws,rfl,rfl,h1,s1,by rw[h2.length,r1.length];exact Nat.le_trans hl C3,?_⟩;exact q .AG (.lst (xs++ws)) ⟨a,xs++ws,rfl,AH,A7.append (r1.mono k) (h2.mono k),rfl⟩ k ⟨Ak.mpr rfl,rfl⟩
   . cases e
 . cases e
end
theorem WV:bootBuiltins "len"=some (.builtin "len"):=rfl
theorem WW:bootBuiltins "isinstance"=some (.builtin "isinstance"):=rfl
theorem WU:bootBuiltins "min"=some (.builtin "min"):=rfl
theorem WS:bootBuiltins "sum"=some (.builtin "sum"):=rfl
theorem WY:bootBuiltins "all"=some (.builtin "all"):=rfl
theorem OA:bootBuiltins "sorted"=some (.builtin "sorted"):=rfl
theorem Ny:bootBuiltins "list"=some (.type "list"):=rfl
theorem Le:bootBuiltins "tuple"=some (.type "tuple"):=rfl
theorem WX:bootBuiltins "int"=some (.type "int"):=rfl
theorem Uk:bootBuiltins "bool"=some (.type "bool"):=rfl
theorem WT:bootBuiltins "str"=some (.type "str"):=rfl
theorem Uj:bootBuiltins "dict"=some (.type "dict"):=rfl
section
variable{cf:CF}{mt:MT}
theorem HF:∀{ts:List T} {ρ ρ':Env} {hs:List Hd},An cf mt ts ρ= .ok hs ρ'->hs.length=ts.length
 |[],ρ,ρ',hs,e=>by rw[Cu]at e;cases e;rfl
 | t ::ts,ρ,ρ',hs,e=>by
   rw[BO]at e;cases e1:BV t (ev cf mt t) ρ with
   |stuck=>rw[e1]at e;cases e
   | ok h ρ2=>
     rw[e1,Res.A5]at e
     have fin:∀(h:Hd),((An cf mt ts ρ2).bind λhs ρ=>.ok (h::hs) ρ)= .ok hs ρ'->hs.length=(t::ts).length:=λh e=>by
      cases e2:An cf mt ts ρ2 with
      |stuck=>rw[e2]at e;cases e
      | ok gs ρ3=>
        rw[e2]at e;cases e;rw[lC,lC,HF e2]
     cases h with
     |BG c=>exact fin _ e
     |slot i=>exact fin _ e
     | fld i f=>
       dsimp only at e;split at e
       . exact fin _ e
       . cases e
variable{ts:List T}{H:Hp}
theorem GR{o:O}(Aj:o.ok=true){σ:L2.St}{Q:VK}(h:tG W (rV W) (ev cf mt (.prim o ts)) σ H Q):tG W (Be W) (An cf mt ts) σ H λvs H1=>vs.length=ts.length/\B5 W (Aa o) vs H1 Q:=by
 refine GA (λρ hs ρ' e=>HF e) (UK ?_)
 rw[show ev cf mt (.prim o ts)=λρ=>(An cf mt ts ρ).bind λhs ρ=>Res.of ((AB ρ hs).bind (Aa o)) ρ from funext λρ=>by
   show(den cf mt (.prim o ts)).v ρ=_
   conv=>lhs;unfold den
   show(if o.ok=true then _ else _)=_
   rw[iP Aj]]at h
 exact h
theorem ML{g g':List C->Option C}{n:Nat}(hg:∀cs,cs.length=n->g cs=g' cs){vs:List V}{Q:VK}(h:vs.length=n/\B5 W g vs H Q):B5 W g' vs H Q:=by
 obtain⟨hl,cs,c,h1,h2,h3⟩:=h;exact⟨cs,c,h1,by rw[<-hg cs (by rw[<-h1.length];exact hl)];exact h2,h3⟩
variable{id:String}{pos:Pos}
theorem Ki(hK:W.K=X.K)(hw:W.w=X.w){o:O}(Aj:o.ok=true){g:List C->Option C}(hc:B4 X (.builtin id) (B5 W g)){e:Expr}{es:List Expr}(hg':∀cs,cs.length=ts.length->Aa o cs=g cs)(hv:bootBuiltins x=some (.builtin id))
 (hg:Gl X x)(hm:X.mg x=none)(hn:x≠"__name__")(hdb:(x == ("__debug__":Str))=false)(hi:Bp (.prim o ts)=(.op,[.prim o ts]))(h:Cg X W cf mt (e::es) ts):AX X W cf mt (.Call (.Name x p) (e::es) [] pos) (.prim o ts):=by
 have pl:=h.plain;exact AX.of hK hw Bw BU rfl hi (AF (Kr (B4.imp hc λxs H Q z=>ML hg' z) hg hm hv (DS h) hn hdb (Ay (pl e mS) es _) (CJ (λe he=>pl e (mC he)) pos _)) λσ H Q z=>GR Aj z) (λ_=>rfl) rfl
theorem UH(hK:W.K=X.K)(hw:W.w=X.w){o:O}(Aj:o.ok=true){g:List C->Option C}(hc:B4 X (.type id) (B5 W g)){e:Expr}{es:List Expr}(hg':∀cs,cs.length=ts.length->Aa o cs=g cs)(hv:bootBuiltins x=some (.type id))
 (hg:Gl X x)(hm:X.mg x=none)(hn:x≠"__name__")(hdb:(x == ("__debug__":Str))=false)(hi:Bp (.prim o ts)=(.op,[.prim o ts]))(h:Cg X W cf mt (e::es) ts):AX X W cf mt (.Call (.Name x p) (e::es) [] pos) (.prim o ts):=by
 have pl:=h.plain;exact AX.of hK hw Bw BU rfl hi (AF (O6 (B4.imp hc λxs H Q z=>ML hg' z) hg hm hv (DS h) hn hdb (Ay (pl e mS) es _) (CJ (λe he=>pl e (mC he)) pos _)) λσ H Q z=>GR Aj z) (λ_=>rfl) rfl
theorem FW{f:List C->Option C}{g:C->Option C}(h:∀c,f [c]=g c):∀cs:List C,cs.length=1->f cs=Gv g cs:=λcs hl=>by
 obtain⟨c,rfl⟩:=Qn hl;exact h c
theorem W4{f:List C->Option C}{g:C->C->Option C}(h:∀c d,f [c,d]=g c d):∀cs:List C,cs.length=2->f cs=Lk g cs:=λcs hl=>by
 obtain⟨c,d,rfl⟩:=Qm hl;exact h c d
theorem WI(hK:W.K=X.K)(hc:X.calm=true):B4 X (.type "list") (B5 W (Gv λc=>(NQ c).map .lst)):=by
 refine B4.imp (B4.or (Rl hK) (Ug (W:=W) hc)) λxs H Q z=>?_
 obtain⟨x,c,r,rfl,h1,h2,h3⟩:=CV z;obtain⟨ps,e1,rfl⟩:=oM h2;have go:∀{g:C->Option C},g c=some (.lst ps)->B5 W (Gv g) [x] H Q:=λe=>⟨[c],_,⟨x,[],rfl,h1,rfl⟩,e,h3⟩
 unfold NQ at e1;split at e1
 . rename_i qs hn;cases e1;exact .inl (go (by show(E5 c).map C.lst=_;unfold E5;rw[hn];rfl))
 . rename_i qs hn;cases e1;exact .inl (go (by show(E5 c).map C.lst=_;unfold E5;rw[hn];rfl))
 . rename_i kvs hn;cases e1;have:=Jj hn;subst this;exact .inr (go rfl)
 . cases e1
theorem RZ(hK:W.K=X.K)(hw:W.w=X.w){t:Ty}(ht:∀cs,t≠.cls cs)(hy:bootBuiltins y=some (.type (My t)))(hgy:Gl X y)(hmy:X.mg y=none)(hny:y≠"__name__")(hdy:(y == ("__debug__":Str))=false)
 (hg:Gl X "isinstance")(hm:X.mg "isinstance"=none){p:Pos}(h:AX X W cf mt a x):AX X W cf mt (.Call (.Name "isinstance" p) [a,.Name y q] [] pos) (.prim (.Js t) [x]):=by
 obtain⟨ta,q1,q2,m1⟩:=Q7 h;have Aj:(O.Js t).ok=true:=by cases t<;>first|rfl|exact absurd rfl (ht _)
 have pa:PA X [a,.Name y q] (D3 ta (D3 (tC (.ty (My t))) FO)):=DT q1 (DT (SV hgy hmy hy rfl hny hdy) FU (Ay rfl [] _)) (Ay h.st _ _);refine AX.of hK hw Bw BU rfl rfl (AF (Kr (Z6 hK hw t ht) hg hm WW pa (by decide) (by decide) (Ay h.st _ _) (CJ (λe he=>by rw[mE he];rfl) pos _)) λσ H Q z=>?_) (λ_=>rfl) rfl;have z:=CM Aj z;rw[q2]at z;refine m1 _ _ _ _ z λu H1 z=>?_
 obtain⟨c,r,g1,g2,g3⟩:=GN (g:=Aa (.Js t)) (g1:=λc=>(Cm t c).map λb=>.p (.bl b)) (λ_=>rfl) z;obtain⟨b,e1,rfl⟩:=oM g2;exact⟨u,c,b,rfl,g1,e1,g3.bl⟩
theorem Kh(hK:W.K=X.K)(hw:W.w=X.w)(hc:X.calm=true)(hg:Gl X "list")(hm:X.mg "list"=none){p q:Pos}(hg2:Gl X "reversed")(hm2:X.mg "reversed"=none)(hl:PE X l (tG W (E8 W) (BV u (ev cf mt u))))(st:AU l=true):
 AX X W cf mt (.Call (.Name "list" p) [.Call (.Name "reversed" q) [l] [] p2] [] pos) (.prim (.list .rev) [u]):=by
 refine AX.of hK hw Bw BU rfl rfl (λpins s σ H Q I z=>?_) (λ_=>rfl) rfl;have hs2:starEach [l] X.env=[(false,eval l X.env)]:=Ay st [] X.env;have hs1:starEach [.Call (.Name "reversed" q) [l] [] p2] X.env=[(false,eval (.Call (.Name "reversed" q) [l] [] p2) X.env)]:=rfl;obtain⟨ρ,os,hR,hn,hA⟩:=z
 have hA:Ck W (rV W σ) H os σ ((An cf mt [u] ρ).bind λhs ρ=>Res.of ((AB ρ hs).bind (Aa (.list .rev))) ρ) Q:=by
  rw[show ev cf mt (.prim (.list .rev) [u]) ρ=(An cf mt [u] ρ).bind λhs ρ=>Res.of ((AB ρ hs).bind (Aa (.list .rev))) ρ from by
    show(den cf mt (.prim (.list .rev) [u])).v ρ=_
    conv=>lhs;unfold den
    rfl]at hA
  exact hA
 rw[L3]at hA;cases eF:BV u (ev cf mt u) ρ with
 |stuck=>rw[eF]at hA;exact False.elim hA
 | ok h ρ1=>
   rw[eF]at hA;have hA:Ck W (rV W σ) H os σ (Res.of ((AB ρ1 [h]).bind (Aa (.list .rev))) ρ1) Q:=hA
   have ec0:AB ρ1 [h]=(h.cont ρ1).map λc=>[c]:=by
    show((h.cont ρ1).bind λc=>(AB ρ1 []).map (c::·))=_;cases h.cont ρ1<;>rfl
   rw[ec0]at hA;cases ec:h.cont ρ1 with
   |none=>rw[ec]at hA;exact False.elim hA
   | some c=>
     rw[ec]at hA;have hA:Ck W (rV W σ) H os σ (Res.of ((Gk c).map λx=>.lst x.reverse) ρ1) Q:=hA;cases es:Gk c with
     |none=>rw[es]at hA;exact False.elim hA
     | some ps=>
       rw[es]at hA;have hA:Ck W (rV W σ) H os σ (.ok (.lst ps.reverse) ρ1) Q:=hA
       have:c= .p (.tup ps):=by
        unfold Gk at es;split at es
        . cases es;rfl
        . cases es
       subst this;refine LJ hc hg hm hg2 hm2 hl hs2 hs1 pins s σ H Q I ⟨ρ,os,hR,hn,?_⟩;rw[eF];intro v H1 o1 os1 r1 r2 r3 r4;obtain⟨a,vs,rfl,g1,g2⟩:=CB (Ez r2 r1 ec);exact⟨a,vs,rfl,hK▸g1,(Jk r2 (nA r3).2.1 (hA.later r4)).list g2.reverse⟩
theorem KO{i x:Int}:∀{l:List Int},x∈insI i l↔x=i\/x∈l
 |[]=>by unfold insI;simp
 | j ::r=>by
   unfold insI;split
   . simp
   . rw[mem_cons,KO (l:=r),mem_cons];constructor
     . rintro(h|h|h)
       . exact .inr (.inl h)
       . exact .inl h
       . exact .inr (.inr h)
     . rintro(h|h|h)
       . exact .inr (.inl h)
       . exact .inl h
       . exact .inr (.inr h)
theorem insI_perm(i:Int):∀(l:List Int),(insI i l).Perm (i::l)
 |[]=>.refl _
 | j::r=>by
   unfold insI;split
   . exact .refl _
   . exact((insI_perm i r).cons j).trans (.swap i j r)
theorem Gg :∀{l:List Int},l.Pairwise (·<=·)->(insI i l).Pairwise (·<=·)
 |[],_=>by unfold insI;simp
 | j ::r,h=>by
   obtain⟨h1,h2⟩:=pairwise_cons.mp h;unfold insI;split
   . rename_i hij
     exact pairwise_cons.mpr ⟨λx hx=>by
      rcases mK hx with z|z
      . rw[z];exact hij
      . exact Int.le_trans hij (h1 x z),h⟩
   . rename_i hij
     exact pairwise_cons.mpr ⟨λx hx=>by
      rcases KO.mp hx with z|z
      . rw[z];lia
      . exact h1 x z,Gg h2⟩
theorem sortI_perm:∀(l:List Int),(sortI l).Perm l
 |[]=>.refl _
 |i::r=>by unfold sortI;exact(insI_perm i _).trans ((sortI_perm r).cons i)
theorem Fd:∀(l:List Int),(sortI l).Pairwise (·<=·)
 |[]=>.nil
 |i::r=>by unfold sortI;exact Gg (Fd r)
theorem I9:∀{a b:List Int},a.Perm b->a.Pairwise (·<=·)->b.Pairwise (·<=·)->a=b
 |[],b,p,_,_=>(List.nil_perm.mp p).symm
 | x :: a,b,p,ha,hb=>by
   cases b with
   |nil=>exact absurd (List.perm_nil.mp p) (by simp)
   | cons y b=>
     obtain⟨a1,a2⟩:=pairwise_cons.mp ha;obtain⟨b1,b2⟩:=pairwise_cons.mp hb
     have hxy:x=y:=by
      have h1:y<=x:=by
       rcases mK (p.subset mS)with z|z
       . lia
       . exact b1 x z
      have h2:x<=y:=by
       rcases mK (p.symm.subset mS)with z|z
       . lia
       . exact a1 y z
      lia
     subst hxy;rw[I9 ((List.perm_cons x).mp p) a2 b2]
theorem Jv:∀{ns:List Int} {us:List Value},IntsAre us ns->Vals (ns.map V.int) us:=by
 intro ns us h
 induction h with
 |nil=>exact .nil
 |cons n t h ih=>exact .cons ⟨t,rfl⟩ ih
theorem G2:∀(ns:List Int),A7 W H (ns.map P.int) (ns.map V.int)
 |[]=>.nil
 |n::ns=>.cons (Ac.mpr rfl) (G2 ns)
theorem Rk(hK:W.K=X.K)(hc:X.calm=true):B4 X (.builtin "sorted") (B5 W (Gv Gs)):=by
 intro pins s σ H xs us Q I r h;obtain⟨x,c,r',rfl,h1,e,q⟩:=CV h;obtain⟨u,rfl,ru⟩:=vals1 r;unfold Gs at e;obtain⟨ns,e1,e2⟩:=oB e;obtain⟨ps,e3,e4⟩:=oB e1;split at e2
 case isFalse=>cases e2
 rename_i h64;cases e2
 have fin:∀{s1:Shared} {h':Heap} {t':Nat} {D:Addr} {out:Array Value} {ns':List Int} {c':Nat},Inv X pins σ H s1->(∀b o,s1.heap.get? b=some o->h'.get? b=some o)->s1.heap.objs.size<=D->h'.get? D=some (seqObj "list" out c')->IntsAre out.toList ns'->ns'.Perm ns->ns'.Pairwise (·<=·)->EP X pins σ Q (.ref D) {s1 with heap:=h',toks:=t'}:=by
  intro s1 h' t' D out ns' c' I hk hD ho a1 a2 a3;have e5:ns'=sortI ns:=I9 (a2.trans (sortI_perm ns).symm) a3 (Fd ns);subst e5;refine⟨.ref D,_,I.laid (t':=t') (o:=.lst ((sortI ns).map V.int)) hk hD ?_,rfl,q.list (G2 _) _ (I.Aj.fresh hD)⟩;refine⟨by rw[lM,(sortI_perm ns).length_eq];have:=C3;unfold big at this;lia,out.toList,c',Jv a1,?_⟩;rw[ho]
 unfold Pj at e3;split at e3
 . rename_i qs hn;cases e3;obtain⟨a,vs,rfl,k1,k2⟩:=Cn h1 hn;cases ru;obtain⟨its,rv,p,hz⟩:=I.list (hK▸k1);have e5:=ints_rep k2 e4;subst e5;have hI:IntsAre its ns:=intsAre_of rv;have hl:its.length=ns.length:=by rw[<-rv.length,lM]
   refine sorted_ints p.isList hI (by lia) λout ns' a1 a2 a3=>?_
   obtain⟨c',he⟩:=sortedAll_at s.heap its out;exact fin (t':=s.toks) I (λ_ _=>sortedAll_old) (Nat.le_succ _) he a1 a2 a3
 . rename_i kvs hn;cases e3;have hn':=Jj hn;subst hn';obtain⟨a,rfl,hd⟩:=h1;cases ru;obtain⟨es,ep,x,hp,hl,_⟩:=Ej I hd;obtain⟨vs,v1,v2⟩:=FZ hp;have e5:=ints_rep v2 e4;subst e5;have hz:kvs.length<=sizeLine:=Nat.le_trans hd.len C3;refine Calls.call_function_entry kind_sorted plain_sorted entry_sorted (args_sorted1 _) ?_;unfold Builtin.«sorted»;refine wB (m:=checkCount "sorted" 1 1 _) (wP ?_);refine wB (PySem.W.kdu_collect (A:=X.A.in1) (Nj hd.sm) (I.ok.hd hc) x (by lia) λh' tk acc hk hacc=>?_);have eacc:=Hf hacc;have hI:IntsAre acc.toList ns:=by rw[eacc];exact intsAre_of v1
   have hla:acc.toList.length=ns.length:=by rw[eacc,lM,hl];have:=v2.length;rw[lM,lM]at this;lia
   refine wB (wpAny_newList ?_ (by rw[hla];have:=C3;unfold big at this;lia));have hoL:(h'.push {cls:=.type "list",data:=.seq acc.toList.toArray}).get? h'.objs.size=some (seqObj "list" acc.toList.toArray 0):=Heap.get?_push_size _ rfl;refine wB (wpAny_holding (wpAny_call_entry slot_list_sort ⟨_,hoL,rfl⟩ entry_list_sort (list_sort_tree hoL hI (by lia) λout ns' a1 a2 a3=>⟨_,rfl,?_⟩) (args_list_sort _)));obtain⟨c',he⟩:=sortedHeap_at (out:=out) hoL
   exact wP ⟨_,rfl,fin (s1:={s with heap:=h',toks:=tk}) (t':=tk) (I.kept hk) (λb o e'=>by
    rw[sortedHeap_old (Nat.ne_of_lt (Heap.lt_size e')) (by rw[Heap.size_push];exact Nat.lt_succ_of_lt (Heap.lt_size e'))]
    exact gP e') (lR) he a1 a2 a3⟩
 . cases e3
variable{pins:List (Addr×Obj)}{s:Shared}
theorem Wz{σ:L2.St}{kvs:List (P×P)}{Q:Value->Shared->Prop}{E:Value->Shared->Prop}(hK:W.K=X.K)(hw:W.w=X.w)(hu:X.A.units + 200 < cLine)(I:Inv X pins σ H s)(hd:Dj W H a kvs)(hk:keyOk k=true)(hx:Av W H k x)(rx:RelV x u)
 (q0:Af kvs k=none->∀s',Inv X pins σ H s'->Q r s')(q1:∀p y z,Af kvs k=some p->Av W H p y->RelV y z->∀s',Inv X pins σ H s'->Q z s'):wpAny (model X.prog X.w) X.A (call (.builtin "dict.get") [.ref a,u,r]) Q E s:=by
 have ty:=Ds hw I.Aj hd;have Bq:W.K.In s.heap:=hK▸I.EG;have Aj:Dg X.prog W.w H s.heap:=hw▸I.Aj;have hu1:X.A.in1.units=X.A.units + 1:=in1_units;refine wpAny_call_entry PySem.F.slot_dict_get ty PySem.F.entry_dict_get ?_ (PySem.F.args_dict_get_3 _ _ _);show wpAny _ _ (dictGet a u >>= _) _ _ s;rw[<-hw];refine wB (DY Aj Bq hd hk hx rx (by lia) (λz tk=>?_) λp y z hz hy rz tk=>wP ⟨_,rfl,q1 p y z hz hy rz _ (I.tok tk)⟩);show wpAny _ _ (Builtin.Dict.missed a u >>= _) _ _ _;exact wB (wpAny_missed_other hd.sm (wP ⟨_,rfl,q0 z _ (I.tok tk)⟩))
theorem U2{σ:L2.St}{kvs:List (P×P)}{Q:Value->Shared->Prop}{E:Value->Shared->Prop}(hK:W.K=X.K)(hw:W.w=X.w)(hu:X.A.units + 200 < cLine)(I:Inv X pins σ H s)(hd:Dj W H a kvs)(hk:keyOk k=true)(hx:Av W H k x)(rx:RelV x u)
 (q0:Af kvs k=none->∀s',Inv X pins σ H s'->Q .none s')(q1:∀p y z,Af kvs k=some p->Av W H p y->RelV y z->∀s',Inv X pins σ H s'->Q z s'):wpAny (model X.prog X.w) X.A (call (.builtin "dict.get") [.ref a,u]) Q E s:=by
 have ty:=Ds hw I.Aj hd;have Bq:W.K.In s.heap:=hK▸I.EG;have Aj:Dg X.prog W.w H s.heap:=hw▸I.Aj;have hu1:X.A.in1.units=X.A.units + 1:=in1_units;refine wpAny_call_entry PySem.F.slot_dict_get ty PySem.F.entry_dict_get ?_ (PySem.F.args_dict_get_2 _ _);show wpAny _ _ (dictGet a u >>= _) _ _ s;rw[<-hw];refine wB (DY Aj Bq hd hk hx rx (by lia) (λz tk=>?_) λp y z hz hy rz tk=>wP ⟨_,rfl,q1 p y z hz hy rz _ (I.tok tk)⟩);show wpAny _ _ (Builtin.Dict.missed a u >>= _) _ _ _;exact wB (wpAny_missed_other hd.sm (wP ⟨_,rfl,q0 z _ (I.tok tk)⟩))
def Sk(W:Wd):V->List V->Hp->VK->Prop:=λx ys H Q=>∃a kvs k y,x= .ref a/\Dj W H a kvs/\keyOk k=true/\Av W H k y/\(∀p v,Af kvs k=some p->Av W H p v->Q v H)/\((ys=[y]/\(Af kvs k=none->Q .AG H))\/∃z,ys=[y,z]/\(Af kvs k=none->Q z H))
theorem Wc(hK:W.K=X.K)(hw:W.w=X.w)(hu:X.A.units + 200 < cLine):Xu X "dict.get" (Sk W):=by
 intro pins s σ H x xs v us Q I rx rv h;obtain⟨a,kvs,k,y,rfl,hd,hk,hy,q1,q2⟩:=h;cases rx;rcases q2 with⟨rfl,q2⟩|⟨z,rfl,q2⟩
 . obtain⟨u,rfl,ru⟩:=vals1 rv;exact U2 hK hw hu I hd hk hy ru (λe s' I'=>⟨.AG,H,I',rfl,q2 e⟩) λp y z hz hy rz s' I'=>⟨y,H,I',rz,q1 p y hz hy⟩
 . obtain⟨u,r,rfl,ru,rr⟩:=vals2 rv;exact Wz hK hw hu I hd hk hy ru (λe s' I'=>⟨z,H,I',rr,q2 e⟩) λp y z hz hy rz s' I'=>⟨y,H,I',rz,q1 p y hz hy⟩
theorem VQ(hw:W.w=X.w){e:Expr}{es:List Expr}{to:TE}{t:TA}{name:Str}{apos cpos:Pos}{r:V->List V->Hp->VK->Prop}(slot:Slot "dict" name id)(hty:typeOf (.builtin id)=pure (.type "method_descriptor"))(hm:Xu X id r)(ho:PE X o to)(ha:PA X (e::es) t)
 (hbase:attributeBase o name X.env (eval o X.env)=eval o X.env)
 (hfew:((backTo cpos (starEach (e::es) X.env)).all (λx=>!x.1) && (backToKw cpos (keywordEach [] X.env)).all (λx=>x.1.isSome)
  && decide ((e::es).length + ([]:List Keyword).length + (if([]:List Keyword).isEmpty then 0 else 1) < 30))=true)
 (hline:(apos.endLine == cpos.line)=true)(hs:starEach (e::es) X.env=(false,eval e X.env)::starEach es X.env)(hplain:(backTo cpos (starEach es X.env)).any (·.1)=false):
 PE X (.Call (.Attribute o name apos) (e::es) [] cpos) (λσ H Q=>to σ H λx H1=>(∃a kvs,x= .ref a/\Dj W H1 a kvs)/\t σ H1 λxs H2=>r x xs H2 Q):=by
 intro pins s σ H Q I h;refine wpAny_Call_method_late hbase hfew hline rfl (BB (ho pins s σ H _ I h) λv s1 ⟨x,H1,I1,r1,⟨a,kvs,ex,hd⟩,q1⟩=>?_);subst ex;cases r1;have h1:=Ds hw I1.Aj hd
 have h2:∀b,Value.ref a= .ref b->∃ob,s1.heap.get? b=some ob/\ob.dict=none:=λb eb=>by
  cases eb;obtain⟨es',ep,⟨ob,g1,g2,_⟩,_⟩:=Ej I1 hd;exact⟨ob,g1,g2.2.1⟩
 refine⟨"dict",id,PySem.F.plainAttrs_dict,slot,hty,h1,h2,?_⟩;have hA:=ha cpos pins s1 σ H1 _ I1 q1;rw[hs]at hA ⊢;refine Calls.callWith_builtin (by show(false || (backTo cpos (starEach es X.env)).any (·.1))=false;rw[hplain]<;>rfl) (Calls.evalArgs_plain ?_);exact BB hA λus s2 ⟨vs,H2,I2,r2,q2⟩=>hm pins s2 σ H2 (.ref a) vs _ us Q I2 rfl r2 q2
end
section
variable{cf:CF}{mt:MT}
variable{ts:List T}
theorem AX.iter{k:IK}(st:AU e=true)(nc:Cc e=false)(i:k.ok=true->∀tg,PI X tg e (Mx W k (An cf mt ts)))
 (rv:∀u,T.prim (.iter k) ts= .prim (.iter .rev) [u]->∃l p pos,e= .Call (.Name "reversed" p) [l] [] pos/\Gl X "reversed"/\X.mg "reversed"=none/\PE X l (tG W (E8 W) (BV u (ev cf mt u)))/\AU l=true)
 (zp:∀u w,T.prim (.iter k) ts= .prim (.iter .zip) [u,w]->∃l m p pos,e= .Call (.Name "zip" p) [l,m] [] pos/\Gl X "zip"/\X.mg "zip"=none/\PA X [l,m] (tG W (Be W) (An cf mt [u,w]))/\AU l=true/\AU m=true):AX X W cf mt e (.prim (.iter k) ts):=by
 have hv:∀ρ,ev cf mt (.prim (.iter k) ts) ρ= .stuck:=λρ=>GS rfl ρ
 have v:PE X e (tG W (rV W) (ev cf mt (.prim (.iter k) ts))):=DH hv;refine⟨v,DH λρ=>(by rw[Bw,hv];rfl),Ko λρ=>(by rw[BU,hv];rfl),λz=>(by cases z),st,i,λi y py spos hN hi' hx hf=>GQ hN hi' hx v (Ed nc _ _ _) hf,λz=>(by rw[nc]at z;cases z),rv,zp⟩
variable{pos:Pos}
theorem FP{es:List Expr}{p:Pos}(hg:Gl X "range")(hm:X.mg "range"=none)(h:Cg X W cf mt es ts)(hl:ts.length=1\/ts.length=2\/ts.length=3):AX X W cf mt (.Call (.Name "range" p) es [] pos) (.prim (.iter .Et) ts):=by
 refine AX.iter rfl rfl (λ_ tg=>?_) (λu z=>by cases z) (λu w z=>by cases z);have pd:=DS h;have hF:∀ρ hs ρ',An cf mt ts ρ= .ok hs ρ'->hs.length=ts.length:=λρ hs ρ' e=>HF e
 cases h with
 |nil=>rcases hl with z|z|z<;>cases z
 | cons h1 r1=>
   cases r1 with
   |nil=>exact SJ hg hm hF pd (Ay h1.st _ _)
   | cons h2 r2=>
     have s2:=Ay h2.st;cases r2 with
     |nil=>exact SI hg hm hF pd (by rw[Ay h1.st,s2];rfl) (s2 _ _)
     | cons h3 r3=>
       have s3:=Ay h3.st;cases r3 with
       |nil=>exact SH hg hm hF pd (by rw[Ay h1.st,s2,s3];rfl) (by rw[s2,s3];rfl)
       |cons _ _=>rcases hl with z|z|z<;>simp at z
theorem J0(hK:W.K=X.K){p:Pos}(hg:Gl X "reversed")(hm:X.mg "reversed"=none)(h:AX X W cf mt a u):AX X W cf mt (.Call (.Name "reversed" p) [a] [] pos) (.prim (.iter .rev) [u]):=by
 refine AX.iter rfl rfl (λ_ tg=>?_) (λv z=>?_) (λu w z=>by cases z)
 . rw[DN];exact SK hK hg hm h.h (Ay h.st _ _)
 . cases z;exact⟨a,p,pos,rfl,hg,hm,h.h,h.st⟩
theorem RS{p:Pos}(hg:Gl X "zip")(hm:X.mg "zip"=none)(h1:AX X W cf mt a x)(h2:AX X W cf mt b y):AX X W cf mt (.Call (.Name "zip" p) [a,b] [] pos) (.prim (.iter .zip) [x,y]):=by
 refine AX.iter rfl rfl (λz=>by cases z) (λv z=>by cases z) (λu w z=>?_);cases z;exact⟨a,b,p,pos,rfl,hg,hm,DS (.cons h1 (.cons h2 .nil)),h1.st,h2.st⟩
theorem Ff(hK:W.K=X.K)(hw:W.w=X.w){o:O}(Aj:o.ok=false)(hi:Bp (.prim o ts)=(.op,[.prim o ts]))(st:AU e=true)(nc:Cc e=false):AX X W cf mt e (.prim o ts):=
 AX.not hK hw Bw (λρ=>GS Aj ρ) (λρ=>by rw[BU,GS Aj];rfl) rfl hi st nc
theorem Cs(ρ:Env):Ea cf mt [] ρ= .ok true ρ:=rfl
theorem R9(t:T)(ts:List T):Ea cf mt (t::ts)=tv cf mt t:=rfl
theorem CK(g:Tg)(k:IK)(its cond:List T)(elt:T)(fr:List (Option Nat)):ev cf mt (.comp g k its cond elt fr)=λρ=>if k.ok then(An cf mt its ρ).bind (DP k g fr (Ea cf mt cond) (ev cf mt elt))else .stuck:=rfl
variable{ifs:List Expr}
theorem SG{t t':TT}(h:Uu X ifs t)(k:∀σ H Q,t' σ H Q->t σ H Q):Uu X ifs t':=λpins s σ H Q I z=>h pins s σ H Q I (k σ H Q z)
variable{cs:List T}
theorem VG(h:Cg X W cf mt ifs cs)(hl:cs.length<=1):Uu X ifs (tG W rB (Ea cf mt cs)):=by
 cases h with
 | nil=>
   refine SG SF λσ H Q z=>?_
   obtain⟨ρ,os,hR,hn,hA⟩:=z;rw[Cs]at hA;exact hA true H [] os ⟨rfl,rfl⟩ hR hn (Bn.refl _ _)
 | cons h r=>
   cases r with
   |nil=>rw[R9];exact SE h.b
   |cons _ _=>simp at hl
theorem Pa(hK:W.K=X.K)(hw:W.w=X.w)(hc:X.calm=true){elt it tg:Expr}{sc:Scope}{N:List Str}{fr:List (Option Nat)}(ok:E4 X.N X.env.scope N sc fr)(h1:AX X W cf mt it x)(hl:cs.length<=1)
 (hb:∀C s H fp,PG (Bc X N sc C s H fp) tg (gT W g)/\AX (Bc X N sc C s H fp) W cf mt elt e/\Cg (Bc X N sc C s H fp) W cf mt ifs cs):
 AX X W cf mt (.ListComp elt [⟨tg,it,ifs,0⟩] sc pos) (.comp g (Bp x).1 (Bp x).2 cs e fr):=by
 have hv:∀σ H Q,tG W (rV W) (ev cf mt (.comp g (Bp x).1 (Bp x).2 cs e fr)) σ H Q->(Bp x).1.ok=true/\IV (Mx W (Bp x).1 (An cf mt (Bp x).2)) (gT W g) (tG W rB (Ea cf mt cs)) (tG W (rV W) (ev cf mt e)) fr σ H Q:=λσ H Q z=>by
  rw[CK]at z;cases hk:(Bp x).1.ok with
  |false=>rw[hk]at z;exact(GI (λρ=>rfl) z).elim
  |true=>rw[hk]at z;exact⟨rfl,U9 z⟩
 have hb':∀C s H fp,PG (Bc X N sc C s H fp) tg (gT W g)/\PE (Bc X N sc C s H fp) elt (tG W (rV W) (ev cf mt e))/\Uu (Bc X N sc C s H fp) ifs (tG W rB (Ea cf mt cs)):=λC s H fp=>⟨(hb C s H fp).1,(hb C s H fp).2.1.v,VG (hb C s H fp).2.2 hl⟩
 have v:PE X (.ListComp elt [⟨tg,it,ifs,0⟩] sc pos) (tG W (rV W) (ev cf mt (.comp g (Bp x).1 (Bp x).2 cs e fr))):=λpins s σ H Q I z=>by
  obtain⟨hk,z⟩:=hv σ H Q z;exact PX N fr hc ok (h1.i hk tg) hb' (G3 h1.st _) pins s σ H Q I z
 have h:PE X (.ListComp elt [⟨tg,it,ifs,0⟩] sc pos) (tG W (E8 W) (BV (.comp g (Bp x).1 (Bp x).2 cs e fr) (ev cf mt (.comp g (Bp x).1 (Bp x).2 cs e fr)))):=AF v λσ H Q z=>Ma z
 refine⟨v,h,GO (Px hK h λ_=>rfl) λσ H Q z=>Lw ?_,λz=>(by cases z),rfl,λ_ tg'=>?_,λi y py spos hN hy hx hf=>?_,λ_=>⟨_,_,_,_,rfl⟩,λu z=>(by cases z),λu w z=>(by cases z)⟩
 . rw[show(λρ=>(BV (.comp g (Bp x).1 (Bp x).2 cs e fr) (ev cf mt (.comp g (Bp x).1 (Bp x).2 cs e fr)) ρ).bind λh ρ=>Res.of ((h.cont ρ).bind D2) ρ)=tv cf mt (.comp g (Bp x).1 (Bp x).2 cs e fr)from funext λρ=>by
     show(((den cf mt (.comp g (Bp x).1 (Bp x).2 cs e fr)).v ρ).bind _).bind _=(den cf mt (.comp g (Bp x).1 (Bp x).2 cs e fr)).b ρ;unfold den
     rfl]
   exact z
 . show PI X tg' _ (Mx W .op (An cf mt [.comp g (Bp x).1 (Bp x).2 cs e fr]));rw[DN];exact MV hK hw h
 . have hs:swapsWith (.ListComp elt [⟨tg,it,ifs,0⟩] sc pos) (some (.Name y py)) spos.line X.env=pure (X.env.blockKind == .function && X.env.kindOf y == some .local && py.line == pos.line && !(sc.names.any λ(n,k)=>n == y && (k == .local || k == .cell))):=rfl;cases hbo:(X.env.blockKind == .function && X.env.kindOf y == some .local && py.line == pos.line && !(sc.names.any λ(n,k)=>n == y && (k == .local || k == .cell)))with
   | false=>
     rw[hbo]at hs;exact GQ hN hy hx v hs hf
   | true=>
     rw[hbo]at hs
     have hl':X.env.scope.names.lookup y=some .local:=by
      simp only[bA]at hbo;exact beq_iff_eq.mp hbo.1.1.2
     intro pins s σ H D I z;obtain⟨hk,z⟩:=hv σ H _ z;exact PB N fr hN hy hl' hc ok (h1.i hk tg) hb' hs (G3 h1.st _) pins s σ H D I z
theorem Ni(o:T)(ts:List T)(ρ:Env):ev cf mt (.Jz o ts) ρ=match placeOf o with
 |some h=>if M8 (h.cont ρ) && (!h.CQ || ts.all T.calm)then(An cf mt ts ρ).bind λhs ρ=>JA h hs ρ else .stuck
 |none=>.stuck:=rfl
theorem TN(o:T)(ts:List T)(ρ:Env):tv cf mt (.Jz o ts) ρ=((ev cf mt (.Jz o ts) ρ).bind λc ρ=>.ok (Hd.BG c) ρ).bind λh ρ=>Res.of ((h.cont ρ).bind D2) ρ:=rfl
theorem Mc{r:C}(h:HV c k d=some r):∃kvs k' d',c= .AJ kvs/\k= .p k'/\d= .p d'/\keyOk k'=true/\r= .p ((Af kvs k').getD d'):=by
 unfold HV at h;split at h
 . rename_i kvs k' d';split at h
   . rename_i hk;cases h;exact⟨kvs,k',d',rfl,rfl,rfl,hk,rfl⟩
   . cases h
 . cases h
variable{H:Hp}
theorem N8{σ:L2.St}{os o1:List Addr}{hs:List Hd}{vs:List V}{Q:VK}(hR:Ab W H ρ σ os)(hn:(o1++os).Nodup)(hh:E8 W σ H ρ h (.ref a) [])(h1:Be W σ H ρ hs vs o1)(hA:Ck W (rV W σ) H (o1++os) σ (JA h hs ρ) Q):Sk W (.ref a) vs H Q:=by
 unfold JA at hA;cases ec:h.cont ρ with
 |none=>rw[ec]at hA;exact False.elim hA
 | some c=>
   cases ed:AB ρ hs with
   |none=>rw[ec,ed]at hA;exact False.elim hA
   | some cs=>
     rw[ec,ed]at hA;have rc:=Ez hR hh ec;have rs:=DO hR h1 ed;have n2:=nA hn
     have done:∀{k d r:C},HV c k d=some r->Ck W (rV W σ) H (o1++os) σ (.ok r ρ) Q->∃kvs k' d',c= .AJ kvs/\k= .p k'/\d= .p d'/\keyOk k'=true/\(∀p v,Af kvs k'=some p->Av W H p v->Q v H)/\(Af kvs k'=none->∀v,Av W H d' v->Q v H):=by
      intro k d r e hA;obtain⟨kvs,k',d',e1,e2,e3,e4,rfl⟩:=Mc e
      have fin:∀p v,(Af kvs k').getD d'=p->Av W H p v->Q v H:=λp v ep hp=>by
       rw[ep]at hA;exact hA v H [] os ⟨hp,rfl⟩ hR n2.2.1 ((Bn.refl _ _).sub λa ha=>mR ha)
      exact⟨kvs,k',d',e1,e2,e3,e4,λp v e hp=>fin p v (by rw[e];rfl) hp,λe v hp=>fin d' v (by rw[e];rfl) hp⟩
     rcases cs with _|⟨k,_|⟨d,_|⟨f,r⟩⟩⟩
     . exact False.elim hA
     . have hA:Ck W (rV W σ) H (o1++os) σ (Res.of (HV c k (.p .AG)) ρ) Q:=hA;cases eg:HV c k (.p .AG)with
       |none=>rw[eg]at hA;exact False.elim hA
       | some r=>
         rw[eg]at hA;obtain⟨kvs,k',d',rfl,rfl,e3,e4,q1,q2⟩:=done eg hA;cases e3;obtain⟨y,rfl,ry⟩:=Cb rs;obtain⟨a',ea,hd⟩:=rc;cases ea;exact⟨a,kvs,k',y,rfl,hd,e4,ry,q1,.inl ⟨rfl,λe=>q2 e .AG (Ak.mpr rfl)⟩⟩
     . have hA:Ck W (rV W σ) H (o1++os) σ (Res.of (HV c k d) ρ) Q:=hA;cases eg:HV c k d with
       |none=>rw[eg]at hA;exact False.elim hA
       | some r=>
         rw[eg]at hA;obtain⟨kvs,k',d',rfl,rfl,rfl,e4,q1,q2⟩:=done eg hA;obtain⟨y,z,rfl⟩:=Qm rs.length;obtain⟨ry,rz⟩:=Gu rs;obtain⟨a',ea,hd⟩:=rc;cases ea;exact⟨a,kvs,k',y,rfl,hd,e4,ry,q1,.inr ⟨z,rfl,λe=>q2 e z rz⟩⟩
     . exact False.elim hA
variable{to:TE}
theorem TQ(hK:W.K=X.K)(hr:OE X W e o to){es:List Expr}(h:Cg X W cf mt es ts){σ:L2.St}{Q:VK}(z:tG W (rV W) (ev cf mt (.Jz o ts)) σ H Q):
 to σ H λx H1=>(∃a kvs,x= .ref a/\Dj W H1 a kvs)/\(if ts.all T.calm=true then OZ W ts else tG W (Be W) (An cf mt ts)) σ H1 λxs H2=>Sk W x xs H2 Q:=by
 obtain⟨ρ,os,hR,hn,hA⟩:=z;rw[Ni]at hA
 have fin:∀(h:Hd) (a:Addr),E8 W σ H ρ h (.ref a) []->(h.CQ=true->ts.all T.calm=true)->(∀H1 ρ1,h.CQ=false->E8 W σ H1 ρ1 h (.ref a) [])->Ck W (rV W σ) H os σ ((An cf mt ts ρ).bind λhs ρ=>JA h hs ρ) Q->
  (if ts.all T.calm=true then OZ W ts else tG W (Be W) (An cf mt ts)) σ H λxs H2=>Sk W (.ref a) xs H2 Q:=by
  intro h a hh hc hst hA;split
  . rename_i hcalm;rcases Ey (cf:=cf) (mt:=mt) hcalm hR with⟨hs,e1,q⟩|e1
    . rw[e1,Res.A5]at hA;exact q _ λvs hv=>N8 (o1:=[]) hR hn hh hv hA
    . rw[e1]at hA;exact False.elim hA
  . rename_i hcalm
    have hnf:h.CQ=false:=by
     cases e:h.CQ with
     |false=>rfl
     |true=>exact absurd (hc e) hcalm
    exact BR (rep':=rV W) (G:=λhs ρ=>JA h hs ρ) (Q:=Q) ⟨ρ,os,hR,hn,hA⟩ λhs ρ1 vs H1 o1 os1 r1 r2 r3 r4 _ _=>N8 r2 r3 (hst H1 ρ1 hnf) r1 r4
 have dc:∀{c:Option C},M8 c=true->∃kvs,c=some (.AJ kvs):=λ{c} hc=>by
  unfold M8 at hc;split at hc
  . exact⟨_,rfl⟩
  . cases hc
 cases hr with
 | @nm x p i hx=>
   have hA:Ck W (rV W σ) H os σ (if(M8 (A9 ρ i) && (!false || ts.all T.calm))=true then(An cf mt ts ρ).bind λhs ρ=>JA (.slot i) hs ρ else .stuck) Q:=hA;split at hA
   case isFalse=>exact False.elim hA
   rename_i hc;rw[bA]at hc;obtain⟨kvs,hg⟩:=dc hc.1;obtain⟨v,o,q1,q2,_⟩:=hR.get hg;obtain⟨a,rfl,q3,rfl⟩:=q2;exact⟨.ref a,q1,⟨a,kvs,rfl,q3⟩,fin (.slot i) a ⟨q1,rfl⟩ (λz=>by cases z) (λ_ _ _=>⟨q1,rfl⟩) hA⟩
 | @fl x f p q i hx=>
   have hA:Ck W (rV W σ) H os σ (if(M8 (BE ρ i f) && (!true || ts.all T.calm))=true then(An cf mt ts ρ).bind λhs ρ=>JA (.fld i f) hs ρ else .stuck) Q:=hA;split at hA
   case isFalse=>exact False.elim hA
   rename_i hc;rw[bA]at hc;obtain⟨kvs,hg⟩:=dc hc.1;obtain⟨a0,C,dx,fs,v,b0,o',q1,q2,c1,c2,q5,eb,q6⟩:=DU hR hg;cases eb;obtain⟨a,rfl,q3,rfl⟩:=q6;exact⟨.ref a0,q1,a0,C,dx,fs,.ref a,rfl,q2,hK▸c1,hK▸c2,q5,⟨a,kvs,rfl,q3⟩,fin (.fld i f) a ⟨rfl,a0,C,dx,fs,q1,q2,q5⟩ (λ_=>by simpa using hc.2) (λ_ _ z=>by cases z) hA⟩
theorem S1(hK:W.K=X.K)(hw:W.w=X.w)(hu:X.A.units + 200 < cLine)(hr:OE X W e o to){apos cpos:Pos}(hline:(apos.endLine == cpos.line)=true){a:Expr}{es:List Expr}(hl:(a::es).length < 29)(hs:Cg X W cf mt (a::es) ts):
 AX X W cf mt (.Call (.Attribute e "get" apos) (a::es) [] cpos) (.Jz o ts):=by
 have pl:=hs.plain;have st:=Ay (pl a mS) es X.env
 have Wv:((backTo cpos (starEach (a::es) X.env)).all (λx=>!x.1) && (backToKw cpos (keywordEach [] X.env)).all (λx=>x.1.isSome)
  && decide ((a::es).length + ([]:List Keyword).length + (if([]:List Keyword).isEmpty then 0 else 1) < 30))=true:=by
  have h1:(backTo cpos (starEach (a::es) X.env)).all (λx=>!x.1)=true:=by
   rw[Fb pl];unfold backTo;rw[map_map,all_map,all_eq_true];intro e _;simp
  rw[h1,show(backToKw cpos (keywordEach [] X.env))=[]from rfl];simp at hl ⊢
  lia
 have pa:PA X (a::es) (if ts.all T.calm=true then OZ W ts else tG W (Be W) (An cf mt ts)):=by
  split
  . rename_i hc;obtain⟨tes,h1,h2⟩:=E1 hs hc;rw[h2];exact Fm h1
  . exact DS hs
 exact AX.of hK hw (λ_ _=>rfl) (TN o ts) rfl rfl (AF (VQ hw PySem.F.slot_dict_get PySem.F.type_dict_get (Wc hK hw hu) hr.pe pa (hr.base _ _) Wv hline st (CJ (λe he=>pl e (mC he)) cpos _)) λσ H Q z=>TQ hK hr hs z) (λ_=>rfl) rfl
end
end Iv
namespace PySem
open Sem (wp)
open PyProof.Rows
variable{prog:Program}{w:World}{A:Around}{E:Value->Shared->Prop}{s:Shared}
variable{it:Addr}
theorem Bf{i:Nat}{items}{x:Value}{Q:Value->Shared->Prop}(hit:IsTupIter s.heap it t i)
 (ht:IsTup s.heap t items)(hx:items[i]? =some x)
 (hQ:∀h',IsTupIter h' it t (i + 1)->Heap.SameBut it s.heap h'->Q x {s with heap:=h'}):
 wpAny (model prog w) A (Builtin.SmallTypes.nextOf (.ref it)) Q E s:=by
 obtain⟨o,ho,hc,hd⟩:=id hit;obtain⟨ol,hol,_,nl,BV⟩:=ht;unfold Builtin.SmallTypes.nextOf
 refine wB (wpAny_callSpecial?_slot (name:=Str.ofString "__next__") hit.typeIs slot_tupleiter_next
  (wpAny_call_entry slot_tupleiter_next hit.typeIs entry_tupleiter_next ?_ (args_tupleiter_next _)))
 show wpAny _ _ (field (.ref it) 0 >>= _) _ _ s;refine wB (wpAny_field ho hd (x:=.ref t) rfl ?_);show wpAny _ _ (if(Value.ref t == Value.none)=true then _ else _) _ _ s;rw[iN (show ¬((Value.ref t == Value.none)=true)from Bool.false_ne_true)];show wpAny _ _ (field (.ref it) 1 >>= _) _ _ s;refine wB (wpAny_field ho hd (x:=.int i 0) rfl ?_);show wpAny _ _ (seqItems? (.ref t) >>= _) _ _ s;refine wB (wpAny_seqItems hol BV ?_);simp only[Int.toNat_natCast,hx];refine wB (wpAny_setField ho hd (by simp) (wP ⟨x,rfl,wP (hQ _ ?_ (Heap.SameBut.update ..))⟩))
 exact⟨_,Heap.get?_update_self _ ho (Obj.isFreed_of_fields (Obj.data_mapFields hd _)),(Obj.cls_mapFields ..).trans hc,by
  rw[Obj.data_mapFields hd];simp[rawInt]⟩
theorem Co{i:Nat}{items}{Q:Value->Shared->Prop}(hh:A.handled=none)
 (hit:IsTupIter s.heap it t i)(ht:IsTup s.heap t items)(hx:items[i]? =none)
 (hE:∀h' e,Heap.ExtBut it s.heap h'->(∃o,h'.get? e=some o/\o.cls= .type "StopIteration")->E (.ref e) {s with heap:=h'}):
 wpAny (model prog w) A (Builtin.SmallTypes.nextOf (.ref it)) Q E s:=by
 obtain⟨o,ho,hc,hd⟩:=id hit;obtain⟨ol,hol,_,nl,BV⟩:=ht;unfold Builtin.SmallTypes.nextOf
 refine wB (wpAny_callSpecial?_slot (name:=Str.ofString "__next__") hit.typeIs slot_tupleiter_next
  (wpAny_call_entry slot_tupleiter_next hit.typeIs entry_tupleiter_next ?_ (args_tupleiter_next _)))
 show wpAny _ _ (field (.ref it) 0 >>= _) _ _ s;refine wB (wpAny_field ho hd (x:=.ref t) rfl ?_);show wpAny _ _ (if(Value.ref t == Value.none)=true then _ else _) _ _ s;rw[iN (show ¬((Value.ref t == Value.none)=true)from Bool.false_ne_true)];show wpAny _ _ (field (.ref it) 1 >>= _) _ _ s;refine wB (wpAny_field ho hd (x:=.int i 0) rfl ?_);show wpAny _ _ (seqItems? (.ref t) >>= _) _ _ s;refine wB (wpAny_seqItems hol BV ?_);simp only[Int.toNat_natCast,hx];refine wB (wpAny_rule (wB (wpAny_setField ho hd (by simp) ?_)));show wpAny _ _ (newExc (.type "StopIteration") [] >>= _) _ _ _;refine wB ?_;simp only[newExc,newTuple];refine wB (wpAny_newObj_type ?_ (by size_fits));refine wB (m:=firstArgMember _ _) (wpAny_of_eq (a:=Value.none) (by first|rfl|(simp only[firstArgMember];rfl)) ?_);refine wpAny_newObj_type ?_ (by size_fits);simp only[raiseNew];refine wB (wpAny_handled ?_)
 first|rw[show A.in1.handled=none from hh]|rw[hh]
 refine wB (wP (wpAny_throw ?_));exact hE _ _ (((Heap.SameBut.update ..).extBut.push _).push _) ⟨_,Heap.get?_push_size _ rfl,rfl⟩
abbrev ZG(h:Heap)(z TI TO:Addr)(f0:Value)(f1:Bool):Prop:=
 h.get? z=some {cls:=.type "zip",dict:=none,data:=.fields #[f0,.bool f1,.bool false,.ref TI,.ref TO],slots:=#[]}
def F0(f0:Value):Prop:=f0= .none\/∃T:Addr,f0=rawInt T
theorem F6{Q:Option Obj->Shared->Prop}(h:Q (s.heap.get? a) s):wpAny (model prog w) A (loadIfAlive a) Q E s:=λΓ p _=>by
 show wp _ Γ (Sem.loadIfAlive a Sem.pure) _ _ p s;rw[Sem.wp_loadIfAlive];exact h
theorem Mv{TI TO:Addr}{f1:Bool}{Q:Bool->Shared->Prop}(hz:ZG s.heap z TI TO f0 f1)(hf:F0 f0)(h1:Q true s)(h2:∀h' f1',ZG h' z TI TO f0 f1'->Heap.SameBut z s.heap h'->Q false {s with heap:=h'}):
 wpAny (model prog w) A (Builtin.SmallTypes.ownedTupleIsFree (.ref z)) Q E s:=by
 unfold Builtin.SmallTypes.ownedTupleIsFree;rcases hf with rfl|⟨T,rfl⟩
 . exact wB (wpAny_field hz rfl (x:=.none) rfl (wP h1))
 . refine wB (wpAny_field hz rfl (x:=rawInt T) rfl ?_);show wpAny _ _ (loadIfAlive (T:Int).toNat >>= _) _ _ s;refine wB (F6 ?_);cases hT:s.heap.get? (T:Int).toNat with
   |none=>exact wP h1
   | some o=>
     show wpAny _ _ (field (.ref z) 1 >>= _) _ _ s;refine wB (wpAny_field hz rfl (x:=.bool f1) rfl ?_);cases f1 with
     | true=>
       show wpAny _ _ (pure false) _ _ s;exact wP (h2 s.heap true hz (Heap.SameBut.refl ..))
     | false=>
       show wpAny _ _ (setField (.ref z) 1 (.bool true) >>= _) _ _ s;refine wB (wpAny_setField_rec hz (by simp) λh' hz' hs'=>wP (h2 h' true hz' hs'))
end PySem
namespace PySem
open Sem (wp)
open PyProof.Rows
variable{prog:Program}{w:World}{A:Around}{E:Value->Shared->Prop}{s:Shared}
variable{k1 k2:Nat}
theorem IS{TI TO:Addr}{xs ys:Array Value}{x y:Value}{f1:Bool}{Q:Value->Shared->Prop}(D:ZipApart z TI TO i1 i2 l1 l2)
 (hz:ZG s.heap z TI TO f0 f1)(hf:F0 f0)(hTI:IsPair s.heap TI (.ref i1) (.ref i2))(hTO:IsPair s.heap TO a b)
 (h1:IsTupIter s.heap i1 l1 k1)(h2:IsTupIter s.heap i2 l2 k2)(hl1:IsTup s.heap l1 xs)(hl2:IsTup s.heap l2 ys)(hx:xs[k1]? =some x)(hy:ys[k2]? =some y)
 (hQ:∀h' f0' f1' a' b',ZG h' z TI TO f0' f1'->F0 f0'->IsPair h' TO a' b'->IsTupIter h' i1 l1 (k1 + 1)->IsTupIter h' i2 l2 (k2 + 1)->IsPair h' s.heap.objs.size x y->h'.objs.size=s.heap.objs.size + 1->
  (∀c o,c≠z->c≠TO->c≠i1->c≠i2->s.heap.get? c=some o->h'.get? c=some o)->Q (.ref s.heap.objs.size) {s with heap:=h'}):
 wpAny (model prog w) A (Builtin.«zip.__next__» ⟨[.ref z],[]⟩) (λfin s'=>∃v,fin= .done (.ret v)/\Q v s') E s:=by
 show wpAny _ _ (field (.ref z) 2 >>= _) _ _ _;refine wB (wpAny_field hz rfl (x:=.bool false) rfl ?_);show wpAny _ _ (field (.ref z) 3 >>= _) _ _ _;refine wB (wpAny_field hz rfl (x:=.ref TI) rfl ?_);refine wB (wpAny_seqItems hTI rfl ?_);show wpAny _ _ (Builtin.SmallTypes.ownedTupleIsFree (.ref z) >>= _) _ _ _;refine wB (Mv hz hf ?_ λh₁ f1' hz₁ hs₁=>?_)
 . simp only[if_true];refine wB (wpAny_rule ?_);refine wB (wpAny_field hz rfl (x:=.ref TO) rfl ?_);refine wB (wpAny_setField_rec hz (by simp) λh₁ hz₁ hs₁=>?_);replace hz₁:ZG h₁ z TI TO .ellipsis f1:=hz₁;refine wB ?_;simp only[List.zipIdx_cons,List.zipIdx_nil,forIn_cons,forIn_nil];refine wB (wB (wpAny_onRaise ?_));show wpAny _ _ (Builtin.SmallTypes.nextOf (.ref i1) >>= _) _ _ _;refine wB (Bf (h1.extBut hs₁.extBut D.i1z) (hl1.extBut hs₁.extBut D.l1z) hx λh₂ h1₂ hs₂=>wP ?_);have hTO₂:IsPair h₂ TO a b:=hs₂.extBut _ _ D.TOi1 (hs₁.extBut _ _ D.TOz hTO);refine wB (wpAny_seqItems hTO₂ rfl ?_);refine wB (wpAny_updateSeq_pair hTO₂ λh₃ hTO₃ hs₃=>?_);replace hTO₃:IsPair h₃ TO x b:=hTO₃;refine wB (wpAny_letGo (wP ?_));refine wB (wB (wpAny_onRaise ?_));show wpAny _ _ (Builtin.SmallTypes.nextOf (.ref i2) >>= _) _ _ _
   refine wB (Bf (((h2.extBut hs₁.extBut D.i2z).extBut hs₂.extBut D.i12.symm).extBut hs₃.extBut D.TOi2.symm)
    (((hl2.extBut hs₁.extBut D.l2z).extBut hs₂.extBut D.l2i1).extBut hs₃.extBut D.l2TO) hy λh₄ h2₄ hs₄=>wP ?_)
   have hTO₄:IsPair h₄ TO x b:=hs₄.extBut _ _ D.TOi2 hTO₃;refine wB (wpAny_seqItems hTO₄ rfl ?_);refine wB (wpAny_updateSeq_pair hTO₄ λh₅ hTO₅ hs₅=>?_);replace hTO₅:IsPair h₅ TO x y:=hTO₅;refine wB (wpAny_letGo (wP (wP ?_)));refine wB (wpAny_seqItems hTO₅ rfl ?_);refine wB (wpAny_newTuple ?_);have hsz:h₅.objs.size=s.heap.objs.size:=by rw[hs₅.1,hs₄.1,hs₃.1,hs₂.1,hs₁.1]
   have hz₅:ZG h₅ z TI TO .ellipsis f1:=hs₅.extBut _ _ D.TOz.symm (hs₄.extBut _ _ D.i2z.symm (hs₃.extBut _ _ D.TOz.symm (hs₂.extBut _ _ D.i1z.symm hz₁)))
   have hk₅:∀c o,c≠z->c≠TO->c≠i1->c≠i2->s.heap.get? c=some o->h₅.get? c=some o:=λc o c1 c2 c3 c4 e=>
    hs₅.extBut _ _ c2 (hs₄.extBut _ _ c4 (hs₃.extBut _ _ c2 (hs₂.extBut _ _ c3 (hs₁.extBut _ _ c1 e))))
   have h1₅:IsTupIter h₅ i1 l1 (k1 + 1):=((h1₂.extBut hs₃.extBut D.TOi1.symm).extBut hs₄.extBut D.i12).extBut hs₅.extBut D.TOi1.symm;have h2₅:IsTupIter h₅ i2 l2 (k2 + 1):=h2₄.extBut hs₅.extBut D.TOi2.symm;have hzlt:z < h₅.objs.size:=Heap.lt_size hz₅;show wpAny _ _ (Builtin.SmallTypes.ownedTupleHandOut (.ref z) (.ref h₅.objs.size) >>= _) _ _ _;refine wB ?_;unfold Builtin.SmallTypes.ownedTupleHandOut;have hz₆:ZG (h₅.push {cls:=.type "tuple",data:=.seq #[x,y]}) z TI TO .ellipsis f1:=gP hz₅;refine wB (wpAny_setField_rec hz₆ (by simp) λh₇ hz₇ hs₇=>?_);replace hz₇:ZG h₇ z TI TO (rawInt h₅.objs.size) f1:=hz₇;refine wpAny_setField_rec hz₇ (by simp) λh₈ hz₈ hs₈=>?_
   replace hz₈:ZG h₈ z TI TO (rawInt h₅.objs.size) false:=hz₈;have up:∀c o,c≠z->h₅.get? c=some o->h₈.get? c=some o:=λc o c1 e=>hs₈.extBut _ _ c1 (hs₇.extBut _ _ c1 (gP e))
   have hT₈:IsPair h₈ h₅.objs.size x y:=hs₈.extBut _ _ (Nat.ne_of_gt hzlt) (hs₇.extBut _ _ (Nat.ne_of_gt hzlt) (Heap.get?_push_size _ rfl));have hz8:h₈.objs.size=h₅.objs.size + 1:=by rw[hs₈.1,hs₇.1,Heap.size_push]
   rw[hsz]at hz₈ hT₈ hz8;refine wP ⟨_,rfl,?_⟩;show Q (.ref h₅.objs.size) _;rw[hsz];exact hQ h₈ _ _ x y hz₈ (.inr ⟨_,rfl⟩) (up _ _ D.TOz hTO₅) (let⟨o,e,r⟩:=h1₅;⟨o,up _ o D.i1z e,r⟩) (let⟨o,e,r⟩:=h2₅;⟨o,up _ o D.i2z e,r⟩) hT₈ hz8 λc o c1 c2 c3 c4 e=>up c o c1 (hk₅ c o c1 c2 c3 c4 e)
 . simp only[Bool.false_eq_true,if_false];refine wB ?_;simp only[<-Array.forIn_toList,forIn_cons,forIn_nil];refine wB (wB (wpAny_holding ?_));show wpAny _ _ (Builtin.SmallTypes.nextOf (.ref i1) >>= _) _ _ _;refine wB (Bf (h1.extBut hs₁.extBut D.i1z) (hl1.extBut hs₁.extBut D.l1z) hx λh₂ h1₂ hs₂=>wP ?_);refine wP ?_;refine wB (wB (wpAny_holding ?_));show wpAny _ _ (Builtin.SmallTypes.nextOf (.ref i2) >>= _) _ _ _
   refine wB (Bf ((h2.extBut hs₁.extBut D.i2z).extBut hs₂.extBut D.i12.symm)
    ((hl2.extBut hs₁.extBut D.l2z).extBut hs₂.extBut D.l2i1) hy λh₄ h2₄ hs₄=>wP ?_)
   refine wP (wP ?_);refine wB (wpAny_newTuple (hsz:=by show 2<=sizeLine;rw[sizeLine_eq];lia) ?_);have hsz:h₄.objs.size=s.heap.objs.size:=by rw[hs₄.1,hs₂.1,hs₁.1]
   have hz₄:ZG h₄ z TI TO f0 f1':=hs₄.extBut _ _ D.i2z.symm (hs₂.extBut _ _ D.i1z.symm hz₁)
   have hk₄:∀c o,c≠z->c≠TO->c≠i1->c≠i2->s.heap.get? c=some o->h₄.get? c=some o:=λc o c1 c2 c3 c4 e=>
    hs₄.extBut _ _ c4 (hs₂.extBut _ _ c3 (hs₁.extBut _ _ c1 e))
   have hTO₄:IsPair h₄ TO a b:=hs₄.extBut _ _ D.TOi2 (hs₂.extBut _ _ D.TOi1 (hs₁.extBut _ _ D.TOz hTO));have h1₄:IsTupIter h₄ i1 l1 (k1 + 1):=h1₂.extBut hs₄.extBut D.i12;have up:∀c o,h₄.get? c=some o->(h₄.push {cls:=.type "tuple",data:=.seq #[x,y]}).get? c=some o:=λc o e=>gP e
   refine wP ⟨_,rfl,?_⟩;show Q (.ref h₄.objs.size) _;have hT:IsPair (h₄.push {cls:=.type "tuple",data:=.seq #[x,y]}) h₄.objs.size x y:=Heap.get?_push_size _ rfl;rw[hsz]at hT ⊢;exact hQ _ _ _ a b (up _ _ hz₄) hf (up _ _ hTO₄) (let⟨o,e,r⟩:=h1₄;⟨o,up _ o e,r⟩) (let⟨o,e,r⟩:=h2₄;⟨o,up _ o e,r⟩) hT (by rw[Heap.size_push,hsz]) λc o c1 c2 c3 c4 e=>up c o (hk₄ c o c1 c2 c3 c4 e)
theorem K0{TI TO:Addr}{xs ys:Array Value}{f1:Bool}{Q:Fin->Shared->Prop}(hh:A.handled=none)(D:ZipApart z TI TO i1 i2 l1 l2)
 (hz:ZG s.heap z TI TO f0 f1)(hf:F0 f0)(hTI:IsPair s.heap TI (.ref i1) (.ref i2))(hTO:IsPair s.heap TO a b)
 (h1:IsTupIter s.heap i1 l1 k1)(h2:IsTupIter s.heap i2 l2 k2)(hl1:IsTup s.heap l1 xs)(hl2:IsTup s.heap l2 ys)(hend:xs[k1]? =none\/ys[k2]? =none)
 (hE:∀h' e,(∀c o,c≠z->c≠TO->c≠i1->c≠i2->s.heap.get? c=some o->h'.get? c=some o)->(∃o,h'.get? e=some o/\o.cls= .type "StopIteration")->E (.ref e) {s with heap:=h'}):
 wpAny (model prog w) A (Builtin.«zip.__next__» ⟨[.ref z],[]⟩) Q E s:=by
 show wpAny _ _ (field (.ref z) 2 >>= _) _ _ _;refine wB (wpAny_field hz rfl (x:=.bool false) rfl ?_);show wpAny _ _ (field (.ref z) 3 >>= _) _ _ _;refine wB (wpAny_field hz rfl (x:=.ref TI) rfl ?_);refine wB (wpAny_seqItems hTI rfl ?_);show wpAny _ _ (Builtin.SmallTypes.ownedTupleIsFree (.ref z) >>= _) _ _ _;refine wB (Mv hz hf ?_ λh₁ f1' hz₁ hs₁=>?_)
 . simp only[if_true];refine wB (wpAny_rule ?_);refine wB (wpAny_field hz rfl (x:=.ref TO) rfl ?_);refine wB (wpAny_setField_rec hz (by simp) λh₁ hz₁ hs₁=>?_);replace hz₁:ZG h₁ z TI TO .ellipsis f1:=hz₁;refine wB ?_;simp only[List.zipIdx_cons,List.zipIdx_nil,forIn_cons,forIn_nil];refine wB (wB (wpAny_onRaise ?_));show wpAny _ _ (Builtin.SmallTypes.nextOf (.ref i1) >>= _) _ _ _;cases hx:xs[k1]? with
   | none=>
     refine wB (Co hh (h1.extBut hs₁.extBut D.i1z) (hl1.extBut hs₁.extBut D.l1z) hx λh₂ e hs₂ he=>?_);obtain⟨oe,hoe,hce⟩:=he;have hz₂:ZG h₂ z TI TO .ellipsis f1:=hs₂ _ _ D.i1z.symm hz₁;have hez:e≠z:=λx=>by subst x;rw[hz₂]at hoe;cases hoe;simp at hce
     refine wpAny_setField_rec hz₂ (by simp) λh₃ _ hs₃=>hE h₃ e (λc o c1 _ c3 _ x=>hs₃.extBut _ _ c1 (hs₂ _ _ c3 (hs₁.extBut _ _ c1 x))) ⟨oe,hs₃.extBut _ _ hez hoe,hce⟩
   | some x=>
     have hy:ys[k2]? =none:=by rcases hend with h|h;rw[hx]at h;cases h;exact h
     refine wB (Bf (h1.extBut hs₁.extBut D.i1z) (hl1.extBut hs₁.extBut D.l1z) hx λh₂ h1₂ hs₂=>wP ?_);have hTO₂:IsPair h₂ TO a b:=hs₂.extBut _ _ D.TOi1 (hs₁.extBut _ _ D.TOz hTO);refine wB (wpAny_seqItems hTO₂ rfl ?_);refine wB (wpAny_updateSeq_pair hTO₂ λh₃ hTO₃ hs₃=>?_);refine wB (wpAny_letGo (wP ?_));refine wB (wB (wpAny_onRaise ?_));show wpAny _ _ (Builtin.SmallTypes.nextOf (.ref i2) >>= _) _ _ _
     refine wB (Co hh (((h2.extBut hs₁.extBut D.i2z).extBut hs₂.extBut D.i12.symm).extBut hs₃.extBut D.TOi2.symm)
      (((hl2.extBut hs₁.extBut D.l2z).extBut hs₂.extBut D.l2i1).extBut hs₃.extBut D.l2TO) hy λh₄ e hs₄ he=>?_)
     obtain⟨oe,hoe,hce⟩:=he;have hz₄:ZG h₄ z TI TO .ellipsis f1:=hs₄ _ _ D.i2z.symm (hs₃.extBut _ _ D.TOz.symm (hs₂.extBut _ _ D.i1z.symm hz₁));have hez:e≠z:=λx=>by subst x;rw[hz₄]at hoe;cases hoe;simp at hce
     refine wpAny_setField_rec hz₄ (by simp) λh₅ _ hs₅=>hE h₅ e (λc o c1 c2 c3 c4 x=>hs₅.extBut _ _ c1 (hs₄ _ _ c4 (hs₃.extBut _ _ c2 (hs₂.extBut _ _ c3 (hs₁.extBut _ _ c1 x))))) ⟨oe,hs₅.extBut _ _ hez hoe,hce⟩
 . simp only[Bool.false_eq_true,if_false];refine wB ?_;simp only[<-Array.forIn_toList,forIn_cons,forIn_nil];refine wB (wB (wpAny_holding ?_));show wpAny _ _ (Builtin.SmallTypes.nextOf (.ref i1) >>= _) _ _ _;cases hx:xs[k1]? with
   | none=>
     refine wB (Co hh (h1.extBut hs₁.extBut D.i1z) (hl1.extBut hs₁.extBut D.l1z) hx λh₂ e hs₂ he=>?_);exact hE h₂ e (λc o c1 _ c3 _ x=>hs₂ _ _ c3 (hs₁.extBut _ _ c1 x)) he
   | some x=>
     have hy:ys[k2]? =none:=by rcases hend with h|h;rw[hx]at h;cases h;exact h
     refine wB (Bf (h1.extBut hs₁.extBut D.i1z) (hl1.extBut hs₁.extBut D.l1z) hx λh₂ h1₂ hs₂=>wP ?_);refine wP ?_;refine wB (wB (wpAny_holding ?_));show wpAny _ _ (Builtin.SmallTypes.nextOf (.ref i2) >>= _) _ _ _
     refine wB (Co hh ((h2.extBut hs₁.extBut D.i2z).extBut hs₂.extBut D.i12.symm)
      ((hl2.extBut hs₁.extBut D.l2z).extBut hs₂.extBut D.l2i1) hy λh₄ e hs₄ he=>?_)
     exact hE h₄ e (λc o c1 _ c3 c4 x=>hs₄ _ _ c4 (hs₂.extBut _ _ c3 (hs₁.extBut _ _ c1 x))) he
end PySem
namespace PySem
open Sem (wp)
open PyProof.Rows
namespace ZT
theorem Jg:typeLookup (.type "zip") "__len__"=pure none:=rfl
theorem T4:typeLookup (.type "zip") "__length_hint__"=pure none:=rfl
end ZT
variable{prog:Program}{w:World}{A:Around}{E:Value->Shared->Prop}{s:Shared}
theorem Ep{TI TO:Addr}{f1:Bool}(hz:ZG s.heap z TI TO f0 f1):s.TypeIs (.ref z) "zip":=⟨_,hz,rfl⟩
theorem RF{TI TO:Addr}{f1:Bool}{Q:Value->Shared->Prop}(hz:ZG s.heap z TI TO f0 f1)(h:Q (.ref z) s):wpAny (model prog w) A (pyIter (.ref z)) Q E s:=by
 have hT:=Ep hz;refine wpAny_pyIter_slot hT F.slot_zip_iter (wpAny_call_entry F.slot_zip_iter hT F.entry_zip_iter ?_ (F.args_zip_iter_1 _));show wpAny _ _ (ret (.ref z)) _ _ s;exact wP ⟨_,rfl,"zip",_,hT,F.slot_zip_next.lookup,h⟩
theorem RI{TI TO:Addr}{f1:Bool}{Q:Bool->Shared->Prop}(hz:ZG s.heap z TI TO f0 f1)(h:∀b,Q b s):wpAny (model prog w) A (Builtin.List.listLengthHint (.ref z)) Q E s:=by
 unfold Builtin.List.listLengthHint;refine wB (wpAny_specialOf (Ep hz) ZT.Jg ?_)
 try dsimp only
 refine wpAny_ite_split (λhab=>absurd hab (by decide +kernel)) (λ_=>?_);refine wpAny_ite_split (λhab=>absurd hab (by decide)) (λ_=>?_);refine wB (wpAny_specialOf (Ep hz) ZT.T4 ?_)
 try dsimp only
 exact wP (h _)
variable{k1 k2:Nat}
theorem RG{TI TO:Addr}{xs ys:Array Value}{x y:Value}{f1:Bool}{Q:Option Value->Shared->Prop}(D:ZipApart z TI TO i1 i2 l1 l2)
 (hz:ZG s.heap z TI TO f0 f1)(hf:F0 f0)(hTI:IsPair s.heap TI (.ref i1) (.ref i2))(hTO:IsPair s.heap TO a b)
 (h1:IsTupIter s.heap i1 l1 k1)(h2:IsTupIter s.heap i2 l2 k2)(hl1:IsTup s.heap l1 xs)(hl2:IsTup s.heap l2 ys)(hx:xs[k1]? =some x)(hy:ys[k2]? =some y)
 (hQ:∀h' f0' f1' a' b',ZG h' z TI TO f0' f1'->F0 f0'->IsPair h' TO a' b'->IsTupIter h' i1 l1 (k1 + 1)->IsTupIter h' i2 l2 (k2 + 1)->IsPair h' s.heap.objs.size x y->h'.objs.size=s.heap.objs.size + 1->
  (∀c o,c≠z->c≠TO->c≠i1->c≠i2->s.heap.get? c=some o->h'.get? c=some o)->Q (some (.ref s.heap.objs.size)) {s with heap:=h'}):
 wpAny (model prog w) A (pyNext (.ref z)) Q E s:=by
 have hT:=Ep hz;unfold pyNext
 exact wB (wpAny_attempt (wpAny_callSpecial?_slot (name:=Str.ofString "__next__") hT F.slot_zip_next
  (wpAny_call_entry F.slot_zip_next hT F.entry_zip_next
   (IS D hz hf hTI hTO h1 h2 hl1 hl2 hx hy λh' f0' f1' a' b' a1 a1' a2 a3 a4 a5 a6 a7=>wP (hQ h' f0' f1' a' b' a1 a1' a2 a3 a4 a5 a6 a7)) (F.args_zip_next_1 _))))
theorem V2{TI TO:Addr}{xs ys:Array Value}{f1:Bool}{Q:Option Value->Shared->Prop}(hh:A.handled=none)(D:ZipApart z TI TO i1 i2 l1 l2)
 (hz:ZG s.heap z TI TO f0 f1)(hf:F0 f0)(hTI:IsPair s.heap TI (.ref i1) (.ref i2))(hTO:IsPair s.heap TO a b)
 (h1:IsTupIter s.heap i1 l1 k1)(h2:IsTupIter s.heap i2 l2 k2)(hl1:IsTup s.heap l1 xs)(hl2:IsTup s.heap l2 ys)(hend:xs[k1]? =none\/ys[k2]? =none)
 (hQ:∀h',(∀c o,c≠z->c≠TO->c≠i1->c≠i2->s.heap.get? c=some o->h'.get? c=some o)->Q none {s with heap:=h'}):wpAny (model prog w) A (pyNext (.ref z)) Q E s:=by
 have hT:=Ep hz;unfold pyNext
 refine wB (wpAny_attempt (wpAny_callSpecial?_slot (name:=Str.ofString "__next__") hT F.slot_zip_next
  (wpAny_call_entry F.slot_zip_next hT F.entry_zip_next (K0 hh D hz hf hTI hTO h1 h2 hl1 hl2 hend λh' e hk he=>?_) (F.args_zip_next_1 _))))
 obtain⟨o,ho,hc⟩:=he;refine wB (wpAny_isInstance (T:="StopIteration") (b:=true) ⟨o,ho,hc⟩ isSubtype_stop ?_);exact wP (hQ _ hk)
structure ZS(z TI TO i1 i2 l1 l2:Addr)(xs ys:Array Value)(i:Nat)(h:Heap):Prop where
 zg:∃f0 f1,ZG h z TI TO f0 f1/\F0 f0
 ti:IsPair h TI (.ref i1) (.ref i2)
 to:∃a b,IsPair h TO a b
 Xo:IsTupIter h i1 l1 i
 Xn:IsTupIter h i2 l2 i
 t1:IsTup h l1 xs
 t2:IsTup h l2 ys
variable{h h':Heap}
theorem ZS.frame{TI TO:Addr}{xs ys:Array Value}{i:Nat}(x:ZS z TI TO i1 i2 l1 l2 xs ys i h)(k:∀b∈[z,TI,TO,i1,i2,l1,l2],∀o,h.get? b=some o->h'.get? b=some o):ZS z TI TO i1 i2 l1 l2 xs ys i h' where
 zg:=let⟨f0,f1,a,b⟩:=x.zg;⟨f0,f1,k z (by simp) _ a,b⟩
 ti:=k TI (by simp) _ x.ti
 to:=let⟨a,b,e⟩:=x.to;⟨a,b,k TO (by simp) _ e⟩
 Xo:=let⟨o,e,r⟩:=x.Xo;⟨o,k i1 (by simp) o e,r⟩
 Xn:=let⟨o,e,r⟩:=x.Xn;⟨o,k i2 (by simp) o e,r⟩
 t1:=let⟨o,e,r⟩:=x.t1;⟨o,k l1 (by simp) o e,r⟩
 t2:=let⟨o,e,r⟩:=x.t2;⟨o,k l2 (by simp) o e,r⟩
def ZT(xs ys:Array Value)(h:Heap)(ts:List Addr):Prop:=∀(j:Nat) (t:Addr),ts[j]? =some t->∃x y,xs[j]? =some x/\ys[j]? =some y/\IsPair h t x y
theorem ZT.frame{xs ys:Array Value}{ts:List Addr}(x:ZT xs ys h ts)(k:∀b∈ts,∀o,h.get? b=some o->h'.get? b=some o):ZT xs ys h' ts:=λj t e=>by
 obtain⟨a,b,e1,e2,e3⟩:=x j t e;exact⟨a,b,e1,e2,k t (mem_of_getElem? e) _ e3⟩
theorem RD{R:Result->Shared->Prop}(hh:A.handled=none){TI TO:Addr}{xs ys:Array Value}(D:ZipApart z TI TO i1 i2 l1 l2)(S:Addr)(hS:S∉[z,TI,TO,i1,i2,l1,l2])(res:Value)(base:Nat)(hn:min xs.size ys.size<=sizeLine):
 ∀(k i:Nat) (s:Shared) (ts:List Addr) (c:Nat),min xs.size ys.size - i=k->i<=min xs.size ys.size->ZS z TI TO i1 i2 l1 l2 xs ys i s.heap->
 s.heap.get? S=some {cls:=.type "list",dict:=none,data:=.seq (ts.map Value.ref).toArray c,slots:=#[]}->ts.length=i->ZT xs ys s.heap ts->ts.Nodup->(∀t∈ts,base<=t/\t < s.heap.objs.size/\t≠S/\t∉[z,TO,i1,i2])->base<=s.heap.objs.size->
 (∀h' tk ts' c',(∀b o,b≠S->b∉[z,TO,i1,i2]->s.heap.get? b=some o->h'.get? b=some o)->h'.get? S=some {cls:=.type "list",dict:=none,data:=.seq (ts'.map Value.ref).toArray c',slots:=#[]}->ts'.length=min xs.size ys.size->ZT xs ys h' ts'->ts'.Nodup->(∀t∈ts',base<=t/\t≠S)->
   R (.ok (.ret res)) {s with heap:=h',toks:=tk})->
 codeAny (model prog w) A (.builtin "list.extend.loop" ⟨[.ref S,.ref z,res],[]⟩) R s:=by
 intro k
 induction k with
 | zero=>
   intro i s ts c hk hi st hSl hts zt nd hb hbs hR;have hin:i=min xs.size ys.size:=by lia
   obtain⟨f0,f1,hz,hf⟩:=st.zg;obtain⟨a,b,hTO⟩:=st.to;refine codeAny_builtin F.entry_extend_loop ?_;rw[Around.under_plainId F.plain_extend_loop _];show wpAny _ A.in1 (pyNext (.ref z) >>= _) _ _ s
   have hend:xs[i]? =none\/ys[i]? =none:=by
    rcases Nat.le_total xs.size ys.size with h|h
    . exact .inl (Array.getElem?_eq_none (by lia))
    . exact .inr (Array.getElem?_eq_none (by lia))
   refine wB (V2 hh D hz hf st.ti hTO st.Xo st.Xn st.t1 st.t2 hend λh' hkp=>?_)
   have kp:∀b o,b∉[z,TO,i1,i2]->s.heap.get? b=some o->h'.get? b=some o:=λb o hb e=>by
    simp only[mem_cons,not_mem_nil,or_false,not_or]at hb;exact hkp b o hb.1 hb.2.1 hb.2.2.1 hb.2.2.2 e
   have hS4:S∉[z,TO,i1,i2]:=λq=>hS (by simp only[mem_cons,not_mem_nil,or_false]at q ⊢;rcases q with q|q|q|q<;>simp[q])
   exact wP (hR h' s.toks ts c (λb o _ hb e=>kp b o hb e) (kp S _ hS4 hSl) (by lia) (zt.frame λb hb' o e=>kp b o (hb b hb').2.2.2 e) nd λt ht=>⟨(hb t ht).1,(hb t ht).2.2.1⟩)
 | succ k ih=>
   intro i s ts c hk hi st hSl hts zt nd hb hbs hR;have hix:i < xs.size:=by lia
   have hiy:i < ys.size:=by lia
   obtain⟨f0,f1,hz,hf⟩:=st.zg;obtain⟨a,b,hTO⟩:=st.to;refine codeAny_builtin F.entry_extend_loop ?_;rw[Around.under_plainId F.plain_extend_loop _];show wpAny _ A.in1 (pyNext (.ref z) >>= _) _ _ s;refine wB (RG D hz hf st.ti hTO st.Xo st.Xn st.t1 st.t2 (Array.getElem?_eq_getElem hix) (Array.getElem?_eq_getElem hiy) λh' f0' f1' a' b' g1 g1' g2 g3 g4 g5 g6 hkp=>?_)
   have kp:∀b o,b∉[z,TO,i1,i2]->s.heap.get? b=some o->h'.get? b=some o:=λb o hb e=>by
    simp only[mem_cons,not_mem_nil,or_false,not_or]at hb;exact hkp b o hb.1 hb.2.1 hb.2.2.1 hb.2.2.2 e
   have hS4:S∉[z,TO,i1,i2]:=λq=>hS (by simp only[mem_cons,not_mem_nil,or_false]at q ⊢;rcases q with q|q|q|q<;>simp[q])
   have hSl':=kp S _ hS4 hSl;have lt:∀{c o},s.heap.get? c=some o->s.heap.objs.size≠c:=λe=>Nat.ne_of_gt (Heap.lt_size e)
   have hTS:s.heap.objs.size≠S:=lt hSl
   have hT4:s.heap.objs.size∉[z,TO,i1,i2]:=by
    simp only[mem_cons,not_mem_nil,or_false,not_or];exact⟨lt hz,lt hTO,let⟨_,e,_⟩:=st.Xo;lt e,let⟨_,e,_⟩:=st.Xn;lt e⟩
   show wpAny _ A.in1 (updateSeq S (·.push (.ref s.heap.objs.size)) >>= _) _ _ _;refine wB ?_;have hself:=PySem.IsL.update hSl' (·.push (Value.ref s.heap.objs.size));rw[show(ts.map Value.ref).toArray.push (Value.ref s.heap.objs.size)=((ts++[s.heap.objs.size]).map Value.ref).toArray by simp]at hself;have oth:∀b o,b≠S->h'.get? b=some o->(h'.update S (Obj.mapSeq (·.push (Value.ref s.heap.objs.size)))).get? b=some o:=λb o hb e=>(Heap.get?_update_other _ _ (Ne.symm hb)).trans e
   have zs':ZS z TI TO i1 i2 l1 l2 xs ys (i + 1) h':=⟨⟨f0',f1',g1,g1'⟩,kp _ _ (by
    simp only[mem_cons,not_mem_nil,or_false,not_or];exact⟨D.TIz,D.TITO,D.TIi1,D.TIi2⟩) st.ti,⟨a',b',g2⟩,g3,g4,(let⟨o,e,r⟩:=st.t1;⟨o,kp _ o (by
    simp only[mem_cons,not_mem_nil,or_false,not_or];exact⟨D.l1z,D.l1TO,D.l1i1,D.l1i2⟩) e,r⟩),(let⟨o,e,r⟩:=st.t2;⟨o,kp _ o (by
    simp only[mem_cons,not_mem_nil,or_false,not_or];exact⟨D.l2z,D.l2TO,D.l2i1,D.l2i2⟩) e,r⟩)⟩
   refine wpAny_updateSeq hSl' rfl (wP ⟨plainId_quiet F.plain_extend_loop _,ih (i + 1) _ (ts++[s.heap.objs.size]) _ (by lia) (by lia) (zs'.frame λb hb o e=>oth b o (λq=>hS (q▸hb)) e) hself (by rw[lA,hts];rfl) ?_ ?_ ?_ ?_ ?_⟩)
    (by rw[size_toArray,lM];lia) (by rw[Array.size_push,size_toArray,lM];lia)
   . intro j t e;rcases Nat.lt_or_ge j ts.length with q|q
     . rw[List.getElem?_append_left q]at e;obtain⟨x,y,e1,e2,e3⟩:=zt j t e;have ht:=mem_of_getElem? e;exact⟨x,y,e1,e2,oth _ _ (hb t ht).2.2.1 (kp _ _ (hb t ht).2.2.2 e3)⟩
     . have hj:j=ts.length:=by
        obtain⟨hl,_⟩:=List.getElem?_eq_some_iff.mp e;rw[lA,lS]at hl
        lia
       subst hj;rw[List.getElem?_append_right (lR),Nat.sub_self]at e;have e:t=s.heap.objs.size:=(Option.some.inj e).symm;subst e;rw[hts];exact⟨_,_,Array.getElem?_eq_getElem hix,Array.getElem?_eq_getElem hiy,oth _ _ hTS g5⟩
   . rw[nodup_append];refine⟨nd,by simp,λp hp q hq=>?_⟩;rw[mE hq];exact Nat.ne_of_lt (hb p hp).2.1
   . intro t ht;have hsz:(h'.update S (Obj.mapSeq (·.push (Value.ref s.heap.objs.size)))).objs.size=h'.objs.size:=(Heap.SameBut.update ..).1;show base<=t/\t < (h'.update S (Obj.mapSeq (·.push (Value.ref s.heap.objs.size)))).objs.size/\_;rw[hsz,g6];rcases mem_append.mp ht with q|q
     . have:=hb t q;exact⟨this.1,Nat.lt_succ_of_lt this.2.1,this.2.2⟩
     . rw[mE q];exact⟨hbs,Nat.lt_succ_self _,hTS,hT4⟩
   . show base<=(h'.update S (Obj.mapSeq (·.push (Value.ref s.heap.objs.size)))).objs.size;have hsz:(h'.update S (Obj.mapSeq (·.push (Value.ref s.heap.objs.size)))).objs.size=h'.objs.size:=(Heap.SameBut.update ..).1;rw[hsz,g6]
     lia
   . intro h'' tk ts' c' k1 k2 k3 k4 k5 k6;exact hR h'' tk ts' c' (λb o hb1 hb2 e=>k1 b o hb1 hb2 (oth b o hb1 (kp b o hb2 e))) k2 k3 k4 k5 k6
end PySem
namespace PySem
open Sem (wp)
open PyProof.Rows
variable{prog:Program}{w:World}{A:Around}{E:Value->Shared->Prop}{s:Shared}
abbrev Zg(S:Addr)(z TO i1 i2:Addr)(xs ys:Array Value)(base:Nat)(h h':Heap)(ts':List Addr)(c':Nat):Prop:=
 (∀b o,b≠S->b∉[z,TO,i1,i2]->h.get? b=some o->h'.get? b=some o)/\h'.get? S=some {cls:=.type "list",dict:=none,data:=.seq (ts'.map Value.ref).toArray c',slots:=#[]}/\ts'.length=min xs.size ys.size/\ZT xs ys h' ts'/\ts'.Nodup/\∀t∈ts',base<=t/\t≠S
variable{R:Result->Shared->Prop}
theorem NG(hh:A.handled=none){TI TO:Addr}{xs ys:Array Value}(D:ZipApart z TI TO i1 i2 l1 l2)(st:ZS z TI TO i1 i2 l1 l2 xs ys 0 s.heap)(S:Addr)(hS:S∉[z,TI,TO,i1,i2,l1,l2])(res:Value)(base:Nat)(hb:base<=s.heap.objs.size)(hn:min xs.size ys.size<=sizeLine)(c₀:Nat)
 (hSl:s.heap.get? S=some {cls:=.type "list",data:=.seq #[] c₀})
 (hR:∀h' tk ts' c',Zg S z TO i1 i2 xs ys base s.heap h' ts' c'->R (.ok (.ret res)) {s with heap:=h',toks:=tk}):
 wpAny (model prog w) A.in1 (Builtin.List.listExtendWith (.ref S) (.ref z) res)
  (λfin s'=>match fin with| .done f=>R (.ok f) s'| .again c'=>c'.quiet=true/\codeAny (model prog w) A c' R s') (λe s'=>R (.error e) s') s:=by
 obtain⟨f0,f1,hz,hf⟩:=st.zg
 have key:∀(h:Heap) (c₁ tk:Nat),h.objs.size=s.heap.objs.size->(∀b o,b≠S->s.heap.get? b=some o->h.get? b=some o)->
  h.get? S=some {cls:=.type "list",data:=.seq #[] c₁}->codeAny (model prog w) A (.builtin "list.extend.loop" ⟨[.ref S,.ref z,res],[]⟩) R {s with heap:=h,toks:=tk}:=by
  intro h c₁ tk hsz hk hS₁;refine RD hh D S hS res base hn (min xs.size ys.size) 0 _ [] c₁ (by lia) (Nat.zero_le _) (st.frame λb hb o e=>hk b o (λq=>hS (q▸hb)) e) hS₁ rfl (λj t e=>by simp at e) nodup_nil (λt ht=>by cases ht) (by show base<=h.objs.size;lia) λh' tk' ts' c' k1 k2 k3 k4 k5 k6=>?_
  exact hR h' tk' ts' c' ⟨λb o hb1 hb2 e=>k1 b o hb1 hb2 (hk b o hb1 e),k2,k3,k4,k5,k6⟩
 unfold Builtin.List.listExtendWith;refine wB (wpAny_typeOf (T:="zip") (Ep hz) ?_);have hSz:S≠z:=λq=>hS (by simp[q])
 have h1:Builtin.List.listSameRef (.ref S) (.ref z)=false:=by simp[Builtin.List.listSameRef,hSz]
 have h2:(Value.type "zip" == Value.type "list")=false:=by decide
 have h3:(Value.type "zip" == Value.type "tuple")=false:=by decide
 simp only[h1,h2,h3,Bool.or_false,Bool.false_eq_true,if_false];refine wB (RF hz ?_);refine wB (wpAny_holding (RI hz λb=>?_));refine wpAny_ite_split (λ_=>?_) (λ_=>wP ⟨plainId_quiet PySem.F.plain_extend_loop _,key _ c₀ s.toks rfl (λb o _ e=>e) hSl⟩);refine wB (wpAny_rule ?_);refine wB ?_;show wpAny _ _ (updateSeq S (·.push .none) >>= λ_=>updateSeq S (·.pop)) _ _ _;refine wB (wpAny_updateSeq hSl rfl ?_);have hS₂:=Heap.get?_update_self (Obj.mapSeq (·.push Value.none)) hSl rfl;refine wpAny_updateSeq (hz:=by seq_fits) hS₂ rfl ?_;have hS₃:=Heap.get?_update_self (Obj.mapSeq (·.pop)) hS₂ rfl
 have oth:∀b o,b≠S->s.heap.get? b=some o->((s.heap.update S (Obj.mapSeq (·.push Value.none))).update S (Obj.mapSeq (·.pop))).get? b=some o:=λb o hb e=>
  (Heap.get?_update_other _ _ (Ne.symm hb)).trans ((Heap.get?_update_other _ _ (Ne.symm hb)).trans e)
 have hsz:((s.heap.update S (Obj.mapSeq (·.push Value.none))).update S (Obj.mapSeq (·.pop))).objs.size=s.heap.objs.size:=((Heap.SameBut.update ..).1).trans (Heap.SameBut.update ..).1;exact wP ⟨plainId_quiet PySem.F.plain_extend_loop _,key _ _ _ hsz oth hS₃⟩
theorem RH(hh:A.handled=none){TI TO:Addr}{xs ys:Array Value}(D:ZipApart z TI TO i1 i2 l1 l2)(st:ZS z TI TO i1 i2 l1 l2 xs ys 0 s.heap)(S:Addr)(hS:S∉[z,TI,TO,i1,i2,l1,l2])(base:Nat)(hb:base<=s.heap.objs.size)(hn:min xs.size ys.size<=sizeLine)
 (hSl:s.heap.get? S=some {cls:=.type "list",data:=.seq #[]})
 (hR:∀h' tk ts' c',Zg S z TO i1 i2 xs ys base s.heap h' ts' c'->R (.ok (.ret .none)) {s with heap:=h',toks:=tk}):
 wpAny (model prog w) A.in1 (Builtin.«list.__init__» ⟨[.ref S,.ref z],[]⟩)
  (λfin s'=>match fin with| .done f=>R (.ok f) s'| .again c'=>c'.quiet=true/\codeAny (model prog w) A c' R s') (λe s'=>R (.error e) s') s:=by
 show wpAny _ _ (do let old <-Builtin.List.listItems (.ref S);Builtin.List.listUpdate (.ref S) (λ_=>#[]);letGo old.toList.reverse;Builtin.List.listExtendWith (.ref S) (.ref z) .none) _ _ s;refine wB ?_;unfold Builtin.List.listItems;refine wB (wpAny_seqItems hSl rfl (wP ?_));show wpAny _ _ (updateSeq S (λ_=>#[]) >>= λ_=>letGo (#[]:Array Value).toList.reverse >>= λ_=>Builtin.List.listExtendWith (.ref S) (.ref z) .none) _ _ s;refine wB (wpAny_updateSeq hSl rfl ?_);have hS₂:=Heap.get?_update_self (Obj.mapSeq (λ_=>(#[]:Array Value))) hSl rfl
 have oth:∀b o,b≠S->s.heap.get? b=some o->(s.heap.update S (Obj.mapSeq (λ_=>(#[]:Array Value)))).get? b=some o:=
  λb o hb e=>(Heap.get?_update_other _ _ (Ne.symm hb)).trans e
 have hsz:(s.heap.update S (Obj.mapSeq (λ_=>(#[]:Array Value)))).objs.size=s.heap.objs.size:=(Heap.SameBut.update ..).1;refine wB (wpAny_letGo ?_);refine NG (s:={s with heap:=_}) hh D (st.frame λb hb o e=>oth b o (λq=>hS (q▸hb)) e) S hS .none base (by show base<=(s.heap.update S (Obj.mapSeq (λ_=>(#[]:Array Value)))).objs.size;lia) hn _ hS₂ (λh' tk ts' c' k=>?_);exact hR h' tk ts' c' ⟨λb o hb1 hb2 e=>k.1 b o hb1 hb2 (oth b o hb1 e),k.2⟩
theorem RE{Q:Value->Shared->Prop}(hh:A.handled=none){TI TO:Addr}{xs ys:Array Value}(D:ZipApart z TI TO i1 i2 l1 l2)(st:ZS z TI TO i1 i2 l1 l2 xs ys 0 s.heap)(base:Nat)(hb:base<=s.heap.objs.size)(hn:min xs.size ys.size<=sizeLine)
 (hQ:∀h' tk ts' c',(∀b o,b∉[z,TO,i1,i2]->s.heap.get? b=some o->h'.get? b=some o)->h'.get? s.heap.objs.size=some {cls:=.type "list",dict:=none,data:=.seq (ts'.map Value.ref).toArray c',slots:=#[]}->ts'.length=min xs.size ys.size->ZT xs ys h' ts'->ts'.Nodup->(∀t∈ts',base<=t/\t≠s.heap.objs.size)->Q (.ref s.heap.objs.size) {s with heap:=h',toks:=tk}):
 wpAny (model prog w) A (call (.type "list") [.ref z]) Q E s:=by
 refine callType_codes (Q₁:=λobj s₁=>obj= .ref s.heap.objs.size/\s₁={s with heap:=s.heap.push {cls:=.type "list",data:=.seq #[]}}) PySem.F.called_list (PySem.F.typeCall_list_1 _) PySem.F.entry_list_init
  (code_list_new _ ⟨rfl,rfl⟩) λobj s₁ h₁=>?_
 obtain⟨rfl,rfl⟩:=h₁;have hS:(s.heap.push {cls:=.type "list",data:=.seq #[]}).get? s.heap.objs.size=some {cls:=.type "list",data:=.seq #[]}:=Heap.get?_push_size _ rfl;have lt:∀{c o},s.heap.get? c=some o->s.heap.objs.size≠c:=λe=>Nat.ne_of_gt (Heap.lt_size e)
 obtain⟨f0,f1,hz,hf⟩:=st.zg;obtain⟨a,b,hTO⟩:=st.to
 have hSn:s.heap.objs.size∉[z,TI,TO,i1,i2,l1,l2]:=by
  simp only[mem_cons,not_mem_nil,or_false,not_or];exact⟨lt hz,lt st.ti,lt hTO,let⟨_,e,_⟩:=st.Xo;lt e,let⟨_,e,_⟩:=st.Xn;lt e,let⟨_,e,_⟩:=st.t1;lt e,let⟨_,e,_⟩:=st.t2;lt e⟩
 refine⟨⟨_,hS,rfl⟩,PySem.F.args_list_init_2 _ _,RH (A:=A.in1) (s:={s with heap:=_}) hh D (st.frame λb _ o e=>gP e) _ hSn base (by show base<=(s.heap.push _).objs.size;rw[Heap.size_push];lia) hn hS (λh' tk ts' c' k=>?_)⟩;obtain⟨k1,k2,k3,k4,k5,k6⟩:=k;exact⟨rfl,hQ h' tk ts' c' (λb o hb e=>k1 b o (Nat.ne_of_lt (Heap.lt_size e)) hb (gP e)) k2 k3 k4 k5 k6⟩
abbrev RM(h:Heap)(l1:Addr):Heap:=h.push {cls:=.type "tuple_iterator",data:=.fields #[.ref l1,.int 0 0]}
abbrev RL(h:Heap)(l1 l2:Addr):Heap:=(RM h l1).push {cls:=.type "tuple_iterator",data:=.fields #[.ref l2,.int 0 0]}
abbrev RK(h:Heap)(l1 l2:Addr):Heap:=(RL h l1 l2).push {cls:=.type "tuple",data:=.seq #[.ref h.objs.size,.ref (RM h l1).objs.size]}
abbrev RJ(h:Heap)(l1 l2:Addr):Heap:=(RK h l1 l2).push {cls:=.type "tuple",data:=.seq #[.none,.none]}
abbrev K1(h:Heap)(l1 l2:Addr):Heap:=(RJ h l1 l2).push {cls:=.type "zip",data:=.fields #[.none,.bool false,.bool false,.ref (RL h l1 l2).objs.size,.ref (RK h l1 l2).objs.size]}
theorem Jm(l1 l2:Addr)(xs ys:Array Value):
 Meets (Builtin.«zip.__new__» ⟨[.type "zip",.ref l1,.ref l2],[]⟩) (λ_ R s=>IsTup s.heap l1 xs/\IsTup s.heap l2 ys/\
  R (.ok (.ret (.ref (RJ s.heap l1 l2).objs.size))) {s with heap:=K1 s.heap l1 l2}):=
 .of_wp λprog w A R s h=>by
  obtain⟨hp,g,d,tk,os⟩:=s;obtain⟨hl1,hl2,h⟩:=h;have hsub:=sub_zip;have hL1:IsTup (Shared.heap ⟨hp,g,d,tk,os⟩) l1 xs:=hl1;have hL2:IsTup (Shared.heap ⟨hp.push {cls:=.type "tuple_iterator",data:=.fields #[.ref l1,.int 0 0]},g,d,tk,os⟩) l2 ys:=hl2.push _
  wp_walk using iter_tuple hL1,iter_tuple hL2
  exact⟨_,rfl,h⟩
theorem Uc{xs ys:Array Value}{Q:Value->Shared->Prop}(hl1:IsTup s.heap l1 xs)(hl2:IsTup s.heap l2 ys)
 (h:∀h',ZS (s.heap.objs.size + 4) (s.heap.objs.size + 2) (s.heap.objs.size + 3) s.heap.objs.size (s.heap.objs.size + 1) l1 l2 xs ys 0 h'->ZipApart (s.heap.objs.size + 4) (s.heap.objs.size + 2) (s.heap.objs.size + 3) s.heap.objs.size (s.heap.objs.size + 1) l1 l2->h'.objs.size=s.heap.objs.size + 5->
   (∀c o,s.heap.get? c=some o->h'.get? c=some o)->Q (.ref (s.heap.objs.size + 4)) {s with heap:=h'}):
 wpAny (model prog w) A (call (.type "zip") [.ref l1,.ref l2]) Q E s:=by
 refine callType_new F.called_zip (by decide) (F.typeCall_zip_2 _ _) (F.newCall_zip_2 _ _) (λobj=>F.args_object_init_3 obj _ _) F.entry_zip_new
  (Jm l1 l2 xs ys) ⟨hl1,hl2,?_⟩
 have z1:(RM s.heap l1).objs.size=s.heap.objs.size + 1:=Heap.size_push ..;have z2:(RL s.heap l1 l2).objs.size=s.heap.objs.size + 2:=by rw[Heap.size_push,z1]
 have z3:(RK s.heap l1 l2).objs.size=s.heap.objs.size + 3:=by rw[Heap.size_push,z2]
 have z4:(RJ s.heap l1 l2).objs.size=s.heap.objs.size + 4:=by rw[Heap.size_push,z3]
 have z5:(K1 s.heap l1 l2).objs.size=s.heap.objs.size + 5:=by rw[Heap.size_push,z4]
 have g5:(K1 s.heap l1 l2).get? (RJ s.heap l1 l2).objs.size=some _:=Heap.get?_push_size _ rfl;have g4:(K1 s.heap l1 l2).get? (RK s.heap l1 l2).objs.size=some _:=gP (Heap.get?_push_size _ rfl);have g3:(K1 s.heap l1 l2).get? (RL s.heap l1 l2).objs.size=some _:=gP (gP (Heap.get?_push_size _ rfl));have g2:(K1 s.heap l1 l2).get? (RM s.heap l1).objs.size=some _:=gP (gP (gP (Heap.get?_push_size _ rfl)));have g1:(K1 s.heap l1 l2).get? s.heap.objs.size=some _:=gP (gP (gP (gP (Heap.get?_push_size _ rfl))))
 have kp:∀c o,s.heap.get? c=some o->(K1 s.heap l1 l2).get? c=some o:=λc o x=>
  gP (gP (gP (gP (gP x))))
 have n1:=hl1.lt;have n2:=hl2.lt;show _/\_;rw[z2,z3,z4]at g5;rw[z1,z2]at g3;rw[z3]at g4;rw[z1]at g2;rw[z4];refine⟨⟨_,g5,rfl⟩,h _ ⟨⟨_,_,g5,.inl rfl⟩,g3,⟨_,_,g4⟩,⟨_,g1,rfl,rfl⟩,⟨_,g2,rfl,rfl⟩,hl1.keeps kp,hl2.keeps kp⟩ ?_ z5 kp⟩;constructor<;>(intro q;(try simp at q))<;>(first|exact absurd q (Nat.ne_of_lt (by first|exact n1|exact n2|exact Nat.lt_of_lt_of_le n1 (Nat.le_add_right _ _)|exact Nat.lt_of_lt_of_le n2 (Nat.le_add_right _ _)))|(exact absurd q (by first|exact Nat.ne_of_lt (Nat.lt_add_of_pos_right (by decide))|skip)))
end PySem
namespace L2
open PySem PyProof.Rows
variable{X:Cx}{pins:List (Addr×Obj)}{σ:St}{H H':Hp}{s:Shared}{h':Heap}
theorem Inv.many{t':Nat}(I:Inv X pins σ H s)(k:∀b u,s.heap.get? b=some u->h'.get? b=some u)(hH:∀b,b < s.heap.objs.size->H' b=H b)(Aj:Dg X.prog X.w H' h'):Inv X pins σ H' {s with heap:=h',toks:=t'}:=by
 have up:∀{b o},H b=some o->H' b=some o:=λ{b o} e=>by rw[hH b (I.Aj.lt e)];exact e
 refine I.un ⟨λb o e _ _ _=>k b o e,λb o e _ _ _=>⟨o.slots,k b o e⟩,λb o e n _=>?_,λb o e _=>⟨o,k b o e⟩,λb xs e=>up e,λb o u e=>up e,λb ps e=>⟨#[],by rw[up e];simp⟩⟩ Aj;rw[hH b (Heap.lt_size e)];exact n
def Hz(H:Hp):List Addr->List (V×V)->Hp
 |t::ts,pr::ps=>upd (Hz H ts ps) t (.tup [pr.1,pr.2])
 |_,_=>H
variable{H:Hp}
theorem Rx:∀{ts:List Addr} {ps:List (V×V)} {b:Addr},b∉ts->Hz H ts ps b=H b
 |[],_,_,_=>by unfold Hz;rfl
 |_::_,[],_,_=>by unfold Hz;rfl
 | t::ts,pr::ps,b,h=>by
   unfold Hz;rw[Au (λz=>h (by simp[z])),Rx λz=>h (mC z)]
theorem Ry:∀{ts:List Addr} {ps:List (V×V)},ts.length=ps.length->ts.Nodup->Paired (λt (pr:V×V)=>Hz H ts ps t=some (.tup [pr.1,pr.2])) ts ps
 |[],[],_,_=>.nil
 |[],_::_,h,_=>by cases h
 |_::_,[],h,_=>by cases h
 | t ::ts,pr::ps,h,nd=>by
   obtain⟨n1,n2⟩:=nodup_cons.mp nd;have ih:Paired (λt (pr:V×V)=>Hz H ts ps t=some (.tup [pr.1,pr.2])) ts ps:=Ry (by simpa using h) n2
   have key:∀{us:List Addr} {qs:List (V×V)},(∀u∈us,u≠t)->Paired (λt (pr:V×V)=>Hz H ts ps t=some (.tup [pr.1,pr.2])) us qs->Paired (λu (q:V×V)=>Hz H (t::ts) (pr::ps) u=some (.tup [q.1,q.2])) us qs:=by
    intro us qs hu hp
    induction hp with
    |nil=>exact .nil
    | cons r _ ih=>
      refine .cons ?_ (ih λu hm=>hu u (mC hm));show upd (Hz H ts ps) t _ _=_;rw[Au (hu _ mS)];exact r
   refine .cons (by show upd (Hz H ts ps) t _ t=_;rw[AH]) (key (λu hm z=>n1 (z▸hm)) ih)
theorem ND:∀{ts:List Addr} {ps:List (V×V)} {b:Addr} {o:HO},Hz H ts ps b=some o->H b=some o\/∃(j:Nat) (pr:V×V),ts[j]? =some b/\ps[j]? =some pr/\o= .tup [pr.1,pr.2]
 |[],_,_,_,h=>by unfold Hz at h;exact .inl h
 |_::_,[],_,_,h=>by unfold Hz at h;exact .inl h
 | t ::ts,pr::ps,b,o,h=>by
   unfold Hz at h
   by_cases hb:b=t
   . rw[hb,AH]at h;cases h;exact .inr ⟨0,pr,by rw[hb];rfl,rfl,rfl⟩
   . rw[Au hb]at h;rcases ND h with z|⟨j,q,e1,e2,e3⟩
     . exact .inl z
     . exact .inr ⟨j + 1,q,by rw[List.getElem?_cons_succ];exact e1,by rw[List.getElem?_cons_succ];exact e2,e3⟩
theorem HY:∀(ts:List Addr),Vals (ts.map V.ref) (ts.map Value.ref)
 |[]=>.nil
 |t::ts=>.cons rfl (HY ts)
noncomputable def ZZ(K:PySem.W.Frag)(ta:TA):TE:=λσ H Q=>ta σ H λvs H1=>∃a b xs ys,vs=[.ref a,.ref b]/\En K H1 a xs/\En K H1 b ys/\
 ∀(l:Addr) (ts:List Addr) (H3:Hp),Di H1 H3->H1 l=none->H3 l=some (.lst (ts.map V.ref))->Paired (λt (pr:V×V)=>H3 t=some (.tup [pr.1,pr.2])) ts (xs.zip ys)->Q (.ref l) H3
theorem LI{X:Cx}{e1 e2:Expr}{ta:TA}{p1 p2 pos:Pos}(hc:X.calm=true)(hg1:Gl X "list")(hm1:X.mg "list"=none)(hg2:Gl X "zip")(hm2:X.mg "zip"=none)(ha:PA X [e1,e2] ta)(hs2:starEach [e1,e2] X.env=[(false,eval e1 X.env),(false,eval e2 X.env)])
 (hs3:starEach [e2] X.env=[(false,eval e2 X.env)])(hs1:starEach [.Call (.Name "zip" p2) [e1,e2] [] p3] X.env=[(false,eval (.Call (.Name "zip" p2) [e1,e2] [] p3) X.env)]:=by rfl):
 PE X (.Call (.Name "list" p1) [.Call (.Name "zip" p2) [e1,e2] [] p3] [] pos) (ZZ X.K ta):=by
 intro pins s σ H Q I h;refine wpAny_Call_Name_kw (CT I hg1 hm1 boot_list ?_ (by decide) (by decide));refine PyProof.Rows.callWith_type1 ?_ hs1 rfl;rw[hs1];show wpAny _ _ (spliced ((false,eval (.Call (.Name "zip" p2) [e1,e2] [] p3) X.env)::backTo pos [])) _ _ s;refine Calls.spliced_cons ?_;refine wpAny_Call_Name_kw (CT I hg2 hm2 boot_zip ?_ (by decide) (by decide));refine PyProof.Rows.callWith_type1 (BB (ha p3 pins s σ H _ I h) λus s1 ⟨vs,H1,I1,r1,q1⟩=>?_) (by rw[hs2,hs3]) (by rw[hs3];rfl);obtain⟨a,b,xs,ys,rfl,hq1,hq2,q⟩:=q1;obtain⟨u,w,rfl,ru,rw'⟩:=vals2 r1;cases ru;cases rw';obtain⟨its1,rv1,pl1,hz1⟩:=I1.tuple hq1;obtain⟨its2,rv2,pl2,hz2⟩:=I1.tuple hq2;have hl1:=rv1.length;have hl2:=rv2.length;refine Uc pl1 pl2 λh5 zs D hsz kp=>?_
 refine Calls.spliced_nil ?_;refine RE (s:={s1 with heap:=h5}) (I1.ok.hd hc) D zs (s1.heap.objs.size + 5) (by show _<=h5.objs.size;lia) (by rw[size_toArray,size_toArray];lia) λh' tk ts c' k1 k2 k3 k4 k5 k6=>?_
 have kp2:∀b o,s1.heap.get? b=some o->h'.get? b=some o:=λb o e=>k1 b o (by
  have lt:=Heap.lt_size e;simp only[mem_cons,not_mem_nil,or_false,not_or]
  refine⟨Nat.ne_of_lt (Nat.lt_of_lt_of_le lt (Nat.le_add_right _ _)),Nat.ne_of_lt (Nat.lt_of_lt_of_le lt (Nat.le_add_right _ _)),Nat.ne_of_lt lt,Nat.ne_of_lt (Nat.lt_of_lt_of_le lt (Nat.le_add_right _ _))⟩) (kp b o e)
 have hSz:({s1 with heap:=h5}:Shared).heap.objs.size=s1.heap.objs.size + 5:=hsz;have k2':=k2;rw[hSz]at k2' k6 ⊢
 have hlen:ts.length=(xs.zip ys).length:=by
  rw[k3,size_toArray,size_toArray,length_zip,hl1,hl2]
 let H3:Hp:=upd (Hz H1 ts (xs.zip ys)) (s1.heap.objs.size + 5) (.lst (ts.map V.ref))
 have hnew:∀b,b < s1.heap.objs.size->b∉ts:=λb hb hm=>by
  have:=(k6 b hm).1;exact absurd hb (Nat.not_lt.mpr (Nat.le_trans (Nat.le_add_right _ _) this))
 have hne5:∀b,b < s1.heap.objs.size->b≠s1.heap.objs.size + 5:=λb hb=>Nat.ne_of_lt (Nat.lt_of_lt_of_le hb (Nat.le_add_right _ _))
 have hold:∀b,b < s1.heap.objs.size->H3 b=H1 b:=λb hb=>by
  show upd _ _ _ b=_;rw[Au (hne5 b hb),Rx (hnew b hb)]
 have up:∀{b o},H1 b=some o->H3 b=some o:=λ{b o} e=>by rw[hold b (I1.Aj.lt e)];exact e
 have Aj:Dg X.prog X.w H3 h':=λb o e=>by
  by_cases hb:b=s1.heap.objs.size + 5
  . subst hb;have e:upd (Hz H1 ts (xs.zip ys)) (s1.heap.objs.size + 5) (.lst (ts.map V.ref)) (s1.heap.objs.size + 5)=some o:=e;rw[AH]at e;cases e;refine⟨by rw[lM,hlen,length_zip];lia,ts.map Value.ref,c',HY ts,k2'⟩
  . have e:upd (Hz H1 ts (xs.zip ys)) (s1.heap.objs.size + 5) (.lst (ts.map V.ref)) b=some o:=e;rw[Au hb]at e;rcases ND e with z|⟨j,pr,j1,j2,rfl⟩
    . exact(I1.Aj b o z).Lx (λc u _ q=>kp2 c u q) (λc q=>up q) λc xs q=>up q
    . obtain⟨x,y,x1,x2,x3⟩:=k4 j b j1;obtain⟨px,py⟩:=pr;have jz:=List.getElem?_zip_eq_some.mp j2;obtain⟨u1,g1,g2⟩:=rv1.get jz.1;obtain⟨u2,g3,g4⟩:=rv2.get jz.2;rw[List.getElem?_toArray]at x1 x2;rw[g1]at x1;rw[g3]at x2;cases x1;cases x2;exact⟨by show 2<=sizeLine;rw[sizeLine_eq];lia,[_,_],.cons g2 (.cons g4 .nil),_,x3,rfl,_,rfl⟩
 have hS1:H1 (s1.heap.objs.size + 5)=none:=I1.Aj.fresh (Nat.le_add_right _ _);refine⟨.ref (s1.heap.objs.size + 5),H3,I1.many (t':=tk) kp2 hold Aj,rfl,q _ ts H3 (λb o e=>up e) hS1 AH ?_⟩;have hp:=Ry (H:=H1) hlen k5
 have key:∀{us:List Addr} {qs:List (V×V)},(∀u∈us,u≠s1.heap.objs.size + 5)->Paired (λt (pr:V×V)=>Hz H1 ts (xs.zip ys) t=some (.tup [pr.1,pr.2])) us qs->Paired (λu (q:V×V)=>H3 u=some (.tup [q.1,q.2])) us qs:=by
  intro us qs hu hp
  induction hp with
  |nil=>exact .nil
  | cons r _ ih=>
    refine .cons ?_ (ih λu hm=>hu u (mC hm));show upd _ _ _ _=_;rw[Au (hu _ mS)];exact r
 exact key (λu hm=>(k6 u hm).2) hp
end L2
namespace Iv
open PySem L2 PyProof.Rows
section
variable{X:Cx}{W:Wd}{cf:CF}{mt:MT}
theorem MJ{H:Hp}:∀{ps qs:List P} {xs ys:List V} {ts:List Addr},A7 W H ps xs->A7 W H qs ys->Paired (λt (pr:V×V)=>H t=some (.tup [pr.1,pr.2])) ts (xs.zip ys)->A7 W H (Ln ps qs) (ts.map V.ref)
 | [],qs,xs,ys,ts,h1,h2,h3=>by
   have hx:=h1.length;have:xs=[]:=length_eq_zero_iff.mp hx;subst this;rw[List.zip_nil_left]at h3;cases h3;exact A7.nil
 | p::ps,[],xs,ys,ts,h1,h2,h3=>by
   have hy:=h2.length;have:ys=[]:=length_eq_zero_iff.mp hy;subst this;rw[List.zip_nil_right]at h3;cases h3;exact A7.nil
 | p ::ps,q::qs,xs,ys,ts,h1,h2,h3=>by
   cases xs with
   |nil=>have:=h1.length;cases this
   | cons x xs=>
     cases ys with
     |nil=>have:=h2.length;cases this
     | cons y ys=>
       rw[zip_cons_cons]at h3;cases h3 with
       | cons r t=>
         obtain⟨a1,a2⟩:=h1.Bo;obtain⟨b1,b2⟩:=h2.Bo;refine A7.cons ?_ (MJ a2 b2 t);refine Ap.mpr ⟨_,[x,y],rfl,En.of r,.cons a1 (.cons b1 .nil)⟩
theorem MH{ps:List P}(h:Gk c=some ps):c= .p (.tup ps):=by
 unfold Gk at h;split at h
 . cases h;rfl
 . cases h
theorem Kg(hK:W.K=X.K)(hw:W.w=X.w)(hc:X.calm=true)(hg:Gl X "list")(hm:X.mg "list"=none){l m:Expr}{u w:T}{p q pos:Pos}(hg2:Gl X "zip")(hm2:X.mg "zip"=none)(ha:PA X [l,m] (tG W (Be W) (An cf mt [u,w])))(s1:AU l=true)(s2:AU m=true):
 AX X W cf mt (.Call (.Name "list" p) [.Call (.Name "zip" q) [l,m] [] p2] [] pos) (.prim (.list .zip) [u,w]):=by
 refine AX.of hK hw Bw BU rfl rfl (λpins s σ H Q I z=>?_) (λ_=>rfl) rfl;have hs3:starEach [m] X.env=[(false,eval m X.env)]:=Ay s2 [] X.env;have hs2:starEach [l,m] X.env=[(false,eval l X.env),(false,eval m X.env)]:=by rw[Ay s1,hs3]
 have z:=GR (o:=.list .zip) rfl z;refine LI hc hg hm hg2 hm2 ha hs2 hs3 rfl pins s σ H Q I ?_;refine ES z λvs H1 ⟨hl,cs,c,r1,e,nq⟩=>?_
 match cs,r1,e with
 |[],r1,e=>cases e
 |[_],r1,e=>cases e
 |_::_::_::_,r1,e=>cases e
 | [c1,c2],r1,e=>
   have e:((Gk c1).bind λx=>(Gk c2).map λy=>C.lst (Ln x y))=some c:=e;obtain⟨ps,e1,e⟩:=oB e;obtain⟨qs,e2,rfl⟩:=oM e;have:=MH e1;subst this;have:=MH e2;subst this;obtain⟨v1,r,rfl,g1,v2,r2,rfl,g2,g3⟩:=r1;have g3:r2=[]:=g3;subst g3;obtain⟨a,xs,rfl,a1,a2⟩:=CB g1;obtain⟨b,ys,rfl,b1,b2⟩:=CB g2;refine⟨a,b,xs,ys,rfl,hK▸a1,hK▸b1,λL ts H3 sm hn hL hp=>?_⟩;have kp:=Bm.of sm;exact nq (.ref L) H3 [L] sm ⟨L,ts.map V.ref,rfl,hL,MJ (a2.mono kp) (b2.mono kp) hp,rfl⟩ (by simp) (λx hx=>by rw[mE hx];exact hn)
end
section
variable{X:Cx}{W:Wd}{cf:CF}{mt:MT}
theorem GP{st:Stmt}{as:List Nat}{F:Env->Res Fl}(hF:∀ρ,F ρ= .stuck):PS X st (tS W as F):=λ_ _ _ _ _ _ h=>by
 obtain⟨ρ,os,hR,hn,hA⟩:=h;rw[hF]at hA;exact False.elim hA
noncomputable def Pr(W:Wd):Us:=λo i v H Q=>∃b k p b' a,o= .ref a/\C4 W H b (.ref a) [a]/\Av W H k i/\Av W H p v/\Dy b k p=some b'/\∀x',C4 W (upd H a x') b' (.ref a) [a]->Bm H (upd H a x')->Q (upd H a x')
theorem Pf(hK:W.K=X.K)(hw:W.w=X.w)(hu:X.A.units + 200 < cLine):Zk X (Pr W):=by
 intro pins s σ H o i v ov iv u Q I ro ri rv h;obtain⟨b,k,p,b',a,rfl,hb,hk,hp,e,q⟩:=h;cases b with
 |p _=>cases e
 |ro _=>cases e
 |lst _=>cases e
 | AJ kvs=>
   obtain⟨a',ea,hd,_⟩:=hb;cases ea;have e:(if(keyOk k && decide (kvs.length < big))=true then some (B.AJ (dput kvs k p))else none)=some b':=e;split at e
   . rename_i hc;cases e;rw[bA]at hc;cases ro;refine Mj hK hw hu I hd hc.1 hk hp (of_decide_eq_true hc.2) ri rv λes es' s' hH hd' I'=>⟨_,I',?_⟩
     exact q (DX a es') ⟨a,rfl,hd',rfl⟩ (N4 hH)
   . cases e
theorem Il(h:Dz o=true):∃b,o=some (.b b)/\C.cp (.b b)=false:=by
 unfold Dz at h;split at h
 . exact⟨_,rfl,rfl⟩
 . exact⟨_,rfl,rfl⟩
 . cases h
variable{H:Hp}{os:List Addr}
theorem Ib{D:Ends}{σ:L2.St}(hR:Ab W H ρ σ os)(hn:os.Nodup)(hh:E8 W σ H ρ h (.ref a) [])(hp:∀c,h≠.BG c)(hk:∃o,Bt W H k i o)(hv:Av W H v x)(hA:Cy W [] D σ H os (BH h k v ρ)):
 Pr W (.ref a) i x H λH4=>D.nx σ H4:=by
 unfold BH at hA;cases ec:h.cont ρ with
 |none=>rw[ec]at hA;exact False.elim hA
 | some d=>
   rw[ec]at hA;cases d with
   |obj _ _=>exact False.elim hA
   | b b =>
     cases k with
     |obj _ _=>exact False.elim hA
     | b y =>
       cases y with
       | p kp=>
         dsimp only at hA;cases es:Dy b kp v with
         |none=>rw[es]at hA;exact False.elim hA
         | some b'=>
           rw[es]at hA;have hA:Cy W [] D σ H os ((Res.of (setB ρ h b') ρ).bind λρ' _=>.ok .nx ρ'):=hA;cases e2:setB ρ h b' with
           |none=>rw[e2]at hA;exact False.elim hA
           | some ρ'=>
             rw[e2]at hA;have hA:∀σ' H' os',Ab W H' ρ' σ' os'->os'.Nodup->Bn H H' os os'->B7 [] σ σ'->D.nx σ' H':=hA
             have nb:C.cp (.b b)=false:=by
              cases b with
              |lst _=>cases es
              |AJ _=>rfl
              |p _=>cases es
              |ro _=>cases es
             have hb:C4 W H b (.ref a) [a]:=by
              cases h with
              |BG c=>exact absurd rfl (hp c)
              | slot i=>
                obtain⟨v,o,q1,q2,_⟩:=hR.get (show A9 ρ i=some (.b b)from ec);rw[hh.1]at q1;cases q1;have:=C4.addr q2 nb;subst this;exact q2
              | fld i f=>
                obtain⟨a0,C,dx,fs,v,b0,o',q1,q2,_,_,q5,eb,q6⟩:=DU hR (show BE ρ i f=some (.b b)from ec);cases eb;obtain⟨_,a1,C1,dx1,fs1,g1,g2,g3⟩:=hh;rw[g1]at q1;cases q1;rw[g2]at q2;cases q2;rw[g3]at q5;cases q5;have:=C4.addr q6 nb;subst this;exact q6
             obtain⟨ok,hk⟩:=hk;refine⟨b,kp,v,b',a,rfl,hb,hk.1,hv,es,λx' hb' k'=>?_⟩;obtain⟨os',t1,t2,t3⟩:=I0 hR hn ec hh nb hb' k' e2;exact hA σ _ os' t1 (t2.nodup_iff.mpr hn) t3 (B7.refl _ _)
       |_=>exact False.elim hA
theorem AV(o i v:T)(ρ:Env):exec cf mt A6 (.Dx o i v) ρ=match placeOf o with
 |some h=>if !h.CQ || i.calm then(ev cf mt v ρ).bind λv ρ=>BS h (ev cf mt i) v ρ else .stuck
 |none=>.stuck:=rfl
variable{pos:Pos}
theorem Nz{env:PySem.Env}(h:AU i=true)(v:Value):assign (.Subscript o i pos) env v=(do
 let ov <-holding [v] (eval o env)
 let iv <-holding [v,ov] (eval i env)
 standAt pos
 holding [v,ov,iv] (setItem ov iv v)
 release [v,ov,iv] []):=by
 cases i<;>first|rfl|cases h
theorem TX{t:T}(ht:t.calm=true){σ:L2.St}(hR:Ab W H ρ σ os):ev cf mt t ρ= .stuck\/∃c ρ' v,ev cf mt t ρ= .ok c ρ'/\XR W σ H t v/\(c.cp=true->ρ'=ρ/\Bt W H c v []):=by
 cases t with
 | cst p=>
   obtain⟨v,hv⟩:=Lh (W:=W) (H:=H) (show HM p=true from ht);exact .inr ⟨.p p,ρ,v,by show(den cf mt (.cst p)).v ρ=_;unfold den;rfl,⟨ht,hv⟩,λ_=>⟨rfl,hv,rfl⟩⟩
 | var i=>
   rw[Me];cases hg:A9 ρ i with
   |none=>exact .inl rfl
   | some c=>
     obtain⟨v,o,q1,q2,_⟩:=hR.get hg;refine .inr ?_;cases hc:c.cp with
     | true=>
       have:=q2.cp hc;subst this;exact⟨c,ρ,v,by simp[hc],q1,λ_=>⟨rfl,q2⟩⟩
     |false=>exact⟨c,ρ.set i none,v,by simp[hc],q1,λz=>by rw[hc]at z;cases z⟩
 | bor i=>
   rw[show ev cf mt (.bor i) ρ=(match A9 ρ i with|some c=>if c.cp then .ok c ρ else .stuck|none=>.stuck)from by show(den cf mt (.bor i)).v ρ=_;unfold den;rfl];cases hg:A9 ρ i with
   |none=>exact .inl rfl
   | some c=>
     obtain⟨v,o,q1,q2,_⟩:=hR.get hg;cases hc:c.cp with
     | true=>
       have:=q2.cp hc;subst this;exact .inr ⟨c,ρ,v,by simp[hc],q1,λ_=>⟨rfl,q2⟩⟩
     |false=>exact .inl (by simp[hc])
 | fld i f=>
   rw[show ev cf mt (.fld i f) ρ=(match BE ρ i f with|some c=>if c.cp then .ok c ρ else .stuck|none=>.stuck)from by show(den cf mt (.fld i f)).v ρ=_;unfold den;rfl];cases hg:BE ρ i f with
   |none=>exact .inl rfl
   | some c=>
     obtain⟨a,C,dx,fs,v,b,o',q1,q2,q3,q4,q5,rfl,q6⟩:=DU hR hg;cases hc:Iv.C.cp (.b b)with
     | true=>
       have:o'=[]:=Bt.cp (c:=.b b) q6 hc;subst this;exact .inr ⟨.b b,ρ,v,by simp[hc],⟨a,C,dx,fs,q1,q2,q3,q4,q5⟩,λ_=>⟨rfl,q6⟩⟩
     |false=>exact .inl (by simp[hc])
 |_=>cases ht
theorem Ph{k:C}(hk:k.cp=false):BH h k v ρ= .stuck:=by
 unfold BH;cases k with
 | obj _ _=>cases h.cont ρ with
   |none=>rfl
   |some d=>cases d<;>rfl
 | b y=>
   cases y with
   |p _=>cases hk
   |ro _=>cases hk
   | lst _=>cases h.cont ρ with
     |none=>rfl
     |some d=>cases d<;>rfl
   | AJ _=>cases h.cont ρ with
     |none=>rfl
     |some d=>cases d<;>rfl
theorem MS(hK:W.K=X.K)(hw:W.w=X.w)(hu:X.A.units + 200 < cLine){ix val:Expr}{to:TE}{spos:Pos}(hr:OE X W e o to)(hi:AX X W cf mt ix i)(hv:AX X W cf mt val v):
 PS X (.Assign [.Subscript e ix pos] val spos) (tS W [] (exec cf mt A6 (.Dx o i v))):=by
 have hs:swapsWithSole [.Subscript e ix pos] val spos.line X.env=pure false:=by
  show swapsWith val (some (.Subscript e ix pos)) spos.line X.env=pure false;cases val<;>rfl
 have hwp:swappedStores [.Subscript e ix pos] val X.env=pure none:=by cases val<;>rfl
 have fin:∀(h:Hd) (a:Addr) {σ:L2.St} {H1:Hp} {D:Ends} {ρ1:Env} {os1:List Addr} {p:P} {x:V},(∀c,h≠.BG c)->Ab W H1 ρ1 σ os1->os1.Nodup->Av W H1 p x->(∀H2 ρ2,h.CQ=false->E8 W σ H2 ρ2 h (.ref a) [])->h.CQ=false->Cy W [] D σ H1 os1 ((ev cf mt i ρ1).bind λk ρ=>BH h k p ρ)->
  tG W (rV W) (ev cf mt i) σ H1 λiv H2=>Pr W (.ref a) iv x H2 λH3=>D.nx σ H3:=by
  intro h a σ H1 D ρ1 os1 p x hp hR hn hx hst hnf hA;refine⟨ρ1,os1,hR,hn,?_⟩;unfold Ck;cases eF:ev cf mt i ρ1 with
  |stuck=>rw[eF]at hA;exact hA
  | ok k ρ2=>
    rw[eF,Res.A5]at hA;intro iv H2 o2 os2 r1 r2 r3 r4;have hA:=hA.later r4 (B7.refl _ _);exact Ib r2 (nA r3).2.1 (hst H2 ρ2 hnf) hp ⟨o2,r1⟩ (hx.mono (r4.but.keep hR.own)) (hA.less λa ha=>mR ha)
 cases hr with
 | @nm x p j hx=>
   refine CS (PD hv.v (PO hx hi.v (Pf hK hw hu) (Nz hi.st)) hs hwp rfl) λD σ H z=>?_
   obtain⟨ρ,os,hR,hn,hA⟩:=z;rw[AV]at hA;have hA:Cy W [] D σ H os ((ev cf mt v ρ).bind λv ρ=>BS (.slot j) (ev cf mt i) v ρ):=hA;refine⟨ρ,os,hR,hn,after hR hA λc ρ1 xv H1 o1 os1 r1 r2 r3 r4 r5=>?_⟩;unfold BS at r5;split at r5
   . rename_i p;have r1:Bt W H1 (.p p) xv o1:=r1;obtain⟨r6,rfl⟩:=r1;split at r5
     case isFalse=>exact False.elim r5
     rename_i hc;obtain⟨b,eb,nb⟩:=Il hc;obtain⟨ov,o,q1,q2,_⟩:=r2.get (show A9 ρ1 j=some (.b b)from eb)
     obtain⟨a,rfl⟩:∃a,ov= .ref a:=by
      cases b with
      |lst _=>obtain⟨a,_,rfl,_⟩:=q2;exact⟨a,rfl⟩
      |AJ _=>obtain⟨a,rfl,_⟩:=q2;exact⟨a,rfl⟩
      |p _=>cases nb
      |ro _=>cases nb
     exact⟨.ref a,q1,fin (.slot j) a (λc z=>by cases z) r2 r3 r6 (λ_ _ _=>⟨q1,rfl⟩) rfl r5⟩
   . exact False.elim r5
 | @fl x f p q j hx=>
   by_cases hcalm:i.calm=true
   . refine CS (PD hv.v (PO hx (hi.x hcalm) (Pf hK hw hu) (Nz hi.st)) hs hwp rfl) λD σ H z=>?_
     obtain⟨ρ,os,hR,hn,hA⟩:=z;rw[AV]at hA;have hA:Cy W [] D σ H os (if(!true || i.calm)=true then(ev cf mt v ρ).bind λv ρ=>BS (.fld j f) (ev cf mt i) v ρ else .stuck):=hA;rw[iP (by rw[hcalm];rfl)]at hA;refine⟨ρ,os,hR,hn,after hR hA λc ρ1 xv H1 o1 os1 r1 r2 r3 r4 r5=>?_⟩;unfold BS at r5;split at r5
     . rename_i p;have r1:Bt W H1 (.p p) xv o1:=r1;obtain⟨r6,rfl⟩:=r1;split at r5
       case isFalse=>exact False.elim r5
       rename_i hc;obtain⟨b,eb,nb⟩:=Il hc;obtain⟨a0,C,dx,fs,ov,b0,o',q1,q2,c1,c2,q5,ee,q6⟩:=DU r2 (show BE ρ1 j f=some (.b b)from eb);cases ee
       obtain⟨a,rfl⟩:∃a,ov= .ref a:=by
        cases b with
        |lst _=>obtain⟨a,_,rfl,_⟩:=q6;exact⟨a,rfl⟩
        |AJ _=>obtain⟨a,rfl,_⟩:=q6;exact⟨a,rfl⟩
        |p _=>cases nb
        |ro _=>cases nb
       refine⟨.ref a0,q1,a0,C,dx,fs,.ref a,rfl,q2,hK▸c1,hK▸c2,q5,?_⟩;rcases TX (cf:=cf) (mt:=mt) hcalm r2 with e1|⟨k,ρ',iv,e1,e2,e3⟩
       . rw[e1]at r5;exact False.elim r5
       . rw[e1]at r5;refine⟨iv,e2,?_⟩;cases hkc:k.cp with
         | false=>
           have r5:Cy W [] D σ H1 ([]++os1) (BH (.fld j f) k p ρ'):=r5;rw[Ph hkc]at r5;exact False.elim r5
         | true=>
           obtain⟨rfl,e4⟩:=e3 hkc;exact Ib (h:=.fld j f) r2 r3 ⟨rfl,a0,C,dx,fs,q1,q2,q5⟩ (λc z=>by cases z) ⟨[],e4⟩ r6 r5
     . exact False.elim r5
   . refine GP λρ=>?_
     rw[AV];show(if(!true || i.calm)=true then _ else _)=_;rw[iN (by simpa using hcalm)]
end
section
variable{X:Cx}{W:Wd}{cf:CF}{mt:MT}
variable{H:Hp}
theorem BL.put{ob:List Addr}(hb:C4 W H b y ob):∀{fs:List (Str×B)} {vs:List (Str×V)} {o:List Addr},BL W H fs vs o->(o++ob).Nodup->∃o',BL W H (Iv.Br f b fs) (L2.Br f y vs) o'/\o'.Nodup/\∀a∈o',a∈o++ob
 | [],_,_,⟨e1,e2⟩,hn=>by
   subst e1 e2;exact⟨ob++[],⟨y,[],ob,[],rfl,hb,⟨rfl,rfl⟩,rfl⟩,by simpa using hn,λa ha=>by simpa using ha⟩
 | (g, c)::fs,_,_,⟨v,r,o1,o2,e1,h1,h2,e2⟩,hn=>by
   subst e1 e2;have hn':(o1++(o2++ob)).Nodup:=by rw[<-append_assoc];exact hn
   have n1:=nA hn';unfold Iv.Br L2.Br
   by_cases hg:g=f
   . rw[iP hg,iP hg];refine⟨ob++o2,⟨y,r,ob,o2,rfl,hb,h2,rfl⟩,(perm_append_comm.nodup_iff).mp n1.2.1,λa ha=>?_⟩;rcases mem_append.mp ha with z|z
     . exact mR z
     . exact mL (mR z)
   . rw [iN hg,iN hg];obtain⟨o',q1,q2,q3⟩:=BL.put hb h2 n1.2.1;refine⟨o1++o',⟨v,_,o1,o',rfl,h1,q1,rfl⟩,?_,λa ha=>?_⟩
     . rw[nodup_append];exact⟨n1.1,q2,λa ha b hb z=>n1.2.2 a ha b (q3 b hb) z⟩
     . rcases mem_append.mp ha with z|z
       . exact mL (mL z)
       . rcases mem_append.mp (q3 a z)with y|y
         . exact mL (mR y)
         . exact mR y
theorem BL.len:∀{fs:List (Str×B)} {vs:List (Str×V)} {o:List Addr},BL W H fs vs o->vs.length=fs.length
 |[],_,_,h=>by rw[h.1];rfl
 |(g,c)::fs,_,_,⟨v,r,o1,o2,e1,h1,h2,e2⟩=>by rw[e1,lC,lC,BL.len h2]
theorem Qu{a C dx:Addr}{fs:List (Str×V)}{x':HO}(h:H a=some (.ins C dx fs)):Bm H (upd H a x'):=λb=>by
 by_cases hb:b=a
 . subst hb;refine⟨λxs z=>?_,λo u z=>?_⟩
   . rw[h]at z;cases z
   . rw[h]at z;cases z
 . rw[Au hb];exact⟨λ_ z=>z,λ_ _ z=>z⟩
theorem Nb(i:Nat)(f:Str)(v:T)(ρ:Env):exec cf mt A6 (.LA i f v) ρ=(ev cf mt v ρ).bind λv ρ=>MG mt i f v ρ:=rfl
theorem Sv(hK:W.K=X.K)(hF:∀c f,mt.f c f=true->Ci X.K (W.FJ c) f){f:Str}{apos spos:Pos}{val:Expr}{i:Nat}(hx:PE X (.Name x p) (K9 i))(hv:AX X W cf mt val v):
 PS X (.Assign [.Attribute (.Name x p) f apos] val spos) (tS W [] (exec cf mt A6 (.LA i f v))):=by
 refine CS (VE hx hv.v (by cases val<;>rfl)) λD σ H z=>?_
 obtain⟨ρ,os,hR,hn,hA⟩:=z;rw[Nb]at hA;refine⟨ρ,os,hR,hn,after hR hA λc ρ1 y H1 o1 os1 r1 r2 r3 r4 r5=>?_⟩;unfold MG at r5;cases hg:A9 ρ1 i with
 |none=>rw[hg]at r5;exact False.elim r5
 | some d=>
   rw[hg]at r5;cases d with
   |b _=>exact False.elim r5
   | obj kk fs=>
     cases c with
     |obj _ _=>exact False.elim r5
     | b b =>
       dsimp only at r5;split at r5
       case isFalse=>exact False.elim r5
       rename_i hc;rw[bA]at hc;have r5:∀σ' H' os',Ab W H' (ρ1.set i (some (.obj kk (Iv.Br f b fs)))) σ' os'->os'.Nodup->Bn H1 H' (o1++os1) os'->B7 [] σ σ'->D.nx σ' H':=r5;obtain⟨vv,oi,osr,t1,t2,t3,t4⟩:=r2.take hg;obtain⟨a,dx,vs,osf,rfl,q1,q2,rfl,q4⟩:=t2;have n3:=nA r3;have nd:=nA (t4.nodup_iff.mpr n3.2.1);have nf:=nodup_cons.mp nd.1;have ha1:a∈os1:=t4.subset (mL mS);have no:Ci X.K (W.FJ kk) f:=hF kk f hc.1;refine⟨.ref a,t1,a,W.FJ kk,dx,vs,rfl,q1,hK▸q4.1,no,by rw[q2.len];have:=of_decide_eq_true hc.2;lia,?_⟩;have kp:Bm H1 (upd H1 a (.ins (W.FJ kk) dx (L2.Br f y vs))):=Qu q1;have bt:JX [a] H1 (upd H1 a (.ins (W.FJ kk) dx (L2.Br f y vs))):=E2 mS;have fr1:=q2.frame kp bt (λb hb z=>nf.1 (by rw[<-mE z];exact hb));have fb:C4 W (upd H1 a (.ins (W.FJ kk) dx (L2.Br f y vs))) b y o1:=C4.frame r1 kp bt λb hb z=>n3.2.2 b hb a ha1 (mE z)
       have fr3:=t3.frame kp bt λb hb z=>nd.2.2 a mS b hb (mE z).symm
       have dis:∀b∈osf,b∈os1:=λb hb=>t4.subset (mL (mC hb))
       obtain⟨o',g1,g2,g3⟩:=BL.put (f:=f) fb fr1 (by
        rw[nodup_append]
        exact⟨nf.2,n3.1,λb hb d hd z=>n3.2.2 d hd b (dis b hb) z.symm⟩)
       have ha':a∉o':=λz=>by
        rcases mem_append.mp (g3 a z)with y|y
        . exact nf.1 y
        . exact n3.2.2 a y a ha1 rfl
       obtain⟨os2,u1,u2⟩:=Ab.fill (c:=.obj kk (Iv.Br f b fs)) (v:=.ref a) (o:=a::o') ⟨a,dx,_,o',rfl,AH,g1,rfl,q4.put (hK▸no)⟩ fr3 (C5 (Dq hg)) (by rw[length_set];exact Dq hg);rw[set_set,set_same t1]at u1
       have nd2:((a::o')++osr).Nodup:=by
        rw[nodup_append];refine⟨nodup_cons.mpr ⟨ha',g2⟩,nd.2.1,λb hb d hd z=>?_⟩;subst z;rcases mK hb with y|y
        . exact nd.2.2 a mS b hd y.symm
        . rcases mem_append.mp (g3 b y)with w|w
          . exact nd.2.2 b (mC w) b hd rfl
          . exact n3.2.2 b w b (t4.subset (mR hd)) rfl
       refine r5 σ _ os2 u1 (u2.nodup_iff.mpr nd2) ⟨E2 (mR ha1),λb hb=>.inl ?_,λb x e=>?_⟩ (B7.refl _ _)
       . rcases mem_append.mp (u2.subset hb)with y|y
         . rcases mK y with w|w
           . rw[w];exact mR ha1
           . rcases mem_append.mp (g3 b w)with u|u
             . exact mR (dis b u)
             . exact mL u
         . exact mR (t4.subset (mR y))
       . by_cases hba:b=a
         . subst hba;exact⟨_,AH⟩
         . exact⟨x,by rw[Au hba];exact e⟩
theorem JD(i:Nat)(t:T)(ρ:Env):exec cf mt A6 (.asg (.nm i) t) ρ=(ev cf mt t ρ).bind λc ρ=>.ok .nx (ρ.set i (some c)):=rfl
end
structure ZP(a b:Scope):Prop where
 loc:∀x,a.names.lookup x=some .local->b.names.lookup x=some .local
 bp:∀x,a.names.lookup x=some .cell->b.names.lookup x=some .cell
 bT:∀x,a.names.lookup x=some .free->b.names.lookup x=some .free\/b.names.lookup x=some .cell
 cw:∀x,a.names.lookup x=some .globalImplicit->b.names.lookup x=some .globalImplicit
theorem ZP.refl(a:Scope):ZP a a:=⟨λ_ h=>h,λ_ h=>h,λ_ h=>.inl h,λ_ h=>h⟩
theorem CU{env:PySem.Env}:∀{names:List (Str×NameKind)} {x:Str},names.lookup x=some .globalImplicit->
 (names.map λ(n,k)=>if(k == NameKind.free && env.scope.kind == .function && env.kindOf n == some .cell)then(n,NameKind.cell)else(n,k)).lookup x=some .globalImplicit
 |[],_,h=>by simp at h
 | (n,k)::r,x,h=>by
   have ih:=@CU env r x;rw[map_cons];cases hx:x == n with
   | true=>
     simp only[lookup_cons,hx]at h;cases h;simp[lookup_cons,hx]
   | false=>
     simp only[lookup_cons,hx]at h;dsimp only;split
     . simp only[lookup_cons,hx];exact ih h
     . simp only[lookup_cons,hx];exact ih h
structure EO(ct:Ct)(X:Cx)(W:Wd)(cf:CF)(mt:MT)(k:Nat):Prop where
 K:W.K=X.K
 w:W.w=X.w
 N:X.N=ct.N
 nd:X.N.Nodup
 sc:ZP ct.sc X.env.scope
 fn:ct.df=true->∀x,X.fn x=true
 calm:X.calm=true
 room:Cw (k + 1) X.A
 po:PassesOwn (model X.prog X.w) X.A X.env X.xe
 gl:∀x p,ct.gl.lookup x=some p->∃u v,X.mg x=some u/\RelV v u/\∀H,Av W H p v
 own:∀x∈JR,ct.gl.lookup x=none->ct.fns.lookup x=none->ct.cls.lookup x=none->X.mg x=none
 fns:∀x f,ct.fns.lookup x=some f->X.mg x=some (.ref (W.IA f))/\keepIn X.K (.ref (W.IA f))=true/\ZU X W cf k f
 cls:∀x c,ct.cls.lookup x=some c->X.mg x=some (.ref (W.FJ c))/\∀f,mt.m c (Str.ofString "__init__")=some f->Mk X.K (W.FJ c) (W.IA f)
 aP:bx X W cf mt k
 fld:∀c f,mt.f c f=true->Ci X.K (W.FJ c) f
section
variable{ct:Ct}{X:Cx}{W:Wd}{cf:CF}{mt:MT}{k:Nat}
theorem Hj{l:List Str}{i:Nat}(h:l.idxOf? x=some i):l[i]? =some x:=by
 unfold List.idxOf? at h;obtain⟨h1,h2,_⟩:=List.findIdx?_eq_some_iff_getElem.mp h;rw[List.getElem?_eq_getElem h1];exact congrArg some (beq_iff_eq.mp h2)
theorem Fn(h:GZ x=true):(x == ("__debug__":Str))=false/\(x == ("__classdict__":Str))=false/\x≠"__name__":=by
 unfold GZ at h;rw[bA,bA]at h;exact⟨by simpa using h.1.1,by simpa using h.1.2,of_decide_eq_true h.2⟩
theorem EO.slot(L:EO ct X W cf mt k){i:Nat}(h:ct.slot x=some i):X.N[i]? =some x/\Zh X.env.scope x/\(x == ("__debug__":Str))=false/\(x == ("__classdict__":Str))=false:=by
 unfold Ct.slot at h;split at h
 . rename_i hc;rw[bA]at hc;obtain⟨n1,n2,_⟩:=Fn hc.1;refine⟨by rw[L.N];exact Hj h,?_,n1,n2⟩;have hs:=hc.2;unfold seen at hs;split at hs
   . rename_i e;exact .inl (L.sc.loc x e)
   . rename_i e;exact .inr (.inl (L.sc.bp x e))
   . rename_i e;rcases L.sc.bT x e with z|z
     . exact .inr (.inr z)
     . exact .inr (.inl z)
   . cases hs
 . cases h
theorem EO.F9(L:EO ct X W cf mt k){i:Nat}(h:ct.F9 x=some i):X.N[i]? =some x/\Loc X.env.scope x/\(X.fn x=true\/X.env.scope.names.lookup x=some .local):=by
 unfold Ct.F9 at h;split at h
 . rename_i hc;rw[bA]at hc;refine⟨by rw[L.N];exact Hj h,?_⟩;have hs:=hc.2;unfold bound at hs;split at hs
   . rename_i e;exact⟨.inl (L.sc.loc x e),.inr (L.sc.loc x e)⟩
   . rename_i e;exact⟨.inr (L.sc.bp x e),.inl (L.fn hs x)⟩
   . cases hs
 . cases h
theorem EO.glob(L:EO ct X W cf mt k)(h:ct.glob x=true):Gl X x/\(x == ("__debug__":Str))=false/\x≠"__name__":=by
 unfold Ct.glob at h;rw[bA]at h;obtain⟨n1,_,n3⟩:=Fn h.1;exact⟨L.sc.cw x (of_decide_eq_true h.2),n1,n3⟩
theorem EO.VU(L:EO ct X W cf mt k)(h:ct.own x=true):Gl X x/\X.mg x=none/\(x == ("__debug__":Str))=false/\x≠"__name__":=by
 unfold Ct.own at h;simp only[bA]at h;obtain⟨⟨⟨⟨h1,h2⟩,h3⟩,h4⟩,h5⟩:=h;obtain⟨g1,g2,g3⟩:=L.glob h1;exact⟨g1,L.own x (by simpa using h2) (by simpa using h3) (by simpa using h4) (by simpa using h5),g2,g3⟩
theorem EO.un(L:EO ct X W cf mt k):X.A.units + 200 < cLine:=by have:=L.room.un;lia
theorem EO.pv(L:EO ct X W cf mt k){i:Nat}(h:ct.slot x=some i):PE X (.Name x p) (K9 i):=by
 obtain⟨h1,h2,h3,h4⟩:=L.slot h;exact LH h1 h2 h3 h4
variable{sc:Scope}
theorem EO.bW(L:EO ct X W cf mt k){N:List Str}{fr:List (Option Nat)}(h:Rn ct.N ct.sc N sc fr=true):E4 X.N X.env.scope N sc fr:=by
 have h0:Mn ct.N ct.sc N sc fr=true:=h;have ok:=E4.of h0;refine⟨ok.kind,ok.Jf,ok.own,λy hy e=>?_,ok.len,by rw[L.N];exact ok.TR⟩;rcases ok.free y hy e with z|z
 . exact .inl (L.sc.bp _ z)
 . rcases L.sc.bT _ z with q|q
   . exact .inr q
   . exact .inl q
theorem lookup_mem{α:Type}{l:List (Str×α)}{a:α}(h:l.lookup x=some a):(x,a)∈l:=PySem.mem_of_lookup h
theorem EO.block(L:EO ct X W cf mt k)(h:Rn ct.N ct.sc (ct.block sc).1.N sc (ct.block sc).2=true)(hn:(ct.block sc).1.N.Nodup)(C:Addr)(s:Shared)(H:Hp)(fp:List Addr):EO (ct.block sc).1 (Bc X (ct.block sc).1.N sc C s H fp) W cf mt k:=by
 have ok:=L.bW h;refine⟨L.K,L.w,rfl,hn,⟨λx e=>?_,λx e=>?_,λx e=>?_,λx e=>?_⟩,λz=>(by cases z),L.calm,L.room,PassesOwn.never,L.gl,L.own,λx f e=>?_,L.cls,⟨λc m f e=>?_⟩,L.fld⟩
 . exact lookup_relabel_local e
 . exact absurd rfl (ok.Jf _ (lookup_mem e))
 . exact Ce e
 . exact CU e
 . obtain⟨h1,h2,h3⟩:=L.fns x f e;exact⟨h1,h2,⟨h3.ex⟩⟩
 . obtain⟨h1,h2,h3⟩:=L.aP.Yz c m f e;exact⟨h1,h2,⟨h3.ex⟩⟩
theorem Li{es:List Expr}{env:PySem.Env}:assignEach (.Name x p::es) env=(false,assign (.Name x p) env)::assignEach es env:=rfl
theorem PM(L:EO ct X W cf mt k):∀{es:List Expr} {is:List Nat},Od ct es=some is->Zl X es (YI is)/\(assignEach es X.env).length=is.length/\(assignEach es X.env).findIdx? (·.1)=none/\∀i∈is,i < X.N.length
 | [],is,h=>by
   unfold Od at h;cases h;exact⟨SM,rfl,rfl,λi hi=>by cases hi⟩
 | e ::es,is,h=>by
   cases e with
   | Name x p=>
     unfold Od at h;obtain⟨i,h1,h2⟩:=oB h;obtain⟨js,h3,rfl⟩:=oM h2;obtain⟨q1,q2,q3,q4⟩:=PM L h3;obtain⟨t1,t2,t3⟩:=L.F9 h1;refine⟨PN (MW L.nd t1 t2 t3) q1 rfl,by rw[Li,lC,lC,q2],?_,λj hj=>?_⟩
     . rw[Li,List.findIdx?_cons,q3];rfl
     . rcases mK hj with z|z
       . rw[z];exact(List.getElem?_eq_some_iff.mp t1).1
       . exact q4 j z
   |_=>unfold Od at h;cases h
theorem UM(L:EO ct X W cf mt k){tg:Expr}{g:Tg}(h:Xl ct tg=some g):PG X tg (gT W g)/\∀i∈g.slots,i < X.N.length:=by
 cases tg with
 | Name x p=>
   unfold Xl at h;obtain⟨i,h1,rfl⟩:=oM h;obtain⟨t1,t2,t3⟩:=L.F9 h1;refine⟨MW L.nd t1 t2 t3,λj hj=>?_⟩;rw[mE hj];exact(List.getElem?_eq_some_iff.mp t1).1
 | Tuple es n p=>
   unfold Xl at h;obtain⟨is,h1,rfl⟩:=oM h;obtain⟨q1,q2,q3,q4⟩:=PM L h1;refine⟨?_,q4⟩;show PG X (.Tuple es n p) (Ws W.K is.length (YI is));rw[L.K];exact VH L.calm q1 q2 q3
 |_=>unfold Xl at h;cases h
end
def Pk(W:Wd)(cf:CF)(mt:MT)(k:Nat)(e:Expr):Prop:=∀{ct:Ct} {X:Cx} {t:T},EO ct X W cf mt k->kE ct e=some t->AX X W cf mt e t
section
variable{W:Wd}{cf:CF}{mt:MT}{k:Nat}
theorem none_of{α:Type}{a:α}{p:Prop}(h:(none:Option α)=some a):p:=by cases h
variable{pos:Pos}
theorem Uh{c:Const}{n:Nat}:Pk W cf mt k (.Constant c n pos):=by
 intro ct X t L h;cases c with
 |none=>cases h;exact Fe L.K L.w VN (λH=>Ak.mpr rfl) (λ_=>rfl) rfl
 |bool b=>cases h;exact Fe L.K L.w Yd (λH=>AA.mpr rfl) (λ_=>rfl) rfl
 |int i=>cases h;exact Fe L.K L.w VP (λH=>Ac.mpr rfl) (λ_=>rfl) rfl
 |str x=>cases h;exact Fe L.K L.w VJ (λH=>Ai.mpr rfl) (λ_=>rfl) rfl
 |_=>exact none_of h
theorem WG:Pk W cf mt k (.Name x pos):=by
 intro ct X t L h;change ct.name x=_ at h;unfold Ct.name at h;cases hs:ct.slot x with
 | some i=>
   rw[hs]at h;cases h;obtain⟨h1,h2,h3,h4⟩:=L.slot hs;exact RT L.K L.w h1 h2 h3 h4
 | none=>
   rw[hs]at h;dsimp only at h;split at h
   . rename_i hg;cases hl:ct.gl.lookup x with
     |none=>rw[hl]at h;cases h
     | some p=>
       rw[hl]at h;cases h;obtain⟨g1,g2,g3⟩:=L.glob hg;obtain⟨u,v,q1,q2,q3⟩:=L.gl x p hl;exact Fe L.K L.w (SQ g1 q1 q2 g2) q3 (λ_=>rfl) rfl
   . cases h
theorem WR:Pk W cf mt k (.Attribute o f pos):=by
 intro ct X t L h;cases o with
 | Name x p=>
   obtain⟨i,hs,rfl⟩:=oM h;obtain⟨h1,h2,h3,h4⟩:=L.slot hs;exact S2 L.K L.w h1 h2 h3 h4
 |_=>exact none_of h
variable{ct:Ct}{X:Cx}
theorem EV{es:List Expr}(ih:∀e∈es,Pk W cf mt k e)(L:EO ct X W cf mt k):∀{ts:List T},M3 ct es=some ts->Cg X W cf mt es ts:=by
 induction es with
 |nil=>intro ts h;unfold M3 at h;cases h;exact .nil
 | cons e es ihl=>
   intro ts h;unfold M3 at h;obtain⟨t,h1,h2⟩:=oB h;obtain⟨us,h3,rfl⟩:=oM h2;exact .cons (ih e mS L h1) (ihl (λe he=>ih e (mC he)) h3)
theorem YZ{es:List Expr}{n:Nat}(ih:∀e∈es,Pk W cf mt k e):Pk W cf mt k (.Tuple es n pos):=by
 intro ct X t L h;obtain⟨ts,h1,rfl⟩:=oM h;exact RU L.K L.w (EV ih L h1)
theorem Z3{es:List Expr}(ih:∀e∈es,Pk W cf mt k e):Pk W cf mt k (.List es pos):=by
 intro ct X t L h;obtain⟨ts,h1,rfl⟩:=oM h;exact RY L.K L.w (EV ih L h1)
theorem WK{ks:List (Option Expr)}{vs:List Expr}:Pk W cf mt k (.Dict ks vs pos):=by
 intro ct X t L h;change (if ks.isEmpty && vs.isEmpty then some (T.AJ [] [])else none)=_ at h;split at h
 . rename_i hc;cases h;rw[bA]at hc;have h1:ks=[]:=List.isEmpty_iff.mp hc.1;have h2:vs=[]:=List.isEmpty_iff.mp hc.2;subst h1 h2;exact S3 L.K L.w
 . cases h
theorem Z8{op:Operator}(ha:Pk W cf mt k a)(hb:Pk W cf mt k b):Pk W cf mt k (.BinOp a op b pos):=by
 intro ct X t L h;obtain⟨o,h1,h2⟩:=oB h;obtain⟨x,h3,h4⟩:=oB h2;obtain⟨y,h5,rfl⟩:=oM h4;have sx:=ha L h3;have sy:=hb L h5;cases op with
 |Add=>cases h1;exact Er L.K L.w rfl (Yv L.K) (λ_ _=>rfl) rfl sx sy
 |Sub=>cases h1;exact Er L.K L.w rfl (Yo (W:=W)) (λ_ _=>rfl) rfl sx sy
 |Mult=>cases h1;exact Er L.K L.w rfl (Yr (W:=W)) (λ_ _=>rfl) rfl sx sy
 |Mod=>cases h1;exact Er L.K L.w rfl (Ys (W:=W)) (λ_ _=>rfl) rfl sx sy
 |FloorDiv=>cases h1;exact Er L.K L.w rfl (W6 (W:=W)) (λ_ _=>rfl) rfl sx sy
 |Pow=>cases h1;exact Er L.K L.w rfl (Yp (W:=W)) (λ_ _=>rfl) rfl sx sy
 |BitAnd=>cases h1;exact Ff L.K L.w rfl rfl rfl rfl
 |RShift=>cases h1;exact Ff L.K L.w rfl rfl rfl rfl
 |_=>exact none_of h1
theorem bq{op:UnaryOp}(ha:Pk W cf mt k a):Pk W cf mt k (.UnaryOp op a pos):=by
 intro ct X t L h;cases op with
 | Not=>
   obtain⟨x,h1,rfl⟩:=oM h;exact RW L.K L.w (ha L h1)
 | USub=>
   obtain⟨x,h1,rfl⟩:=oM h;exact RX L.K L.w (ha L h1)
 |_=>exact none_of h
variable{op:PySem.BoolOp}
theorem UR(L:EO ct X W cf mt k):∀{es:List Expr} {t:T},(∀e∈es,Pk W cf mt k e)->kB ct op es=some t->JU X W cf mt op es t/\(2<=es.length->∃x y,t= .and x y\/t= .or x y)
 |[],t,_,h=>by unfold kB at h;cases h
 | [e],t,ih,h=>by
   unfold kB at h;exact⟨.one (ih e mS L h),λz=>by simp at z⟩
 | e::e'::es,t,ih,h=>by
   unfold kB at h;obtain⟨x,h1,h2⟩:=oB h;obtain⟨y,h3,rfl⟩:=oM h2;have sx:=ih e mS L h1;have sy:=(UR L (λe he=>ih e (mC he)) h3).1;cases op with
   |And=>exact⟨.and sx sy,λ_=>⟨x,y,.inl rfl⟩⟩
   |Or=>exact⟨.or sx sy,λ_=>⟨x,y,.inr rfl⟩⟩
theorem WQ{es:List Expr}(ih:∀e∈es,Pk W cf mt k e):Pk W cf mt k (.BoolOp op es pos):=by
 intro ct X t L h;change (if 2<=es.length then kB ct op es else none)=_ at h;split at h
 . rename_i hl;obtain⟨h1,h2⟩:=UR L ih h;obtain⟨x,y,e⟩:=h2 hl;rcases e with rfl|rfl
   . exact AX.Yn L.K L.w (λ_ _=>rfl) rfl rfl (h1.v pos) (PW.pt (h1.w pos)) rfl
   . exact AX.Yn L.K L.w (λ_ _=>rfl) rfl rfl (h1.v pos) (PW.pt (h1.w pos)) rfl
 . cases h
theorem WE(h1:∀a b,Aa o [a,b]=EI o a b)(h2:Aa o []=none)(h3:∀a,Aa o [a]=none)(h4:∀a b c r,Aa o (a::b::c::r)=none):∀cs c,Aa o cs=some c->∃b,c= .p (.bl b):=by
 intro cs c e;rcases cs with _|⟨a,_|⟨b,_|⟨d,r⟩⟩⟩
 . rw[h2]at e;cases e
 . rw[h3]at e;cases e
 . rw[h1]at e;obtain⟨x,_,rfl⟩:=BP e;exact⟨x,rfl⟩
 . rw[h4]at e;cases e
theorem Ua(op:CmpOp)(L:EO ct X W cf mt k):Du X (compareOp op) (D5 W (EI (Tn op))):=by
 cases op with
 |Eq=>exact(Q9 L.K L.w L.un).1
 |NotEq=>exact(Q9 L.K L.w L.un).2
 |Lt=>exact aH
 |LtE=>exact Yq λ_ _=>rfl
 |Gt=>exact aJ
 |GtE=>exact Yq λ_ _=>rfl
 |Is=>exact aI
 |IsNot=>exact Yt
 |In=>exact(Yu L.K L.w L.un).1
 |NotIn=>exact(Yu L.K L.w L.un).2
theorem WN{op:CmpOp}(ha:Pk W cf mt k a)(hb:Pk W cf mt k b):Pk W cf mt k (.Compare a [op] [b] pos):=by
 intro ct X t L h;obtain⟨x,h3,h4⟩:=oB h;obtain⟨y,h5,rfl⟩:=oM h4;have sx:=ha L h3;have sy:=hb L h5;have ho:=Ua op L;cases op<;>exact S4 L.K L.w rfl ho (λ_ _=>rfl) (WE (λ_ _=>rfl) rfl (λ_=>rfl) (λ_ _ _ _=>rfl)) rfl sx sy
theorem WM{o1 o2:CmpOp}(ha:Pk W cf mt k a)(hb:Pk W cf mt k b)(hc:Pk W cf mt k c):Pk W cf mt k (.Compare a [o1,o2] [b,c] pos):=by
 intro ct X t L h;obtain⟨x,h3,h4⟩:=oB h;obtain⟨y,h5,h6⟩:=oB h4;obtain⟨z,h7,h8⟩:=oB h6;split at h8
 . rename_i p;split at h8
   . rename_i hp;cases h8;exact Ff L.K L.w rfl rfl rfl rfl
   . cases h8
 . cases h8
theorem Z7{ops:List CmpOp}{cs:List Expr}(ha:Pk W cf mt k a)(ih:∀e∈cs,Pk W cf mt k e):Pk W cf mt k (.Compare a ops cs pos):=by
 rcases ops with _|⟨o1,_|⟨o2,_|⟨o3,os⟩⟩⟩
 . intro ct X t L h;rcases cs with _|⟨b,_|⟨c,_|⟨d,cs⟩⟩⟩<;>(exact none_of h)
 . rcases cs with _|⟨b,_|⟨c,cs⟩⟩
   . intro ct X t L h;exact none_of h
   . exact WN ha (ih b mS)
   . intro ct X t L h;exact none_of h
 . rcases cs with _|⟨b,_|⟨c,_|⟨d,cs⟩⟩⟩
   . intro ct X t L h;exact none_of h
   . intro ct X t L h;exact none_of h
   . exact WM ha (ih b mS) (ih c (mC mS))
   . intro ct X t L h;exact none_of h
 . intro ct X t L h;rcases cs with _|⟨b,_|⟨c,_|⟨d,cs⟩⟩⟩<;>(exact none_of h)
theorem Z5(hc:Pk W cf mt k c)(ha:Pk W cf mt k a)(hb:Pk W cf mt k b):Pk W cf mt k (.IfExp c a b pos):=by
 intro ct X t L h;exact none_of h
def Ps(W:Wd)(cf:CF)(mt:MT)(k:Nat)(e:Expr):Prop:=∀lo hi st p,e= .Slice lo hi st p->(∀x,lo=some x->Pk W cf mt k x)/\∀x,hi=some x->Pk W cf mt k x
theorem PK(h:AU b=true):JV b:=by
 intro o i;cases b<;>first|rfl|cases h
theorem Z1(hv:Pk W cf mt k v)(hi:Pk W cf mt k i)(hs:Ps W cf mt k i):Pk W cf mt k (.Subscript v i pos):=by
 intro ct X t L h
 have plain:((kE ct v).bind λx=>(kE ct i).map λy=>T.prim .idx [x,y])=some t->AX X W cf mt (.Subscript v i pos) t:=λh=>by
  obtain⟨x,h3,h4⟩:=oB h;obtain⟨y,h5,rfl⟩:=oM h4;have sy:=hi L h5;exact S0 L.K L.w L.un (PK sy.st) (hv L h3) sy
 cases i with
 | Slice lo hi' st p=>
   cases st with
   | none=>
     obtain⟨x,h3,h4⟩:=oB h;obtain⟨l,h5,h6⟩:=oB h4;obtain⟨u,h7,rfl⟩:=oM h6;obtain⟨s1,s2⟩:=hs lo hi' none p rfl;have sx:=hv L h3;cases lo with
     | none=>
       unfold kO at h5;cases h5;cases hi' with
       |none=>unfold kO at h7;cases h7;exact Ff L.K L.w rfl rfl rfl rfl
       | some b=>
         unfold kO at h7;obtain⟨y,h8,rfl⟩:=oM h7;exact P8 L.K L.w sx (s2 b rfl L h8)
     | some a=>
       unfold kO at h5;obtain⟨y,h8,rfl⟩:=oM h5;cases hi' with
       |none=>unfold kO at h7;cases h7;exact P9 L.K L.w sx (s1 a rfl L h8)
       | some b=>
         unfold kO at h7;obtain⟨z,h9,rfl⟩:=oM h7;exact Ff L.K L.w rfl rfl rfl rfl
   |some st=>exact plain h
 |_=>exact plain h
end
section
variable{W:Wd}{cf:CF}{mt:MT}{k:Nat}
theorem Aq{α:Type}{c:Prop}[Decidable c]{a b:Option α}{t:α}(h:(if c then a else b)=some t):(c/\a=some t)\/(¬c/\b=some t):=by
 by_cases hc:c
 . rw[iP hc]at h;exact .inl ⟨hc,h⟩
 . rw[iN hc]at h;exact .inr ⟨hc,h⟩
variable{X:Cx}
theorem Cg.one{es:List Expr}{t:T}(h:Cg X W cf mt es [t]):∃e,es=[e]/\AX X W cf mt e t:=by
 cases h with
 |cons h r=>cases r;exact⟨_,rfl,h⟩
theorem Cg.two{es:List Expr}{t u:T}(h:Cg X W cf mt es [t,u]):∃e f,es=[e,f]/\AX X W cf mt e t/\AX X W cf mt f u:=by
 cases h with
 | cons h r=>
   obtain⟨f,rfl,h2⟩:=r.one;exact⟨_,f,rfl,h,h2⟩
variable{ct:Ct}{pos:Pos}
theorem Wf(L:EO ct X W cf mt k)(hg:Gl X "list")(hm:X.mg "list"=none){u:T}{p:Pos}(h:AX X W cf mt a t)(e:Qh t=some u):AX X W cf mt (.Call (.Name "list" p) [a] [] pos) u:=by
 unfold Qh at e;split at e
 . cases e;obtain⟨l,q,p2,rfl,g1,g2,g3,g4⟩:=h.rv _ rfl;exact Kh L.K L.w L.calm hg hm g1 g2 g3 g4
 . cases e;obtain⟨l,m,q,p2,rfl,g1,g2,g3,g4,g5⟩:=h.zp _ _ rfl;exact Kg L.K L.w L.calm hg hm g1 g2 g3 g4 g5
 . cases e
 . cases e;exact UH L.K L.w rfl (WI L.K L.calm) (FW λ_=>rfl) Ny hg hm (by decide) (by decide) rfl (.cons h .nil)
theorem Vf(L:EO ct X W cf mt k)(hg:Gl X "tuple")(hm:X.mg "tuple"=none){u:T}{p:Pos}(h:AX X W cf mt a t)(e:OY t=some u):AX X W cf mt (.Call (.Name "tuple" p) [a] [] pos) u:=by
 unfold OY at e;split at e
 . cases e
 . cases e;exact UH L.K L.w rfl (Ue L.K) (FW λ_=>rfl) Le hg hm (by decide) (by decide) rfl (.cons h .nil)
variable{ts:List T}
theorem X2(L:EO ct X W cf mt k){es:List Expr}{t:T}(ho:ct.own x=true)(h:Cg X W cf mt es ts)(e:ZL x ts=some t):AX X W cf mt (.Call (.Name x p) es [] pos) t:=by
 obtain⟨hg,hm,_,_⟩:=L.VU ho;unfold ZL at e
 match ts,h,e with
 | [u],h,e=>
   obtain⟨a,rfl,sa⟩:=h.one;rcases Aq e with⟨hx,e⟩|⟨_,e⟩
   . subst hx;cases e;exact Ki L.K L.w rfl (Z4 L.K (WJ (W:=W))) (FW λ_=>rfl) WV hg hm (by decide) (by decide) rfl h
   rcases Aq e with⟨hx,e⟩|⟨_,e⟩
   . subst hx;exact Wf L hg hm sa e
   rcases Aq e with⟨hx,e⟩|⟨_,e⟩
   . subst hx;exact Vf L hg hm sa e
   rcases Aq e with⟨hx,e⟩|⟨_,e⟩
   . subst hx;cases e;exact Ki L.K L.w rfl (Z0 L.K L.calm) (FW λ_=>rfl) WS hg hm (by decide) (by decide) rfl h
   rcases Aq e with⟨hx,e⟩|⟨_,e⟩
   . subst hx;cases e;exact Ki L.K L.w rfl (Z9 L.K L.calm) (FW λ_=>rfl) WY hg hm (by decide) (by decide) rfl h
   rcases Aq e with⟨hx,e⟩|⟨_,e⟩
   . subst hx;cases e;exact Ki L.K L.w rfl (Rk L.K L.calm) (FW λ_=>rfl) OA hg hm (by decide) (by decide) rfl h
   rcases Aq e with⟨hx,e⟩|⟨_,e⟩
   . subst hx;cases e;exact FP hg hm h (.inl rfl)
   rcases Aq e with⟨hx,e⟩|⟨_,e⟩
   . subst hx;cases e;exact J0 L.K hg hm sa
   . cases e
 | [u,v],h,e=>
   obtain⟨a,b,rfl,sa,sb⟩:=h.two;rcases Aq e with⟨hx,e⟩|⟨_,e⟩
   . subst hx;cases e;exact Ki L.K L.w rfl (Z2 (W:=W) L.calm) (W4 λ_ _=>rfl) WU hg hm (by decide) (by decide) rfl h
   rcases Aq e with⟨hx,e⟩|⟨_,e⟩
   . subst hx;cases e;exact RS hg hm sa sb
   rcases Aq e with⟨hx,e⟩|⟨_,e⟩
   . subst hx;cases e;exact FP hg hm h (.inr (.inl rfl))
   . cases e
 | [u,v,w],h,e=>
   rcases Aq e with⟨hx,e⟩|⟨_,e⟩
   . subst hx;cases e;exact FP hg hm h (.inr (.inr rfl))
   . cases e
 |[],h,e=>cases e
 |_::_::_::_::_,h,e=>cases e
theorem Qe(L:EO ct X W cf mt k){i:Nat}(st:AU e=true)(nc:Cc e=false):AX X W cf mt e (.Bs m (.fld i f) ts):=by
 have hv:∀ρ,ev cf mt (.Bs m (.fld i f) ts) ρ= .stuck:=λρ=>by
  show(den cf mt (.Bs m (.fld i f) ts)).v ρ=_;unfold den;rfl
 exact AX.not L.K L.w (λ_ _=>rfl) hv (λρ=>by
  show(den cf mt (.Bs m (.fld i f) ts)).b ρ=_;unfold den
  rfl) rfl rfl st nc
theorem UQ(L:EO ct X W cf mt k){to:TE}(hr:OE X W e o to){es:List Expr}{t:T}{apos:Pos}(Aj:Xh m es.length apos pos=true)(h:Cg X W cf mt es ts)(hk:kM m o ts=some t):AX X W cf mt (.Call (.Attribute e m apos) es [] pos) t:=by
 unfold Xh at Aj;rw[bA,bA]at Aj;obtain⟨⟨hline,hl⟩,hni⟩:=Aj;have hl:=of_decide_eq_true hl;have hni:=of_decide_eq_true hni
 have Bs:t= .Bs m o ts->AX X W cf mt (.Call (.Attribute e m apos) es [] pos) t:=λz=>by
  subst z;cases hr with
  |nm hx=>exact P6 L.K L.w L.aP (L.room.mono (Nat.le_succ _)) hx hni hl hline h
  |fl hx=>exact Qe L rfl rfl
 unfold kM at hk;cases hb:bu m o ts with
 |none=>rw[hb]at hk;cases hk;exact Bs rfl
 | some z=>
   rw[hb]at hk;cases hk;unfold bu at hb
   match ts,h,hb with
   | [],h,hb=>
     cases h;rcases Aq hb with⟨hx,hb⟩|⟨_,hb⟩
     . subst hx;cases hb;exact Kf L.K L.w T7 PySem.F.slot_list_pop PySem.F.type_list_pop Wb hr hline
     rcases Aq hb with⟨hx,hb⟩|⟨_,hb⟩
     . subst hx;cases hb;exact Kf L.K L.w KA PySem.F.slot_list_reverse PySem.F.type_list_reverse LU hr hline
     . cases hb
   | [u],h,hb=>
     obtain⟨a,rfl,sa⟩:=h.one;rcases Aq hb with⟨hx,hb⟩|⟨_,hb⟩
     . subst hx;cases hb;exact Ke L.K L.w LS PySem.F.slot_list_append PySem.F.type_list_append Oa hr hline sa
     rcases Aq hb with⟨hx,hb⟩|⟨_,hb⟩
     . subst hx;cases hb;exact Ke L.K L.w LR PySem.F.slot_list_extend PySem.F.type_list_extend O9 hr hline sa
     . cases hb
   | [u,v],h,hb=>
     obtain⟨a,b,rfl,sa,sb⟩:=h.two;rcases Aq hb with⟨hx,hb⟩|⟨_,hb⟩
     . subst hx;cases hb;exact S1 L.K L.w L.un hr hline hl h
     . cases hb
   |_::_::_::_,h,hb=>cases hb
theorem Xz{t:Ty}(h:tyName y=some t):bootBuiltins y=some (.type (My t))/\∀cs,t≠.cls cs:=by
 unfold tyName at h;rcases Aq h with⟨hy,h⟩|⟨_,h⟩
 . subst hy;cases h;exact⟨WX,λ_ z=>by cases z⟩
 rcases Aq h with⟨hy,h⟩|⟨_,h⟩
 . subst hy;cases h;exact⟨Uk,λ_ z=>by cases z⟩
 rcases Aq h with⟨hy,h⟩|⟨_,h⟩
 . subst hy;cases h;exact⟨WT,λ_ z=>by cases z⟩
 rcases Aq h with⟨hy,h⟩|⟨_,h⟩
 . subst hy;cases h;exact⟨Le,λ_ z=>by cases z⟩
 rcases Aq h with⟨hy,h⟩|⟨_,h⟩
 . subst hy;cases h;exact⟨Ny,λ_ z=>by cases z⟩
 rcases Aq h with⟨hy,h⟩|⟨_,h⟩
 . subst hy;cases h;exact⟨Uj,λ_ z=>by cases z⟩
 . cases h
variable{args:List Expr}
theorem Ui(ih:∀e∈args,Pk W cf mt k e):Pk W cf mt k (.Call (.Name x p) args [] pos):=by
 intro ct X t L h;change (if ct.own x then(if x="isinstance" then(aO args).bind λy=>(bR ct args).bind λt=>if ct.own y then(tyName y).map λk=>T.prim (.Js k) [t]else none else(M3 ct args).bind (ZL x))else(M3 ct args).bind λts=>match ct.slot x with|some i=>some (T.OC i ts)|none=>if ct.glob x then Qy ct x ts else none)=_ at h;rcases Aq h with⟨ho,h⟩|⟨_,h⟩
 . rcases Aq h with⟨hx,h⟩|⟨_,h⟩
   . subst hx;obtain⟨y,hn,h⟩:=oB h;obtain⟨u,h1,h⟩:=oB h;rcases Aq h with⟨hoy,h⟩|⟨_,h⟩
     . obtain⟨ty,h3,rfl⟩:=oM h;unfold aO at hn;split at hn
       . cases hn;have sa:=ih _ mS L h1;obtain⟨g1,g2,_,_⟩:=L.VU ho;obtain⟨g3,g4,g5,g6⟩:=L.VU hoy;obtain⟨t1,t2⟩:=Xz h3;exact RZ L.K L.w t2 t1 g3 g4 g6 g5 g1 g2 sa
       . cases hn
     . cases h
   . obtain⟨ts,h1,h2⟩:=oB h;exact X2 L ho (EV ih L h1) h2
 . obtain⟨ts,h1,h2⟩:=oB h;have hs:=EV ih L h1;cases hsl:ct.slot x with
   | some i=>
     rw[hsl]at h2;cases h2
     have hv:∀ρ,ev cf mt (.OC i ts) ρ= .stuck:=λρ=>by
      show(den cf mt (.OC i ts)).v ρ=_;unfold den;rfl
     exact AX.not L.K L.w (λ_ _=>rfl) hv (λρ=>by
      show(den cf mt (.OC i ts)).b ρ=_;unfold den
      rfl) rfl rfl rfl rfl
   | none=>
     rw[hsl]at h2;rcases Aq h2 with⟨hgl,h2⟩|⟨_,h2⟩
     . obtain⟨g1,g2,_⟩:=L.glob hgl;unfold Qy at h2;cases hf:ct.fns.lookup x with
       | some f=>
         rw[hf]at h2;cases h2;obtain⟨q1,q2,q3⟩:=L.fns x f hf;exact Pb L.K L.w q3 (L.room.mono (Nat.le_succ _)) g1 q1 q2 g2 hs
       | none=>
         rw[hf]at h2;obtain⟨c,hc,rfl⟩:=oM h2;obtain⟨q1,q2⟩:=L.cls x c hc;exact P7 L.K L.w L.aP L.room g1 q1 q2 g2 hs
     . cases h2
theorem WO{kws:List Keyword}(ih:∀e∈args,Pk W cf mt k e):Pk W cf mt k (.Call f args kws pos):=by
 cases kws with
 | cons q r=>intro ct X t L h;cases f with
   | Attribute o m apos=>cases o with
     |Attribute o2 f2 q2=>cases o2<;>(exact none_of h)
     |_=>exact none_of h
   |_=>exact none_of h
 | nil =>
   cases f with
   |Name x p=>exact Ui ih
   | Attribute o m apos=>
     intro ct X t L h;cases o with
     | Name x p=>
       have h:(if Xh m args.length apos pos then(ct.slot x).bind λi=>(M3 ct args).bind (kM m (.var i))else none)=some t:=h;rcases Aq h with⟨Aj,h⟩|⟨_,h⟩
       . obtain⟨i,h1,h2⟩:=oB h;obtain⟨ts,h3,h4⟩:=oB h2;exact UQ L (.nm (L.pv h1)) Aj (EV ih L h3) h4
       . cases h
     | Attribute o2 g q2=>
       cases o2 with
       | Name x p=>
         have h:(if Xh m args.length apos pos then(ct.slot x).bind λi=>(M3 ct args).bind (kM m (.fld i g))else none)=some t:=h;rcases Aq h with⟨Aj,h⟩|⟨_,h⟩
         . obtain⟨i,h1,h2⟩:=oB h;obtain⟨ts,h3,h4⟩:=oB h2;exact UQ L (.fl (LK (L.pv h1) rfl)) Aj (EV ih L h3) h4
         . cases h
       |_=>exact none_of h
     |_=>exact none_of h
   |_=>intro ct X t L h;exact none_of h
noncomputable def Pg(W:Wd)(cf:CF)(mt:MT)(k:Nat):Comprehension->Prop
 |⟨_,it,ifs,_⟩=>Pk W cf mt k it/\∀e∈ifs,Pk W cf mt k e
theorem WL{elt:Expr}{gs:List Comprehension}{sc:Scope}(he:Pk W cf mt k elt)(hg:∀g∈gs,Pg W cf mt k g):Pk W cf mt k (.ListComp elt gs sc pos):=by
 intro ct X t L h;rcases gs with _|⟨⟨tg,it,ifs,n⟩,_|⟨g2,gs⟩⟩
 . exact none_of h
 . obtain⟨p1,p2⟩:=hg _ mS;obtain⟨x,h1,h⟩:=oB h;obtain⟨g,h2,h⟩:=oB h;obtain⟨cs,h3,h⟩:=oB h;obtain⟨e,h4,h⟩:=oB h;rcases Aq h with⟨hc,h⟩|⟨_,h⟩
   . cases h;rw[bA,bA,bA]at hc;obtain⟨⟨⟨c0,c1⟩,c2⟩,c3⟩:=hc;have c3:=of_decide_eq_true c3;have c0:=of_decide_eq_true c0;subst c0;refine Pa L.K L.w L.calm (L.bW c2) (p1 L h1) (of_decide_eq_true c1) λC s H fp=>?_
     have L2:=L.block c2 c3 C s H fp;exact⟨(UM L2 h2).1,he L2 h4,EV p2 L2 h3⟩
   . cases h
 . exact none_of h
end
section
variable{W:Wd}{cf:CF}{mt:MT}{k:Nat}
theorem Ax{e:Expr}(h:∀lo hi st p,e≠.Slice lo hi st p):Ps W cf mt k e:=λlo hi st p z=>absurd z (h lo hi st p)
theorem CI(h:∀ct,kE ct e=none):Pk W cf mt k e:=by
 intro ct X t L z;rw[h]at z;cases z
mutual
theorem Dh:∀e:Expr,Pk W cf mt k e/\Ps W cf mt k e
 | .Constant c n pos=>⟨Uh,Ax λ_ _ _ _ z=>by cases z⟩
 | .Name x pos=>⟨WG,Ax λ_ _ _ _ z=>by cases z⟩
 | .Attribute o f pos=>⟨WR,Ax λ_ _ _ _ z=>by cases z⟩
 | .Tuple es n pos=>⟨YZ (GW es),Ax λ_ _ _ _ z=>by cases z⟩
 | .List es pos=>⟨Z3 (GW es),Ax λ_ _ _ _ z=>by cases z⟩
 | .Dict ks vs pos=>⟨WK,Ax λ_ _ _ _ z=>by cases z⟩
 | .BinOp a op b pos=>⟨Z8 (Dh a).1 (Dh b).1,Ax λ_ _ _ _ z=>by cases z⟩
 | .UnaryOp op a pos=>⟨bq (Dh a).1,Ax λ_ _ _ _ z=>by cases z⟩
 | .BoolOp op es pos=>⟨WQ (GW es),Ax λ_ _ _ _ z=>by cases z⟩
 | .Compare a ops cs pos=>⟨Z7 (Dh a).1 (GW cs),Ax λ_ _ _ _ z=>by cases z⟩
 | .IfExp c a b pos=>⟨Z5 (Dh c).1 (Dh a).1 (Dh b).1,Ax λ_ _ _ _ z=>by cases z⟩
 | .Subscript v i pos=>⟨Z1 (Dh v).1 (Dh i).1 (Dh i).2,Ax λ_ _ _ _ z=>by cases z⟩
 | .Slice lo hi st p=>⟨CI λ_=>rfl,λlo' hi' st' p' z=>by
  cases z
  exact⟨Yf lo,Yf hi⟩⟩
 | .Call f args kws pos=>⟨WO (GW args),Ax λ_ _ _ _ z=>by cases z⟩
 | .ListComp elt gs sc pos=>⟨WL (Dh elt).1 (UN gs),Ax λ_ _ _ _ z=>by cases z⟩
 | .NamedExpr a b c=>⟨CI λ_=>rfl,Ax λ_ _ _ _ z=>by cases z⟩
 | .Lambda a b c d=>⟨CI λ_=>rfl,Ax λ_ _ _ _ z=>by cases z⟩
 | .Set a b c=>⟨CI λ_=>rfl,Ax λ_ _ _ _ z=>by cases z⟩
 | .SetComp a b c d=>⟨CI λ_=>rfl,Ax λ_ _ _ _ z=>by cases z⟩
 | .DictComp a b c d e=>⟨CI λ_=>rfl,Ax λ_ _ _ _ z=>by cases z⟩
 | .GeneratorExp a b c d=>⟨CI λ_=>rfl,Ax λ_ _ _ _ z=>by cases z⟩
 | .Await a b=>⟨CI λ_=>rfl,Ax λ_ _ _ _ z=>by cases z⟩
 | .Yield a b=>⟨CI λ_=>rfl,Ax λ_ _ _ _ z=>by cases z⟩
 | .YieldFrom a b=>⟨CI λ_=>rfl,Ax λ_ _ _ _ z=>by cases z⟩
 | .FormattedValue a b c d=>⟨CI λ_=>rfl,Ax λ_ _ _ _ z=>by cases z⟩
 | .JoinedStr a b=>⟨CI λ_=>rfl,Ax λ_ _ _ _ z=>by cases z⟩
 | .Starred a b=>⟨CI λ_=>rfl,Ax λ_ _ _ _ z=>by cases z⟩
theorem GW:∀es:List Expr,∀e∈es,Pk W cf mt k e
 |[],e,h=>nomatch h
 | x::xs,e,h=>by
   rcases mK h with z|z
   . rw[z];exact(Dh x).1
   . exact GW xs e z
theorem Yf:∀o:Option Expr,∀e,o=some e->Pk W cf mt k e
 |none,e,h=>nomatch h
 |some x,e,h=>by cases h;exact(Dh x).1
theorem UN:∀gs:List Comprehension,∀g∈gs,Pg W cf mt k g
 |[],g,h=>nomatch h
 | x::xs,g,h=>by
   rcases mK h with z|z
   . rw[z];exact aD x
   . exact UN xs g z
theorem aD:∀g:Comprehension,Pg W cf mt k g
 |⟨tg,it,ifs,a⟩=>⟨(Dh it).1,GW ifs⟩
end
end
def Qk(W:Wd)(cf:CF)(mt:MT)(k:Nat)(st:Stmt):Prop:=∀{ct:Ct} {X:Cx} {s:S},EO ct X W cf mt k->kS ct st=some s->PS X st (tS W (EZ s) (exec cf mt A6 s))
def Qs(W:Wd)(cf:CF)(mt:MT)(k:Nat)(NN:List Stmt):Prop:=∀{ct:Ct} {X:Cx} {ss:List S},EO ct X W cf mt k->Qw ct NN=some ss->Lm X NN (tS W (BA ss) (execs cf mt A6 ss))
section
variable{W:Wd}{cf:CF}{mt:MT}{k:Nat}
theorem BQ{st:Stmt}(h:∀ct,kS ct st=none):Qk W cf mt k st:=by
 intro ct X s L z;rw[h]at z;cases z
theorem Za(i:Nat)(t:T):EZ (.asg (.nm i) t)=[i]:=rfl
theorem NA(o i v:T):EZ (.Dx o i v)=[]:=rfl
theorem Up(i:Nat)(f:Str)(v:T):EZ (.LA i f v)=[]:=rfl
theorem Uq(t:T):EZ (.expr t)=[]:=rfl
theorem Rq(t:Option T):EZ (.ret t)=[]:=rfl
theorem X4(c:T)(a b:List S):EZ (.ifs c a b)=BA a++BA b:=rfl
theorem X3(c:T)(b:List S):EZ (.K2 c b)=BA b:=rfl
theorem X5(g:Tg)(q:IK)(its:List T)(b:List S):EZ (.CW g q its b)=g.slots++BA b:=rfl
theorem NB:EZ .pass=[]:=rfl
theorem X7:EZ .brk=[]:=rfl
theorem X6:EZ .cnt=[]:=rfl
theorem Nd(t:T):exec cf mt A6 (.expr t)=λρ=>(ev cf mt t ρ).bind λ_ ρ=>.ok .nx ρ:=rfl
theorem Nc:exec cf mt A6 (.ret none)=λρ=>.ok (.ret (.p .AG)) ρ:=rfl
theorem QT(t:T):exec cf mt A6 (.ret (some t))=λρ=>(ev cf mt t ρ).bind λc ρ=>.ok (.ret c) ρ:=rfl
theorem QU(c:T)(a b:List S):exec cf mt A6 (.ifs c a b)=λρ=>(tv cf mt c ρ).bind λx ρ=>if x then execs cf mt A6 a ρ else execs cf mt A6 b ρ:=rfl
theorem EY(c:T)(b:List S):exec cf mt A6 (.K2 c b)=λρ=>A6 (tv cf mt c) (execs cf mt A6 b) ρ:=rfl
theorem Cf(g:Tg)(q:IK)(its:List T)(b:List S):exec cf mt A6 (.CW g q its b)=λρ=>if q.ok then(An cf mt its ρ).bind (E9 q g (BA b) (execs cf mt A6 b))else .stuck:=rfl
theorem JC:exec cf mt A6 .pass=λρ=>.ok .nx ρ:=rfl
theorem QW:exec cf mt A6 .brk=λρ=>.ok .brk ρ:=rfl
theorem QV:exec cf mt A6 .cnt=λρ=>.ok .cnt ρ:=rfl
theorem Na:execs cf mt A6 []=λρ=>.ok .nx ρ:=rfl
def bH(f:Fl)(r:Env->Res Fl)(ρ:Env):Res Fl:=match f with
    | .nx=>r ρ
    |f=>.ok f ρ
theorem Ht(s:S)(ss:List S):execs cf mt A6 (s::ss)=λρ=>(exec cf mt A6 s ρ).bind λf ρ=>match f with
 | .nx=>execs cf mt A6 ss ρ
 |f=>.ok f ρ:=rfl
variable{pos:Pos}
theorem Y4{tgs:List Expr}:Qk W cf mt k (.Assign tgs e pos):=by
 intro ct X s L h;rcases tgs with _|⟨tg,_|⟨t2,ts⟩⟩
 . exact none_of h
 . obtain⟨t,h1,h2⟩:=oB h;have se:=(Dh e).1 L h1;cases tg with
   | Name x p=>
     obtain⟨i,h3,rfl⟩:=oM h2;obtain⟨t1,t2,t3⟩:=L.F9 h3;rw[Za];intro pins s σ H D I z;refine se.a i x p pos L.nd t1 t2 t3 pins s σ H D I (XO (by rw[I.len];exact(List.getElem?_eq_some_iff.mp t1).1) ?_);obtain⟨ρ,os,hR,hn,hA⟩:=z;rw[JD]at hA;exact⟨ρ,os,hR,hn,hA⟩
   |Tuple es n p=>cases h2
   | Subscript o i p=>
     cases o with
     | Name x q=>
       obtain⟨j,h3,h4⟩:=oB h2;obtain⟨b,h5,rfl⟩:=oM h4;rw[NA];exact MS L.K L.w L.un (.nm (L.pv h3)) ((Dh i).1 L h5) se
     | Attribute o2 f q=>
       cases o2 with
       | Name x q2=>
         obtain⟨j,h3,h4⟩:=oB h2;obtain⟨b,h5,rfl⟩:=oM h4;rw[NA];exact MS L.K L.w L.un (.fl (LK (L.pv h3) rfl)) ((Dh i).1 L h5) se
       |_=>exact none_of h2
     |_=>exact none_of h2
   | Attribute o f p=>
     cases o with
     | Name x q=>
       obtain⟨i,h3,rfl⟩:=oM h2;rw[Up];exact Sv L.K L.fld (L.pv h3) se
     |_=>exact none_of h2
   |_=>exact none_of h2
 . exact none_of h
theorem Vx:Qk W cf mt k (.Expr e pos):=by
 intro ct X s L h
 have gen:(if Cc e then none else(kE ct e).map S.expr)=some s->PS X (.Expr e pos) (tS W (EZ s) (exec cf mt A6 s)):=λh=>by
  rcases Aq h with⟨_,h⟩|⟨hc,h⟩
  . cases h
  . obtain⟨t,h1,rfl⟩:=oM h;rw[Uq,Nd];exact CS (Sy ((Dh e).1 L h1).v (Ed (by simpa using hc) _ _ _)) λD σ H z=>Vo z
 cases e with
 | Constant c n p=>
   cases c with
   | str x=>
     cases h;rw[NB,JC];exact CS VF λD σ H z=>Pl z
   |_=>exact gen h
 |_=>exact gen h
theorem Y0{o:Option Expr}:Qk W cf mt k (.Return o pos):=by
 intro ct X s L h;cases o with
 | none=>
   cases h;rw[Rq,Nc];exact CS Sw λD σ H z=>Vn z
 | some e=>
   obtain⟨t,h1,rfl⟩:=oM h;rw[Rq,QT];exact CS (VC ((Dh e).1 L h1).v) λD σ H z=>XQ z
theorem av{a b:List Stmt}(ha:Qs W cf mt k a)(hb:Qs W cf mt k b):Qk W cf mt k (.If c a b pos):=by
 intro ct X s L h;obtain⟨t,h1,h⟩:=oB h;obtain⟨x,h2,h⟩:=oB h;obtain⟨y,h3,rfl⟩:=oM h;rw[X4,QU];exact CS (Y6 ((Dh c).1 L h1).b (ha L h2) (hb L h3)) λD σ H z=>ae z
theorem Sn{b e:List Stmt}(hb:Qs W cf mt k b):Qk W cf mt k (.While c b e pos):=by
 intro ct X s L h;cases e with
 |cons _ _=>exact none_of h
 | nil=>
   obtain⟨t,h1,h⟩:=oB h;obtain⟨x,h2,rfl⟩:=oM h;rw[X3,EY];exact CS (Pz L.po ((Dh c).1 L h1).b (hb L h2)) λD σ H z=>S8 z
theorem Y1{tg it:Expr}{b e:List Stmt}(hb:Qs W cf mt k b):Qk W cf mt k (.For tg it b e pos):=by
 intro ct X s L h;cases e with
 |cons _ _=>exact none_of h
 | nil=>
   obtain⟨g,h1,h⟩:=oB h;obtain⟨t,h2,h⟩:=oB h;obtain⟨x,h3,rfl⟩:=oM h;rw[X5,Cf];have st:=(Dh it).1 L h2;obtain⟨g1,g2⟩:=UM L h1;cases hk:(Bp t).1.ok with
   |false=>exact GP λρ=>rfl
   | true=>
     intro pins s σ H D I z;exact VD L.po L.calm (st.i hk tg) g1 (hb L h3) (G3 st.st _) pins s σ H D I (XS (λi hi=>by rw[I.len];exact g2 i hi) z)
theorem Vw:Qk W cf mt k (.Pass pos):=by
 intro ct X s L h;cases h;rw[NB,JC];exact CS Sx λD σ H z=>Pl z
theorem Y3:Qk W cf mt k (.Break pos):=by
 intro ct X s L h;cases h;rw[X7,QW];exact CS PC λD σ H z=>XU z
theorem Y2:Qk W cf mt k (.Continue pos):=by
 intro ct X s L h;cases h;rw[X6,QV];exact CS Kp λD σ H z=>XT z
theorem So{e c:Option Expr}:Qk W cf mt k (.Raise e c pos):=by
 intro ct X s L h;cases h;exact GP λ_=>rfl
theorem Vv:Qs W cf mt k []:=by
 intro ct X ss L h;unfold Qw at h;cases h;rw[Na,show BA []=[]from by unfold BA;rfl];exact MR Su λD σ H z=>Pl z
theorem Sl{st:Stmt}{NN:List Stmt}(h1:Qk W cf mt k st)(h2:Qs W cf mt k NN):Qs W cf mt k (st::NN):=by
 intro ct X ss L h;unfold Qw at h;obtain⟨s,h3,h⟩:=oB h;obtain⟨us,h4,rfl⟩:=oM h;rw[Ht,show BA (s::us)=EZ s++BA us from by conv=>lhs;unfold BA];exact MR (Py (h1 L h3) (h2 L h4)) λD σ H z=>Vp z
mutual
theorem aw:∀st:Stmt,Qk W cf mt k st
 | .Assign tgs e pos=>Y4
 | .Expr e pos=>Vx
 | .Return o pos=>Y0
 | .If c a b pos=>av (Ie a) (Ie b)
 | .While c b e pos=>Sn (Ie b)
 | .For tg it b e pos=>Y1 (Ie b)
 | .Pass pos=>Vw
 | .Break pos=>Y3
 | .Continue pos=>Y2
 | .Raise e c pos=>So
 | .Try ..=>BQ λ_=>rfl
 | .FunctionDef ..=>BQ λ_=>rfl
 | .AsyncFunctionDef ..=>BQ λ_=>rfl
 | .ClassDef ..=>BQ λ_=>rfl
 | .Delete ..=>BQ λ_=>rfl
 | .TypeAlias ..=>BQ λ_=>rfl
 | .AugAssign ..=>BQ λ_=>rfl
 | .AnnAssign ..=>BQ λ_=>rfl
 | .AsyncFor ..=>BQ λ_=>rfl
 | .With ..=>BQ λ_=>rfl
 | .AsyncWith ..=>BQ λ_=>rfl
 | .Match ..=>BQ λ_=>rfl
 | .TryStar ..=>BQ λ_=>rfl
 | .Assert ..=>BQ λ_=>rfl
 | .Import ..=>BQ λ_=>rfl
 | .ImportFrom ..=>BQ λ_=>rfl
 | .Global ..=>BQ λ_=>rfl
 | .Nonlocal ..=>BQ λ_=>rfl
theorem Ie:∀NN:List Stmt,Qs W cf mt k NN
 |[]=>Vv
 |st::NN=>Sl (aw st) (Ie NN)
end
end
variable{W:Wd}{H:Hp}
theorem FR{n:Nat}:∀{ρ:Env} {σ:L2.St} {os:List Addr},Ab W H ρ σ os->Ab W H (ρ++List.replicate n none) (σ++List.replicate n none) os
 | [],_,_,h=>by
   rw[h.1,h.2,nil_append,nil_append]
   induction n with
   |zero=>exact⟨rfl,rfl⟩
   |succ n ih=>exact⟨none,List.replicate n none,rfl,ih⟩
 |none::ρ,_,_,⟨x,r,e,h⟩=>by rw[e];exact⟨x,_,rfl,FR h⟩
 |some c::ρ,_,_,⟨v,r,o,o2,e1,h1,h2,e2⟩=>by rw[e1];exact⟨v,_,o,o2,rfl,h1,FR h2,e2⟩
theorem FQ:∀(n:Nat) (g:Nat->Bool) {ρ:Env} {σ τ:L2.St} {os:List Addr},Ab W H ρ σ os->n<=ρ.length->τ.length=n->(∀i,i < n->g i=false->σ[i]? =τ[i]?)->
 ∃oos od,Ab W H ((List.range n).map λi=>if g i then none else A9 ρ i) τ oos/\(od++oos).Perm os
 | 0,g,ρ,σ,τ,os,hR,_,hl,_=>by
   have:τ=[]:=length_eq_zero_iff.mp hl;subst this;exact⟨[],os,⟨rfl,rfl⟩,by rw[append_nil]⟩
 | n + 1, g,ρ,σ,τ,os,hR,hle,hl,hc=>by
   rw[List.range_succ_eq_map,map_cons,map_map];cases τ with
   |nil=>cases hl
   | cons t τ=>
     have hl':τ.length=n:=by simpa using hl
     cases ρ with
     |nil=>cases hle
     | cons x ρ=>
       have hle':n<=ρ.length:=by simpa using hle
       have ef:((λi=>if g i then none else A9 (x::ρ) i) ∘ Nat.succ)=λi=>if g (i + 1)then none else A9 ρ i:=rfl
       rw[ef];cases x with
       | none=>
         obtain⟨y,r,e,h⟩:=hR;subst e;obtain⟨oos,od,q1,q2⟩:=FQ n (λi=>g (i + 1)) h hle' hl' λi hi hg=>by simpa using hc (i + 1) (by lia) hg
         refine⟨oos,od,?_,q2⟩;have:(if g 0 then(none:Option C)else A9 (none::ρ) 0)=none:=by split<;>rfl
         rw[this];exact⟨t,τ,rfl,q1⟩
       | some c=>
         obtain⟨v,r,o,o2,e1,h1,h2,e2⟩:=hR;subst e1 e2;obtain⟨oos,od,q1,q2⟩:=FQ n (λi=>g (i + 1)) h2 hle' hl' λi hi hg=>by simpa using hc (i + 1) (by lia) hg
         cases hg:g 0 with
         | true=>
           refine⟨oos,o++od,?_,by rw[append_assoc];exact q2.append_left o⟩;exact⟨t,τ,rfl,q1⟩
         | false=>
           have ht:=hc 0 (by lia) hg;simp at ht;subst ht;refine⟨o++oos,od,⟨v,τ,o,oos,rfl,h1,q1,rfl⟩,?_⟩;refine List.Perm.trans ?_ (q2.append_left o);rw[<-append_assoc,<-append_assoc];exact perm_append_comm.append_right oos
section
variable{P:Program}{w:World}{K:PySem.W.Frag}{mg:Str->Option Value}{base:Heap}{mt:MT}
theorem Um{X:Cx}{ct:Ct}{cf:CF}{k:Nat}{body:List Stmt}{fi:OF}{N:List Str}(L:EO ct X W cf mt k)(hk:Qw ct body=some fi.body)(hnl:fi.nl=N.length){vs:List V}{H:Hp}{Q:VK}{E:XK}(hnp:fi.np<=N.length)(hv:vs.length=fi.np)
 (hsp:OG W (Gm cf mt A6 fi) vs H Q E):Lm X body (tS W (BA fi.body) (execs cf mt A6 fi.body))/\tS W (BA fi.body) (execs cf mt A6 fi.body) {nx:=λ_ H'=>Q .AG H',rt:=Q} (L2.start N vs) H:=by
 refine⟨Ie body L hk,?_⟩;obtain⟨cs,os,hR,hn,hQ⟩:=hsp;have hlen:vs.length=cs.length:=by have:=hR.length;simpa using this
 have hst:L2.start N vs=vs.map some++List.replicate (fi.nl - fi.np) none:=by unfold L2.start;rw[hnl,hv]
 have hR0:Ab W H (cs.map some++List.replicate (fi.nl - fi.np) none) (L2.start N vs) os:=by rw[hst];exact FR hR
 refine⟨_,os,hR0,hn,?_⟩;unfold Gm at hQ;rw[iP (by lia)]at hQ;have hρl:fi.np<=(cs.map some++List.replicate (fi.nl - fi.np) (none:Option C)).length:=by rw[lA,lM];lia
 have outs:∀{ρ':Env} {σ':L2.St} {H':Hp} {os':List Addr},Ab W H' ρ' σ' os'->B7 (BA fi.body) (L2.start N vs) σ'->∃oos od,Ab W H' (FV fi ρ') (vs.map some) oos/\(od++oos).Perm os':=by
  intro ρ' σ' H' os' r u;unfold FV;have hl2:fi.np<=ρ'.length:=by rw[<-r.length,u.1,hR0.length];exact hρl
  refine FQ fi.np (λi=>(BA fi.body).contains i) r hl2 (by rw[lM];exact hv) λi hi hg=>?_
  rw[u.2 i (by simpa using hg),hst,List.getElem?_append_left (by rw[lM];lia)]
 cases eb:execs cf mt A6 fi.body (cs.map some++List.replicate (fi.nl - fi.np) none)with
 |stuck=>rw[eb]at hQ;exact hQ
 | ok f ρ'=>
   rw[eb]at hQ;cases f with
   |brk=>exact False.elim hQ
   |cnt=>exact False.elim hQ
   | nx=>
     intro σ' H' os' r1 r2 r3 r4;obtain⟨oos,od,q1,q2⟩:=outs r1 r4;have nd:=nA (q2.nodup_iff.mpr r2);exact hQ .AG H' [] oos ⟨Ak.mpr rfl,rfl⟩ q1 nd.2.1 (r3.sub λa ha=>q2.subset (mR ha))
   | ret c=>
     intro v σ' H' o os' r0 r1 r2 r3 r4;obtain⟨oos,od,q1,q2⟩:=outs r1 r4;have n2:=nA r2;have nd:=nA (q2.nodup_iff.mpr n2.2.1);refine hQ v H' o oos r0 q1 ?_ (r3.sub λa ha=>?_)
     . rw[nodup_append];exact⟨n2.1,nd.2.1,λa ha b hb z=>n2.2.2 a ha b (q2.subset (mR hb)) z⟩
     . rcases mem_append.mp ha with z|z
       . exact mL z
       . exact mR (q2.subset (mR z))
structure cb(K:PySem.W.Frag)(mg:Str->Option Value)(W:Wd)(mt:MT)(n:Nat)(tg:List (Str×Iv.P))(tf tc:List (Str×Nat)):Prop where
 kk:W.K=K
 gl:∀x p,tg.lookup x=some p->∃u v,mg x=some u/\RelV v u/\∀H,Av W H p v
 own:∀x∈JR,tg.lookup x=none->tf.lookup x=none->tc.lookup x=none->mg x=none
 fns:∀x f,tf.lookup x=some f->mg x=some (.ref (W.IA f))/\keepIn K (.ref (W.IA f))=true/\f < n
 cls:∀x c,tc.lookup x=some c->mg x=some (.ref (W.FJ c))/\∀f,mt.m c (Str.ofString "__init__")=some f->Mk K (W.FJ c) (W.IA f)
 Yz:∀c m f,mt.m c m=some f->JZ K (W.FJ c)/\(m≠Str.ofString "__init__"->Meth K (W.FJ c) m (W.IA f))/\f < n
 fld:∀c f,mt.f c f=true->Ci K (W.FJ c) f
structure NF(K:PySem.W.Frag)(W:Wd)(gl:List (Str×Iv.P))(fns cls:List (Str×Nat))(f:Nat)(fi:OF)(fd:FuncData)(ps:List Str):Prop where
 ex:∃(x qual:Str) (st:Stmt) (ct:Ct),F5 K x qual st (W.IA f) fd/\EC ct.N ps (Bk st)/\Qw ct (DW st)=some fi.body/\fi.np=ps.length/\fi.nl=ct.N.length/\ct.sc=Bk st/\ct.df=true/\ct.gl=gl/\ct.fns=fns/\ct.cls=cls/\Binds K fd ps []
theorem QP{gl:List (Str×Iv.P)}{fns:List OF}{fnt clt:List (Str×Nat)}(hw:W.w=w)(G:cb K mg W mt fns.length gl fnt clt){FD:Nat->FuncData}{PS':Nat->List Str}(D:∀f fi,fns[f]? =some fi->NF K W gl fnt clt f fi (FD f) (PS' f)):
 ∀k f,f < fns.length->E3 P w K mg base RC (2 * k) (W.IA f) (FD f) (PS' f) (OG W (A0 fns mt A6 k f))/\Binds K (FD f) (PS' f) []
 | 0,f,hf=>by
   obtain⟨x,qual,st,ct,F,S,hk,h1,h2,h3,h4,h5,h6,h7,hb⟩:=(D f fns[f] (List.getElem?_eq_getElem hf)).ex
   have no:∀vs H Q E,¬OG W (A0 fns mt A6 0 f) vs H Q E:=λvs H Q E z=>by
    obtain⟨cs,os,_,_,q⟩:=z;exact q
   exact⟨⟨λvs H Q E z=>(no _ _ _ _ z).elim,λA outer s H args us vs Q E _ _ _ _ z=>(no _ _ _ _ z).elim⟩,hb⟩
 | k + 1,f,hf=>by
   obtain⟨x,qual,st,ct,F,S,hk,h1,h2,h3,h4,h5,h6,h7,hb⟩:=(D f fns[f] (List.getElem?_eq_getElem hf)).ex
   have ecf:A0 fns mt A6 (k + 1) f=Gm (A0 fns mt A6 k) mt A6 fns[f]:=by
    funext cs
    show(match fns[f]? with|some fi=>Gm (A0 fns mt A6 k) mt A6 fi cs|none=>.stuck)=_;rw[List.getElem?_eq_getElem hf]
   have len:∀vs H Q E,OG W (A0 fns mt A6 (k + 1) f) vs H Q E->vs.length=(PS' f).length:=λvs H Q E z=>by
    obtain⟨cs,os,hR,_,q⟩:=z;have hl:vs.length=cs.length:=by have:=hR.length;simpa using this
    by_cases hl2:cs.length=fns[f].np
    . lia
    . rw[ecf]at q;unfold Gm at q;rw[iN hl2]at q;exact q.elim
   refine⟨?_,hb⟩;have hj:2 * (k + 1)=(2 * k + 1) + 1:=by lia
   rw[hj];refine F5.ok F S len λcdv A outer s H vs Q E hr hsp=>?_
   have hvl:=len vs H Q E hsp;rw[ecf]at hsp
   have hnp:fns[f].np<=ct.N.length:=by
    have:=congrArg List.length S.pre;rw[length_take]at this
    lia
   have fs:∀g,g < fns.length->ZU (L5 RC P w K mg base ct.N qual (Bk st) (W.IA f) cdv A outer s H E).Xg W (A0 fns mt A6 k) (2 * k) g:=λg hg=>⟨⟨_,_,QP hw G D k g hg⟩⟩
   have L:EO ct (L5 RC P w K mg base ct.N qual (Bk st) (W.IA f) cdv A outer s H E).Xg W (A0 fns mt A6 k) mt (2 * k):=by
    refine⟨G.kk,hw,rfl,S.nd,by rw[h3];exact ZP.refl _,λ_ _=>rfl,rfl,hr,PassesOwn.never,?_,?_,?_,?_,⟨?_⟩,G.fld⟩
    . rw[h5];exact G.gl
    . rw[h5,h6,h7];exact G.own
    . rw[h6];intro x f' e;obtain⟨g1,g2,g3⟩:=G.fns x f' e;exact⟨g1,g2,fs f' g3⟩
    . rw[h7];exact G.cls
    . intro c m f' e;obtain⟨g1,g2,g3⟩:=G.Yz c m f' e;exact⟨g1,g2,fs f' g3⟩
   exact⟨_,Um L hk h2 hnp (by lia) hsp⟩
end
inductive Each{α:Type}(R:α->Prop):List α->Prop where
 |nil:Each R []
 |cons {a:α} {l:List α} (h:R a) (t:Each R l):Each R (a::l)
variable{α:Type}
theorem Each.mem{R:α->Prop}{l:List α}(h:Each R l):∀a∈l,R a:=by
 induction h with
 |nil=>intro a ha;cases ha
 | cons h t ih=>
   intro a ha;rcases mK ha with z|z
   . rw[z];exact h
   . exact ih a z
theorem Each.look{β:Type}[BEq α][LawfulBEq α]{R:α×β->Prop}{l:List (α×β)}(h:Each R l){a:α}{b:β}(e:l.lookup a=some b):R (a,b):=by
 induction h with
 |nil=>simp at e
 | @cons q l h t ih=>
   rw[show q=(q.1,q.2)from rfl,lookup_cons]at e;cases hq:a == q.1 with
   | true=>
     rw[hq]at e;cases e;rw[eq_of_beq hq];exact h
   |false=>rw[hq]at e;exact ih e
noncomputable def fnOf(tf tc:List (Str×Nat))(tg:List (Str×P))(st:Stmt):OF:=(ZD st (U6 st tf tc tg [])).getD default
variable{W:Wd}{qual:Str}{fd:FuncData}
theorem Wy{K:PySem.W.Frag}{tf tc:List (Str×Nat)}{tg:List (Str×P)}{f:Nat}{st:Stmt}(F:F5 K x qual st (W.IA f) fd)(S:EC (namesOf st) (EM st) (Bk st))(hs:(ZD st (U6 st tf tc tg [])).isSome=true)(hb:Binds K fd (EM st) [])
 (e1:Ra st=DW st)(e2:JK st=Bk st):NF K W tg tf tc f (Iv.fnOf tf tc tg st) fd (EM st):=by
 obtain⟨fi,hfi⟩:=Option.isSome_iff_exists.mp hs;have e:Iv.fnOf tf tc tg st=fi:=by unfold Iv.fnOf;rw[hfi];rfl
 rw[e];unfold ZD at hfi;obtain⟨b,hb',rfl⟩:=oM hfi;exact⟨x,qual,st,U6 st tf tc tg [],F,S,by rw[<-e1];exact hb',rfl,rfl,e2,rfl,rfl,rfl,rfl,hb⟩
theorem U0{K:PySem.W.Frag}{tf tc:List (Str×Nat)}{tg:List (Str×P)}{f:Nat}{st:Stmt}(F:F5 K x qual st (W.IA f) fd)(S:EC (namesOf st) (EM st) (Bk st))(hs:(ZD st (U6 st tf tc tg [])).isSome=true)
 (h:∀(kV doc pm:Value) (an:Option Addr) (cdv ct:Value) (us:List Value),us.length=(EM st).length->bindArgs (PySem.W.fnOf x qual (JJ st) (DW st) (Bk st) .none kV doc pm an cdv ct) ⟨us,[]⟩=pure ((EM st).zip us))(e1:Ra st=DW st)(e2:JK st=Bk st):NF K W tg tf tc f (Iv.fnOf tf tc tg st) fd (EM st):=Wy F S hs (F.binds h) e1 e2
noncomputable def MD(n:Nat)(K:PySem.W.Frag):Sp:=λvs H Q _=>∃(a:Addr) (ns:List Int),vs=[.ref a]/\Ut K H a (ns.map V.int)/\ns.length<=n/\∀H',Q (.bl true) H'
theorem T2{K:PySem.W.Frag}{H:Hp}{xs:List V}(h:Uv H)(s:Dt K H a xs):Ut K H a xs:=by
 rcases s with(s|s)|s
 . exact absurd s (λz=>by
    have:=h a;rw[z]at this;rcases this with y|⟨o,u,y⟩
    . cases y
    . cases y)
 . exact .inl s
 . exact .inr s
theorem Th{K:PySem.W.Frag}(hK:W.K=K){n:Nat}{r:List C->CR}(hr:∀ns:List Int,ns.length<=n->∃outs,r [.b (.ro (ns.map .int))]= .ok (.p (.bl true)) outs)(vs:List V)(H:Hp)(Q:VK)(E:XK)(h:MD n K vs H Q E):OG W r vs H Q E:=by
 obtain⟨a,ns,rfl,h1,h2,q⟩:=h;obtain⟨outs,e⟩:=hr ns h2;refine⟨[.b (.ro (ns.map .int))],[],⟨.ref a,[],[],[],rfl,⟨⟨a,_,rfl,hK▸h1,G2 ns⟩,rfl⟩,⟨rfl,rfl⟩,rfl⟩,.nil,?_⟩;rw[e];intro v H' o oos r1 _ _ _;rw[(Xs (c:=.p (.bl true)) r1).1];exact q H'
theorem walk{l:PySem.W.OpenLaw}{q:Program}{loose:List Str}{XP:(Str->Option Value)->Heap->Prop}{YP:World->Heap->Prop}{d:DefRec}{K:Params->PySem.W.Frag}(n:Nat)(k:Nat)(hn:l.most=some n)(hz:n<=sizeLine)(hdf:d.params.defaults=[])(hr:Cw k callerA)
 (hY:∀(w:World) (h:Heap),YP w h->(K w.params).In h)
 (F:∀(w:World) (mg:Str->Option Value) (fa:Addr) (h:Heap),(K w.params).In h->h.Ns mainGlobals mg->mg d.name=some (.ref fa)->
   ∃fd:FuncData,(∀(s:Shared) (u:Value),BindsTo s fd ⟨[u],[]⟩ [("_law_script",u)])/\∀base:Heap,(K w.params).In base->base.Ns mainGlobals mg->E3 l.prog w (K w.params) mg base RC k fa fd ["_law_script"] (MD n (K w.params))):
 PySem.W.WalkO q loose XP YP l.row.toRowW d [] (λf vs=>PySem.call f vs):=
 L2.RO (n:=n) (k:=k) (x:="_law_script") (CX:=λ_=>RC) (sp:=λw=>MD n (K w.params)) hn hz hdf hr hY F (λ_ _ a ns hl hO hS=>⟨a,ns,rfl,T2 hO hS,hl,λ_=>rfl⟩) λ_ _ _ _ _ z=>z
end Iv
abbrev _root_.sP(x:Iv.P):Option Iv.C:=some (.p x)
abbrev _root_.sL(x:List Iv.P):Option Iv.C:=some (.lst x)
abbrev _root_.sD(x:List (Iv.P×Iv.P)):Option Iv.C:=some (.AJ x)
namespace Lk05
open PySem L2 Iv PyProof.Rows
def bd(i:Nat):Stmt:=PySem.Challenge.pw_kinddeeds_k05_no_fit.main.body.getD i (.Pass ⟨0,0,0,0⟩)
noncomputable def NN:List Stmt:=[bd 4,bd 5,bd 9,bd 10,bd 11,bd 12,bd 14,bd 15,bd 16,bd 17,bd 18,bd 19,bd 20,bd 21,bd 22,bd 23,bd 24,L2.inClass (bd 8) 0,L2.inClass (bd 8) 1,L2.inClass (bd 8) 2,L2.inClass (bd 8) 3,L2.inClass (bd 8) 4]
def st(i:Nat):Stmt:=NN.getD i (.Pass ⟨0,0,0,0⟩)
noncomputable def tf:List (Str×Nat):=[("kinds_within",0),("opens_of",1),("leaders_in_order",2),("kinds_by_leader",3),("opens_of_pairs",4),("fitted",5),("_law_cell_at",6),("_law_names",7),("_law_kind",8),("_law_put",9),("_law_cut",10),("_law_image",11),("_law_pairs",12),("_law_wrapped",13),("_law_against",14),("_law_circle",15),("law",16)]
def tc:List (Str×Nat):=[("DeedsError",0),("TooGreat",1),("Groups",2)]
def tg:List (Str×Iv.P):=[("MOST_SIZE",.int 60)]
noncomputable def tm:List ((Nat×Str)×Nat):=[((2,"__init__"),17),((2,"leader_of"),18),((2,"parts_of"),19),((2,"join_all"),20),((2,"join_open"),21)]
def tl:List (Nat×Str):=[(2,"aheads")]
def mt:MT:=⟨λc m=>tm.lookup (c,m),λc f=>tl.contains (c,f)⟩
def fns:List OF:=NN.map (Iv.fnOf tf tc tg)
theorem Ba(i:Nat)(h:i < 22):i < fns.length:=h
theorem all_mk{l:PySem.W.OpenLaw}{w:World}{K:PySem.W.Frag}{h:Heap}{mg:Str->Option Value}{fa c_0 c_1 c_2:Addr}{d0 d1 d2 d3 d4 d5 d6 d7 d8 d9 d10 d11 d12 d13 d14 d15 d16 d17 d18 d19 d20 d21:FuncData}{t0:Tok}(hlaw:∀ns:List Int,ns.length<=63->∃outs,A0 fns mt A6 100 16 [.b (.ro (ns.map .int))]= .ok (.p (.bl true)) outs)(X:K.In h)(G:h.Ns mainGlobals mg)(hfa:mg "law"=some (.ref fa))
 (ac0:nsIn K mainGlobals "DeedsError"=some (some (.ref c_0)))
 (ac1:nsIn K mainGlobals "TooGreat"=some (some (.ref c_1)))
 (ac2:nsIn K mainGlobals "Groups"=some (some (.ref c_2)))
 (a0:nsIn K mainGlobals "kinds_within"=some (some (.ref f0)))(l0:F5 K "kinds_within" "kinds_within" (st 0) f0 d0)
 (a1:nsIn K mainGlobals "opens_of"=some (some (.ref f1)))(l1:F5 K "opens_of" "opens_of" (st 1) f1 d1)
 (a2:nsIn K mainGlobals "leaders_in_order"=some (some (.ref f2)))(l2:F5 K "leaders_in_order" "leaders_in_order" (st 2) f2 d2)
 (a3:nsIn K mainGlobals "kinds_by_leader"=some (some (.ref f3)))(l3:F5 K "kinds_by_leader" "kinds_by_leader" (st 3) f3 d3)
 (a4:nsIn K mainGlobals "opens_of_pairs"=some (some (.ref f4)))(l4:F5 K "opens_of_pairs" "opens_of_pairs" (st 4) f4 d4)
 (a5:nsIn K mainGlobals "fitted"=some (some (.ref f5)))(l5:F5 K "fitted" "fitted" (st 5) f5 d5)
 (a6:nsIn K mainGlobals "_law_cell_at"=some (some (.ref f6)))(l6:F5 K "_law_cell_at" "_law_cell_at" (st 6) f6 d6)
 (a7:nsIn K mainGlobals "_law_names"=some (some (.ref f7)))(l7:F5 K "_law_names" "_law_names" (st 7) f7 d7)
 (a8:nsIn K mainGlobals "_law_kind"=some (some (.ref f8)))(l8:F5 K "_law_kind" "_law_kind" (st 8) f8 d8)
 (a9:nsIn K mainGlobals "_law_put"=some (some (.ref f9)))(l9:F5 K "_law_put" "_law_put" (st 9) f9 d9)
 (a10:nsIn K mainGlobals "_law_cut"=some (some (.ref YQ)))(l10:F5 K "_law_cut" "_law_cut" (st 10) YQ d10)
 (a11:nsIn K mainGlobals "_law_image"=some (some (.ref YO)))(l11:F5 K "_law_image" "_law_image" (st 11) YO d11)
 (a12:nsIn K mainGlobals "_law_pairs"=some (some (.ref ZH)))(l12:F5 K "_law_pairs" "_law_pairs" (st 12) ZH d12)
 (a13:nsIn K mainGlobals "_law_wrapped"=some (some (.ref ZF)))(l13:F5 K "_law_wrapped" "_law_wrapped" (st 13) ZF d13)
 (a14:nsIn K mainGlobals "_law_against"=some (some (.ref f14)))(l14:F5 K "_law_against" "_law_against" (st 14) f14 d14)
 (a15:nsIn K mainGlobals "_law_circle"=some (some (.ref f15)))(l15:F5 K "_law_circle" "_law_circle" (st 15) f15 d15)
 (a16:nsIn K mainGlobals "law"=some (some (.ref YN)))(l16:F5 K "law" "law" (st 16) YN d16)
 (a17:findIn K (.ref c_2) "__init__"=some (some (.ref YM)))(l17:F5 K "__init__" "Groups.__init__" (st 17) YM d17)(n17:isFn K (.ref YM)=true)
 (a18:findIn K (.ref c_2) "leader_of"=some (some (.ref Xr)))(l18:F5 K "leader_of" "Groups.leader_of" (st 18) Xr d18)(n18:isFn K (.ref Xr)=true)
 (a19:findIn K (.ref c_2) "parts_of"=some (some (.ref Xq)))(l19:F5 K "parts_of" "Groups.parts_of" (st 19) Xq d19)(n19:isFn K (.ref Xq)=true)
 (a20:findIn K (.ref c_2) "join_all"=some (some (.ref YL)))(l20:F5 K "join_all" "Groups.join_all" (st 20) YL d20)(n20:isFn K (.ref YL)=true)
 (a21:findIn K (.ref c_2) "join_open"=some (some (.ref f21)))(l21:F5 K "join_open" "Groups.join_open" (st 21) f21 d21)(n21:isFn K (.ref f21)=true)
 (cl2:JZ K c_2)(cm2:makesIn K c_2=true)(cp2:keepIn K (.ref c_2)=true)
 (e0:findIn K (.ref c_2) "aheads"=some none)
 (z:Each (λx=>nsIn K mainGlobals x=some none) JR)
 (y0:nsIn K mainGlobals "MOST_SIZE"=some (some (.int 60 t0)))
 :∃fd:FuncData,(∀(s:Shared) (v:Value),BindsTo s fd ⟨[v],[]⟩ [("_law_script",v)])/\∀base:Heap,K.In base->base.Ns mainGlobals mg->E3 l.prog w K mg base RC 200 fa fd ["_law_script"] (MD 63 K):=by
 have e:YN=fa:=by
  have e:=(mg_of X G a16).symm.trans hfa;injection e with e
  injection e
 subst e
 let fl:List Addr:=[f0,f1,f2,f3,f4,f5,f6,f7,f8,f9,YQ,YO,ZH,ZF,f14,f15,YN,YM,Xr,Xq,YL,f21]
 let cl:List Addr:=[c_0,c_1,c_2]
 let W₀:Wd:=⟨K,w,λc=>cl.getD c 0,λf=>fl.getD f 0⟩
 have D0:∀f,∃fd:FuncData,∀fi,fns[f]? =some fi->NF K W₀ tg tf tc f fi fd ((NN.map EM).getD f []):=by
  intro f;rcases f with _|_|_|_|_|_|_|_|_|_|_|_|_|_|_|_|_|_|_|_|_|_|f
  all_goals first
   | (apply Exists.intro
      intro fi h;cases h;refine U0 (W:=W₀) (by assumption) ⟨by kernel_rfl,by kernel_rfl,by kernel_rfl,by decide +kernel,by kernel_rfl,by decide +kernel,by decide +kernel⟩ (by kernel_rfl) ?_ rfl rfl;intro _ _ _ _ _ _ us hl
      rcases us with _|⟨_,_|⟨_,_|⟨_,_|_⟩⟩⟩<;>first|rfl|cases hl)
   |exact⟨d0,λfi h=>absurd (show(none:Option OF)=some fi from h) nofun⟩
 obtain⟨FD,D⟩:=Classical.skolem.mp D0
 have eL:FD 16=d16:=by
  obtain⟨x,qual,st,ct,F,_⟩:=(D 16 _ rfl).ex;obtain⟨_,_,_,_,_,_,_,_,_,_,lk,_⟩:=F.ex;obtain⟨_,_,_,_,_,_,_,_,_,_,lk2,_⟩:=l16.ex;have lk:=lk.symm.trans lk2;injection lk with lk
  injection lk with _ _ lk _
  injection lk with lk
 have Gb:cb K mg W₀ mt fns.length tg tf tc:=by
  refine⟨rfl,λx p h=>?g1,λx hx _ _ _=>PySem.W.mg_none_of X G (z.mem x hx),λx f h=>?g3,λx c h=>?g4,λc m f h=>?g5,λc f h=>?g6⟩
  case g1=>refine Each.look (l:=tg) (R:=λq:Str×Iv.P=>∃u v,mg q.1=some u/\RelV v u/\∀H,Av _ H q.2 v) ?_ h;unfold tg;exact(.cons ⟨_,.int 60,mg_of X G y0,⟨_,rfl⟩,λH=>Ac.mpr rfl⟩ .nil)
  case g3=>refine Each.look (l:=tf) (R:=λq:Str×Nat=>mg q.1=some (.ref (fl.getD q.2 0))/\keepIn K (.ref (fl.getD q.2 0))=true/\q.2 < fns.length) ?_ h;unfold tf;exact(.cons ⟨mg_of X G a0,l0.kp,Ba 0 (by decide)⟩ (.cons ⟨mg_of X G a1,l1.kp,Ba 1 (by decide)⟩ (.cons ⟨mg_of X G a2,l2.kp,Ba 2 (by decide)⟩ (.cons ⟨mg_of X G a3,l3.kp,Ba 3 (by decide)⟩ (.cons ⟨mg_of X G a4,l4.kp,Ba 4 (by decide)⟩ (.cons ⟨mg_of X G a5,l5.kp,Ba 5 (by decide)⟩ (.cons ⟨mg_of X G a6,l6.kp,Ba 6 (by decide)⟩ (.cons ⟨mg_of X G a7,l7.kp,Ba 7 (by decide)⟩ (.cons ⟨mg_of X G a8,l8.kp,Ba 8 (by decide)⟩ (.cons ⟨mg_of X G a9,l9.kp,Ba 9 (by decide)⟩ (.cons ⟨mg_of X G a10,l10.kp,Ba 10 (by decide)⟩ (.cons ⟨mg_of X G a11,l11.kp,Ba 11 (by decide)⟩ (.cons ⟨mg_of X G a12,l12.kp,Ba 12 (by decide)⟩ (.cons ⟨mg_of X G a13,l13.kp,Ba 13 (by decide)⟩ (.cons ⟨mg_of X G a14,l14.kp,Ba 14 (by decide)⟩ (.cons ⟨mg_of X G a15,l15.kp,Ba 15 (by decide)⟩ (.cons ⟨mg_of X G a16,l16.kp,Ba 16 (by decide)⟩ .nil)))))))))))))))))
  case g4=>refine Each.look (l:=tc) (R:=λq:Str×Nat=>mg q.1=some (.ref (cl.getD q.2 0))/\∀f,mt.m q.2 (Str.ofString "__init__")=some f->Mk K (cl.getD q.2 0) (fl.getD f 0)) ?_ h;unfold tc;exact(.cons ⟨mg_of X G ac0,λf h=>absurd (show(none:Option Nat)=some f from h) nofun⟩ (.cons ⟨mg_of X G ac1,λf h=>absurd (show(none:Option Nat)=some f from h) nofun⟩ (.cons ⟨mg_of X G ac2,λf h=>by cases (show some 17=some f from h);exact⟨cm2,a17,n17,cp2⟩⟩ .nil)))
  case g5=>refine Each.look (l:=tm) (R:=λq:(Nat×Str)×Nat=>JZ K (cl.getD q.1.1 0)/\(q.1.2≠Str.ofString "__init__"->Meth K (cl.getD q.1.1 0) q.1.2 (fl.getD q.2 0))/\q.2 < fns.length) ?_ (show tm.lookup (c,m)=some f from h);unfold tm;exact(.cons ⟨cl2,λ_=>⟨a17,n17,l17.kp⟩,Ba 17 (by decide)⟩ (.cons ⟨cl2,λ_=>⟨a18,n18,l18.kp⟩,Ba 18 (by decide)⟩ (.cons ⟨cl2,λ_=>⟨a19,n19,l19.kp⟩,Ba 19 (by decide)⟩ (.cons ⟨cl2,λ_=>⟨a20,n20,l20.kp⟩,Ba 20 (by decide)⟩ (.cons ⟨cl2,λ_=>⟨a21,n21,l21.kp⟩,Ba 21 (by decide)⟩ .nil)))))
  case g6=>refine Each.mem (l:=tl) (R:=λq:Nat×Str=>Ci K (cl.getD q.1 0) q.2) ?_ (c,f) (by simpa using(show tl.contains (c,f)=true from h));unfold tl;exact(.cons e0 .nil)
 refine⟨FD 16,λs v=>?b,λbase _ _=>(QP (P:=l.prog) (w:=w) (mg:=mg) (base:=base) rfl Gb D 100 16 (Ba 16 (by decide))).1.imp λvs H Q E z=>Th rfl hlaw vs H Q E z⟩
 case b=>
  obtain⟨_,_,_,_,_,_,_,_,_,ed,_⟩:=l16.ex;rw[eL,ed];exact .of_eq rfl
end Lk05
namespace Iv
theorem Bg(c:Env->Res Bool)(b:Env->Res Fl)(ρ:Env):A6 c b ρ=(c ρ).bind λx ρ=>if x then(b ρ).bind λf ρ=>match f with
 | .nx=>A6 c b ρ
 | .cnt=>A6 c b ρ
 | .brk=>.ok .nx ρ
 | .ret r=>.ok (.ret r) ρ
 else .ok .nx ρ:=by
 have up:∀n,AE c b (n + 1) ρ≠.stuck->A6 c b ρ=AE c b (n + 1) ρ:=λn h=>OO h
 have dn:∀{n ρ'},AE c b n ρ'≠.stuck->A6 c b ρ'=AE c b n ρ':=λh=>OO h
 have st:∀ρ',A6 c b ρ'= .stuck->∀n,AE c b n ρ'= .stuck:=λρ' h n=>by
  by_cases hn:AE c b n ρ'= .stuck
  . exact hn
  . rw[dn hn]at h;exact absurd h hn
 by_cases hex:∃n,AE c b n ρ≠.stuck
 . obtain⟨n,hn⟩:=hex;have hn1:AE c b (n + 1) ρ≠.stuck:=by rw[Dk n ρ hn];exact hn
   rw[up n hn1,BC];rw[BC]at hn1;cases ec:c ρ with
   |stuck=>rfl
   | ok x ρ1=>
     rw[ec,Res.A5]at hn1;rw[Res.A5,Res.A5];cases x with
     |false=>rfl
     | true=>
       rw[iP rfl]at hn1;rw[iP rfl,iP rfl];cases eb:b ρ1 with
       |stuck=>rfl
       | ok f ρ2=>
         rw[eb,Res.A5]at hn1;rw[Res.A5,Res.A5];cases f with
         |nx=>exact(dn hn1).symm
         |cnt=>exact(dn hn1).symm
         |brk=>rfl
         |ret r=>rfl
 . have hs : ∀n,AE c b n ρ= .stuck:=λn=>by
    by_cases hn:AE c b n ρ= .stuck
    . exact hn
    . exact absurd ⟨n,hn⟩ hex
   have hw:A6 c b ρ= .stuck:=by
    by_cases hw:A6 c b ρ= .stuck
    . exact hw
    . obtain⟨n,hn⟩:=IU hw;rw[<-hn];exact hs n
   rw[hw];cases ec:c ρ with
   |stuck=>rfl
   | ok x ρ1 =>
     rw[Res.A5];cases x with
     | false=>
       have:=hs 1;rw[BC,ec]at this;cases this
     | true=>
       rw[iP rfl];cases eb:b ρ1 with
       |stuck=>rfl
       | ok f ρ2=>
         rw[Res.A5];have hf:=λn=>hs (n + 1)
         simp only[BC,ec,Res.A5,iP rfl,eb]at hf
         have again:(∀n,AE c b n ρ2= .stuck)->A6 c b ρ2= .stuck:=λh=>by
          by_cases hw:A6 c b ρ2= .stuck
          . exact hw
          . obtain⟨n,hn⟩:=IU hw;rw[<-hn];exact h n
         cases f with
         |nx=>exact(again hf).symm
         |cnt=>exact(again hf).symm
         |brk=>exact absurd (hf 0) nofun
         |ret r=>exact absurd (hf 0) nofun
variable{wh:WH}{fi:OF}{args:List C}
theorem Aw{fns:List OF}{mt:MT}{k f:Nat}(hf:fns[f]? =some fi)(hl:args.length=fi.np)(e:execs (A0 fns mt wh k) mt wh fi.body (args.map some++List.replicate (fi.nl - fi.np) none)= .ok (.ret c) ρ):
 A0 fns mt wh (k + 1) f args= .ok c (FV fi ρ):=by
 show(match fns[f]? with|some fi=>Gm (A0 fns mt wh k) mt wh fi args|none=>.stuck)=_;rw[hf];show Gm (A0 fns mt wh k) mt wh fi args=_;unfold Gm;rw[iP hl,e]
theorem Nx{fns:List OF}{mt:MT}{k f:Nat}(hf:fns[f]? =some fi)(hl:args.length=fi.np)(e:execs (A0 fns mt wh k) mt wh fi.body (args.map some++List.replicate (fi.nl - fi.np) none)= .ok .nx ρ):
 A0 fns mt wh (k + 1) f args= .ok (.p .AG) (FV fi ρ):=by
 show(match fns[f]? with|some fi=>Gm (A0 fns mt wh k) mt wh fi args|none=>.stuck)=_;rw[hf];show Gm (A0 fns mt wh k) mt wh fi args=_;unfold Gm;rw[iP hl,e]
end Iv
namespace Iv
open PySem
variable{cf:CF}{mt:MT}
theorem Nf(o:O)(ts:List T)(ρ:Env):ev cf mt (.prim o ts) ρ=if o.ok then(An cf mt ts ρ).bind λhs ρ=>Res.of ((AB ρ hs).bind (Aa o)) ρ else .stuck:=rfl
theorem Wx(p:P)(ρ:Env):ev cf mt (.cst p) ρ= .ok (.p p) ρ:=rfl
theorem GB(i:Nat)(v:Env->Res C)(ρ:Env):BV (.var i) v ρ=if(A9 ρ i).isSome then .ok (.slot i) ρ else .stuck:=rfl
theorem TL(p:P)(v:Env->Res C)(ρ:Env):BV (.cst p) v ρ=(v ρ).bind λc ρ=>.ok (.BG c) ρ:=rfl
theorem Oi(o:O)(ts:List T)(v:Env->Res C)(ρ:Env):BV (.prim o ts) v ρ=(v ρ).bind λc ρ=>.ok (.BG c) ρ:=rfl
theorem TB(ts:List T)(v:Env->Res C)(ρ:Env):BV (.tup ts) v ρ=(v ρ).bind λc ρ=>.ok (.BG c) ρ:=rfl
theorem TF(ts:List T)(v:Env->Res C)(ρ:Env):BV (.lst ts) v ρ=(v ρ).bind λc ρ=>.ok (.BG c) ρ:=rfl
theorem QK(f:Nat)(ts:List T)(v:Env->Res C)(ρ:Env):BV (.call f ts) v ρ=(v ρ).bind λc ρ=>.ok (.BG c) ρ:=rfl
theorem QF(f:Str)(o:T)(ts:List T)(v:Env->Res C)(ρ:Env):BV (.Bs f o ts) v ρ=(v ρ).bind λc ρ=>.ok (.BG c) ρ:=rfl
theorem TC(m:MO)(o:T)(ts:List T)(v:Env->Res C)(ρ:Env):BV (.F4 m o ts) v ρ=(v ρ).bind λc ρ=>.ok (.BG c) ρ:=rfl
theorem QI(g:Tg)(k:IK)(its cond:List T)(elt:T)(fr:List (Option Nat))(v:Env->Res C)(ρ:Env):BV (.comp g k its cond elt fr) v ρ=(v ρ).bind λc ρ=>.ok (.BG c) ρ:=rfl
theorem QG(o:T)(ts:List T)(v:Env->Res C)(ρ:Env):BV (.Jz o ts) v ρ=(v ρ).bind λc ρ=>.ok (.BG c) ρ:=rfl
theorem TK(a b:List T)(v:Env->Res C)(ρ:Env):BV (.AJ a b) v ρ=(v ρ).bind λc ρ=>.ok (.BG c) ρ:=rfl
theorem QH(i:Nat)(f:Str)(v:Env->Res C)(ρ:Env):BV (.fld i f) v ρ=if(BE ρ i f).isSome then .ok (.fld i f) ρ else .stuck:=rfl
theorem Va(i:Nat)(ρ:Env):tv cf mt (.var i) ρ=match A9 ρ i with|some c=>Res.of (D2 c) ρ|none=>.stuck:=by
 have:tv cf mt (.var i) ρ=(BV (.var i) (ev cf mt (.var i)) ρ).bind λh ρ=>Res.of ((h.cont ρ).bind D2) ρ:=by show(den cf mt (.var i)).b ρ=_;unfold den;rfl
 rw[this,GB];cases hg:A9 ρ i with
 |none=>rfl
 | some c=>
   show Res.of ((A9 ρ i).bind D2) ρ=_;rw[hg];rfl
theorem RP(o:O)(ts:List T)(ρ:Env):tv cf mt (.prim o ts) ρ=(ev cf mt (.prim o ts) ρ).bind λc ρ=>Res.of (D2 c) ρ:=by
 rw[BU];cases ev cf mt (.prim o ts) ρ<;>rfl
theorem cI{a:Option C}{r:Env}:A9 (a::r) 0=a:=rfl
theorem cH{a b:Option C}{r:Env}:A9 (a::b::r) 1=b:=rfl
theorem cG{a b c:Option C}{r:Env}:A9 (a::b::c::r) 2=c:=rfl
theorem cF{a b c d:Option C}{r:Env}:A9 (a::b::c::d::r) 3=d:=rfl
theorem cE{a b c d e:Option C}{r:Env}:A9 (a::b::c::d::e::r) 4=e:=rfl
theorem cD{a b c d e f:Option C}{r:Env}:A9 (a::b::c::d::e::f::r) 5=f:=rfl
theorem cC{a b c d e f g:Option C}{r:Env}:A9 (a::b::c::d::e::f::g::r) 6=g:=rfl
theorem cB{a b c d e f g h:Option C}{r:Env}:A9 (a::b::c::d::e::f::g::h::r) 7=h:=rfl
theorem cA{a b c d e f g h i:Option C}{r:Env}:A9 (a::b::c::d::e::f::g::h::i::r) 8=i:=rfl
theorem cz{a b c d e f g h i j:Option C}{r:Env}:A9 (a::b::c::d::e::f::g::h::i::j::r) 9=j:=rfl
end Iv
local macro_rules
|`(tactic|simp! [$xs,*])=>`(tactic|simp [Iv.Ht,Iv.Na,Iv.JD,Iv.Nd,Iv.QT,Iv.Nc,Iv.QU,Iv.JC,Iv.QW,Iv.QV,Iv.Me,Iv.Wx,Iv.Nf,Iv.R1,Iv.QX,Iv.R0,Iv.Ni,Iv.R3,Iv.UW,Iv.QZ,Iv.OW,Iv.UA,Iv.OV,Iv.Va,Iv.RP,Iv.HC,Iv.G4,Iv.Nq,Iv.X8,Iv.aG,Iv.W7,Iv.Cu,Iv.BO,Iv.GB,Iv.TL,Iv.Oi,Iv.TB,Iv.TF,Iv.QK,Iv.QF,Iv.TC,Iv.QI,Iv.QG,Iv.TK,Iv.QH,Iv.cI,Iv.cH,Iv.cG,Iv.cF,Iv.cE,Iv.cD,Iv.cC,Iv.cB,Iv.cA,Iv.cz,Iv.Hd.cont,Iv.AB,Iv.O.ok,Iv.MO.ok,Iv.Wq,Iv.M8,Iv.Hd.CQ,Iv.T.calm,Iv.placeOf,Iv.Jl,Iv.Cp,Iv.setB,Iv.C.cp,Iv.C.nf,Iv.D2,Iv.EI,$xs,*])
namespace Iv
open PySem
variable{cf:CF}{mt:MT}
noncomputable def F7:List S:=[.asg (.nm 3) (.F4 .pop (.var 2) []),.expr (.F4 .append (.var 1) [.var 3]),.ifs (.prim (.Js .tuple) [.var 3]) [.expr (.F4 .extend (.var 2) [.prim (.list .rev) [.prim (.Gj true false) [.var 3,.cst (.int 1)]]])] []]
theorem V8{w st:List P}{x:Option C}(hp:Cm .tuple (.p p)=some false)(hl:w.length < big):execs cf mt A6 F7 [some k,sL w,sL (st++[p]),x]= .ok .nx [some k,sL (w++[p]),sL st,sP p]:=by
 unfold F7;simp! [CL,Jn,Bh,hl,hp,Aa]
theorem Df{α:Type}(xs:List α):cut xs (some 1) none=xs.tail:=by
 unfold cut Mm;cases xs with
 |nil=>rfl
 |cons x xs=>simp
theorem Xw{w st ps:List P}{x:Option C}(hl:w.length < big)(h2:st.length + ps.tail.length<=big):execs cf mt A6 F7 [some k,sL w,sL (st++[.tup ps]),x]= .ok .nx [some k,sL (w++[.tup ps]),sL (st++ps.tail.reverse),sP (.tup ps)]:=by
 unfold F7;have h3:st.length + (ps.length - 1)<=big:=by rw[List.length_tail]at h2;exact h2
 simp! [CL,Jn,Bh,Fs,hl,Cm,Aa,DI,Dw,Gk,Df,h3]
mutual
def pre:P->List P
 | .tup ps=>.tup ps::PH ps
 |p=>[p]
def PH:List P->List P
 |[]=>[]
 |_::r=>AO r
def AO:List P->List P
 |[]=>[]
 |p::r=>pre p++AO r
end
theorem As(ps:List P):pre (.tup ps)= .tup ps::AO ps.tail:=by
 unfold pre;cases ps with
 |nil=>unfold PH;rw[List.tail_nil];unfold AO;rfl
 | cons p r => conv=>lhs;unfold PH
               all_goals rfl
theorem AI:AO []=[]:=rfl
theorem Ag(p:P)(r:List P):AO (p::r)=pre p++AO r:=rfl
theorem B6:∀(a b:List P),AO (a++b)=AO a++AO b
 |[],b=>by rw[AI];rfl
 |p::a,b=>by rw[cons_append,Ag,Ag,B6 a b,append_assoc]
theorem Bu(p:P):1<=(pre p).length:=by
 cases p with
 |tup ps=>rw[As];simp
 |_=>unfold pre;simp
theorem D7:∀(l:List P),l.length<=(AO l).length
 |[]=>Nat.zero_le _
 | p::l=>by
   have:=D7 l;have:=Bu p;rw[Ag,lC,lA]
   lia
mutual
def noFn:P->Bool
 | .fn _=>false
 | .tup ps=>D9 ps
 |_=>true
def D9:List P->Bool
 |[]=>true
 |p::r=>noFn p && D9 r
end
theorem Cd(p:P)(r:List P):D9 (p::r)=(noFn p && D9 r):=rfl
theorem LP{ps:List P}(h:D9 ps=true):D9 ps.tail=true:=by
 cases ps with
 |nil=>exact h
 |cons p r=>rw[Cd,bA]at h;exact h.2
theorem Fp:∀(a b:List P),D9 (a++b)=(D9 a && D9 b)
 |[],b=>by unfold D9;simp
 |p::a,b=>by rw[cons_append,Cd,Cd,Fp a b,Bool.and_assoc]
theorem V7 :∀(n:Nat) (st w:List P) (x:Option C),(AO st).length<=n->D9 st=true->w.length + (AO st).length<=big->∃x',A6 (tv cf mt (.var 2)) (execs cf mt A6 F7) [some k,sL w,sL st.reverse,x]= .ok .nx [some k,sL (w++AO st),sL [],x']:=by
 intro n
 induction n with
 | zero=>
   intro st w x hn _ _
   have hs:st=[]:=by
    cases st with
    |nil=>rfl
    |cons p r=>have:=D7 (p::r);simp at this hn;rw[hn]at this;simp at this
   subst hs;refine⟨x,?_⟩;rw[Bg,AI];simp! []
 | succ n ih=>
   intro st w x hn hf hb;cases st with
   | nil=>
     refine⟨x,?_⟩;rw[Bg,AI];simp! []
   | cons p r=>
     rw[Cd,bA]at hf;rw[Ag,lA]at hn hb;have p1:=Bu p;have hc:tv cf mt (.var 2) [some k,sL w,sL (p::r).reverse,x]= .ok true [some k,sL w,sL (p::r).reverse,x]:=by simp! []
     have flat:Cm .tuple (.p p)=some false->pre p=[p]->∃x',A6 (tv cf mt (.var 2)) (execs cf mt A6 F7) [some k,sL w,sL (p::r).reverse,x]= .ok .nx [some k,sL (w++AO (p::r)),sL [],x']:=λhp he=>by
      obtain⟨x',e⟩:=ih r (w++[p]) (some (.p p)) (by lia) hf.2 (by rw[lA,lS];lia);refine⟨x',?_⟩;rw[Bg,hc,Res.A5,iP rfl,reverse_cons,V8 hp (by lia),Res.A5];show A6 _ _ _=_;rw[e,Ag,he,append_assoc]
     cases p with
     | tup ps=>
       rw[As,lC]at hn hb;have hl:=D7 ps.tail;have hl2:=D7 r;obtain⟨x',e⟩:=ih (ps.tail++r) (w++[.tup ps]) (some (.p (.tup ps))) (by rw[B6,lA];lia) (by rw[Fp,hf.2,LP (by have:=hf.1;unfold noFn at this;exact this)];rfl) (by rw[lA,lS,B6,lA];lia);refine⟨x',?_⟩;rw[Bg,hc,Res.A5,iP rfl,reverse_cons,Xw (by lia) (by rw[length_reverse];lia),Res.A5];show A6 _ _ _=_;rw[<-List.reverse_append,e,Ag,As,B6];simp
     |fn i=>have:=hf.1;unfold noFn at this;cases this
     |AG=>exact flat rfl (by unfold pre;rfl)
     |bl b=>exact flat rfl (by unfold pre;rfl)
     |int b=>exact flat rfl (by unfold pre;rfl)
     |str b=>exact flat rfl (by unfold pre;rfl)
end Iv
namespace Lk05
open Iv PySem
theorem f0:fns[0]? =some ⟨1,4,[S.asg (.nm 1) (.lst []),.asg (.nm 2) (.lst [.var 0]),.K2 (.var 2) F7,.ret (some (.var 1))]⟩:=by kernel_rfl
theorem Gn{k:Nat}(hf:noFn p=true)(hl:(pre p).length<=big):A0 fns mt A6 (k + 1) 0 [.p p]= .ok (.lst (pre p)) [sP p]:=by
 obtain⟨x',e⟩:=V7 (cf:=A0 fns mt A6 k) (mt:=mt) (k:=.p p) (AO [p]).length [p] [] none (lR) (by rw[Cd,hf];unfold D9;rfl) (by rw[Ag,AI];simpa using hl)
 have e:A6 (tv (A0 fns mt A6 k) mt (.var 2)) (execs (A0 fns mt A6 k) mt A6 F7) [sP p,sL [],sL [p],none]= .ok .nx [sP p,sL (pre p),sL [],x']:=by
  rw[Ag,AI]at e;simpa using e
 have e2:execs (A0 fns mt A6 k) mt A6 [S.asg (.nm 1) (.lst []),.asg (.nm 2) (.lst [.var 0]),.K2 (.var 2) F7,.ret (some (.var 1))] [sP p,none,none,none]= .ok (.ret (.lst (pre p))) [sP p,none,sL [],x']:=by
  simp! [EY,e]
 rw[Aw f0 rfl e2];rfl
end Lk05
namespace Iv
open PySem
mutual
def Al:P->Bool
 | .int _=>true
 | .tup ps=>Cq ps
 |_=>false
def Cq:List P->Bool
 | .str _::r=>CP r
 |_=>false
def CP:List P->Bool
 |[]=>true
 |p::r=>Al p && CP r
end
theorem Bb(p:P)(r:List P):CP (p::r)=(Al p && CP r):=rfl
theorem Bj{ps:List P}(h:Al (.tup ps)=true):∃x r,ps= .str x::r/\CP r=true:=by
 unfold Al at h;unfold Cq at h;split at h
 . exact⟨_,_,rfl,h⟩
 . cases h
theorem Cj:∀{l:List P},CP l=true->∀p∈l,Al p=true
 |[],_,p,hp=>by cases hp
 | q::l,h,p,hp=>by
   rw[Bb,bA]at h;rcases mK hp with z|z
   . rw[z];exact h.1
   . exact Cj h.2 p z
mutual
theorem Im:∀(p:P),Al p=true->noFn p=true
 | .int _,_=>by unfold noFn;rfl
 | .AG,h=>by unfold Al at h;cases h
 | .bl _,h=>by unfold Al at h;cases h
 | .str _,h=>by unfold Al at h;cases h
 | .fn _,h=>by unfold Al at h;cases h
 | .tup ps,h=>by
   unfold Al at h;unfold noFn;exact M6 ps h
theorem M6:∀(ps:List P),Cq ps=true->D9 ps=true
 |[],h=>by unfold Cq at h;cases h
 | p ::r,h=>by
   rw[Cd];cases p with
   | str x=>
     unfold Cq at h;rw[Hg r h];unfold noFn;rfl
   |_=>unfold Cq at h;cases h
theorem Hg:∀(ps:List P),CP ps=true->D9 ps=true
 |[],_=>by unfold D9;rfl
 | p::r,h=>by
   rw[Bb,bA]at h;rw[Cd,Im p h.1,Hg r h.2];rfl
end
mutual
theorem LF:∀(p:P),Al p=true->∀q∈pre p,Al q=true
 | .int i,h,q,hq=>by unfold pre at hq;rw[mE hq];exact h
 | .AG,h,_,_=>by unfold Al at h;cases h
 | .bl _,h,_,_=>by unfold Al at h;cases h
 | .str _,h,_,_=>by unfold Al at h;cases h
 | .fn _,h,_,_=>by unfold Al at h;cases h
 | .tup ps,h,q,hq=>by
   unfold pre at hq;rcases mK hq with z|z
   . rw[z];exact h
   . unfold Al at h;exact SD ps h q z
theorem SD:∀(ps:List P),Cq ps=true->∀q∈PH ps,Al q=true
 |[],h,_,_=>by unfold Cq at h;cases h
 | p::r,h,q,hq=>by
   unfold PH at hq;cases p with
   |str x=>unfold Cq at h;exact MU r h q hq
   |_=>unfold Cq at h;cases h
theorem MU:∀(ps:List P),CP ps=true->∀q∈AO ps,Al q=true
 |[],_,q,hq=>by unfold AO at hq;cases hq
 | p::r,h,q,hq=>by
   rw[Bb,bA]at h;rw[Ag]at hq;rcases mem_append.mp hq with z|z
   . exact LF p h.1 q z
   . exact MU r h.2 q z
end
variable{cf:CF}{mt:MT}
theorem CZ(g:Tg)(b:Env->Res Fl)(x:P)(xs:List P)(ρ:Env):forL g [] b (x::xs) ρ=(Res.of (DF g x ρ) ρ).bind λρ1 _=>(b ρ1).bind λf ρ=>match f with
 | .nx=>forL g [] b xs ρ
 | .cnt=>forL g [] b xs ρ
 | .brk=>.ok .nx ρ
 | .ret r=>.ok (.ret r) ρ:=by
 show(if holds [] ρ then _ else _)=_;rfl
theorem HL{f:Nat}{hs:List Hd}{cs:List C}{c:C}{outs:List (Option C)}(ec:AB ρ hs=some cs)(hc:∀c∈cs,c.cp=true)(e:cf f cs= .ok c outs)(ho:outs.length=cs.length):B3 cf f hs ρ= .ok c ρ:=by
 have hl:∀{hs:List Hd} {cs:List C},(∀c∈cs,c.cp=true)->Cp hs cs=[]:=by
  intro hs
  induction hs with
  |nil=>intro cs _;rfl
  | cons h hs ih=>
    intro cs hc;cases cs with
    |nil=>rfl
    | cons c cs=>
      rw[BN,hc c mS,ih λc hc'=>hc c (mC hc')];rfl
 have hg:∀{hs:List Hd} {cs:List C},(∀c∈cs,c.cp=true)->A8 hs cs=true:=by
  intro hs cs hc;unfold A8;rw[all_eq_true];intro q hq;rw[hc q.2 (of_mem_zip hq).2];rfl
 have hb:∀{hs:List Hd} {cs:List C} {outs:List (Option C)} {ρ' ρ0:Env},AB ρ0 hs=some cs->(∀c∈cs,c.cp=true)->outs.length=cs.length->back ρ' hs cs outs=some ρ':=by
  intro hs
  induction hs with
  |nil=>intro cs outs ρ' ρ0 ec _ _;cases ec;unfold back;rfl
  | cons h hs ih=>
    intro cs outs ρ' ρ0 ec hc ho;unfold AB at ec;obtain⟨c,e1,e2⟩:=oB ec;obtain⟨ds,e3,rfl⟩:=oM e2;cases outs with
    |nil=>cases ho
    | cons o outs=>
      have h1:=hc c mS;have r:=ih (ρ':=ρ') e3 (λc hc'=>hc c (mC hc')) (by simpa using ho);cases h with
      |BG d=>unfold back;exact r
      |slot i=>unfold back;rw[h1];exact r
      |fld i f=>unfold back;rw[h1];exact r
 unfold B3;rw[ec];dsimp only;have hle:lend ρ hs cs=ρ:=by unfold lend;rw[hl hc];rfl
 rw[hl hc,hg hc,iP ⟨nodup_nil,rfl⟩,e,hle];dsimp only;rw[hb ec hc ho];rfl
def H9:List S:=[.ifs (.prim (.Js .int) [.var 2]) [.Dx (.var 1) (.var 2) (.cst (.bl true))] []]
def JT(d:List (P×P)):P->List (P×P)
 | .int i=>dput d (.int i) (.bl true)
 |_=>d
theorem Rr(d:List (P×P))(q:P):(JT d q).length<=d.length + 1:=by
 cases q<;>first|exact Nat.le_succ _|exact Cr _ _ _
theorem W5{d:List (P×P)}(hq:Al q=true)(hd:d.length < big):execs cf mt A6 H9 [some c0,sD d,sP q]= .ok .nx [some c0,sD (JT d q),sP q]:=by
 unfold H9;cases q with
 | int i=>
   have hk:keyOk (.int i)=true:=by unfold keyOk AS flat Jt P.depth;rfl
   simp! [AV,Cm,Aa,BS,Dz,BH,Dy,hk,hd,JT]
 |tup ps=>simp! [AV,Cm,Aa,JT]
 |_=>unfold Al at hq;cases hq
theorem Q8 :∀(xs:List P) (d:List (P×P)) (x:Option C),(∀q∈xs,Al q=true)->d.length + xs.length<=big->∃x',forL (.nm 2) [] (execs cf mt A6 H9) xs [some c0,sD d,x]= .ok .nx [some c0,sD (xs.foldl JT d),x']
 |[],d,x,_,_=>⟨x,rfl⟩
 | q::xs,d,x,hq,hl=>by
   rw[lC]at hl;have:=Rr d q;obtain⟨x',e⟩:=Q8 (c0:=c0) xs (JT d q) (some (.p q)) (λq' h=>hq q' (mC h)) (by lia);refine⟨x',?_⟩;rw[CZ];show((execs cf mt A6 H9 [some c0,sD d,sP q]).bind _)=_;rw[W5 (hq q mS) (by lia),Res.A5];exact e
end Iv
namespace Lk05
open Iv PySem
theorem f1:fns[1]? =some ⟨1,3,[S.asg (.nm 1) (.AJ [] []),.CW (.nm 2) .op [.call 0 [.var 0]] H9,.ret (some (.prim (.list .op) [.var 1]))]⟩:=by kernel_rfl
def Ee(p:Iv.P):List (Iv.P×Iv.P):=(pre p).foldl JT []
theorem Kv{k:Nat}(hf:Al p=true)(hl:(pre p).length<=big):A0 fns mt A6 (k + 2) 1 [.p p]= .ok (.lst ((Ee p).map (·.1))) [sP p]:=by
 obtain⟨x',e⟩:=Q8 (cf:=A0 fns mt A6 (k + 1)) (mt:=mt) (c0:=.p p) (pre p) [] none (LF p hf) (by simpa using hl);have hc:∀ρ,A9 ρ 0=some (.p p)->B3 (A0 fns mt A6 (k + 1)) 0 [.slot 0] ρ= .ok (.lst (pre p)) ρ:=λρ hρ=>HL (by show((A9 ρ 0).bind _)=_;rw[hρ];rfl) (λc hc=>by rw[mE hc];rfl) (Gn (Im p hf) hl) rfl
 have e1:ev (A0 fns mt A6 (k + 1)) mt (.call 0 [.var 0]) [sP p,sD [],none]= .ok (.lst (pre p)) [sP p,sD [],none]:=by
  simp! [A9,AW,hc]
 have e0:ev (A0 fns mt A6 (k + 1)) mt (.AJ [] []) [sP p,none,none]= .ok (.AJ []) [sP p,none,none]:=by
  show(den _ _ (.AJ [] [])).v _=_;unfold den;rfl
 have e2:execs (A0 fns mt A6 (k + 1)) mt A6 [S.asg (.nm 1) (.AJ [] []),.CW (.nm 2) .op [.call 0 [.var 0]] H9,.ret (some (.prim (.list .op) [.var 1]))] [sP p,none,none]= .ok (.ret (.lst ((Ee p).map (·.1)))) [sP p,sD (Ee p),x']:=by
  have e':forL (.nm 2) [] (execs (A0 fns mt A6 (k + 1)) mt A6 H9) (pre p) [sP p,sD [],none]= .ok .nx [sP p,sD (Ee p),x']:=e;simp! [Cf,IK.ok,E9,Ah,EF,NQ,Aa,A8,guards,e0,e1,e']
 rw[Aw f1 rfl e2];rfl
end Lk05
namespace Iv
open PySem
variable{cf:CF}{mt:MT}
def cellAt(ns:List Int)(k:Nat):Int:=match ns[k]? with
 |some n=>n % 10 ^ 30
 |none=>0
mutual
def Ae (d:List (P×P)):P->P
 | .tup ps=>.tup (VA d ps)
 |p=>(Af d p).getD p
def VA (d:List (P×P)):List P->List P
 |[]=>[]
 |x::r=>x::G8 d r
def G8 (d:List (P×P)):List P->List P
 |[]=>[]
 |p::r=>Ae d p::G8 d r
end
theorem CC(d:List (P×P))(p:P)(r:List P):G8 d (p::r)=Ae d p::G8 d r:=rfl
theorem CY(d:List (P×P)):G8 d []=[]:=rfl
theorem NY(d:List (P×P)):∀(l:List P),(G8 d l).length=l.length
 |[]=>by rw[CY]
 |p::l=>by rw[CC,lC,lC,NY d l]
theorem AM(d:List (P×P))(x:P)(r:List P):Ae d (.tup (x::r))= .tup (x::G8 d r):=by
 unfold Ae
 conv=>lhs;unfold VA
theorem DG(d:List (P×P))(i:Int):Ae d (.int i)=(Af d (.int i)).getD (.int i):=rfl
theorem JP{f i j:Nat}{c1 c2:C}{o1:Option C}{ρ:Env}(h1:A9 ρ i=some c1)(h2:A9 ρ j=some c2)(k1:c1.cp=true)(k2:c2.cp=false)(e:cf f [c1,c2]= .ok c [o1,some c2']):B3 cf f [.slot i,.slot j] ρ= .ok c (ρ.set j (some c2')):=by
 unfold B3
 have ec:AB ρ [.slot i,.slot j]=some [c1,c2]:=by
  show((A9 ρ i).bind λc=>((A9 ρ j).bind λd=>(some []).map (d::·)).map (c::·))=_;rw[h1,h2];rfl
 have hl:Cp [.slot i,.slot j] [c1,c2]=[j]:=by
  rw[BN,BN,k1,k2];rfl
 have hg:A8 [.slot i,.slot j] [c1,c2]=true:=by
  unfold A8;simp
 rw[ec];dsimp only;rw[hl,hg,iP ⟨by simp,rfl⟩,e];have hle:lend ρ [.slot i,.slot j] [c1,c2]=ρ.set j none:=by unfold lend;rw[hl];rfl
 rw[hle];dsimp only
 have hb:back (ρ.set j none) [.slot i,.slot j] [c1,c2] [o1,some c2']=some (ρ.set j (some c2')):=by
  unfold back;rw[k1];show back (ρ.set j none) [.slot j] [c2] [some c2']=_;unfold back;rw[k2];show back ((ρ.set j none).set j (some c2')) [] [] []=_;unfold back;rw[set_set]
 rw[hb];rfl
variable{cond:Env->Res Bool}
theorem Ek{gs:List (Nat×C)}{elt:Env->Res C}{xs acc:List P}{β1:Env}(h:holds gs β=true)(e1:DF g x β=some β1)(e2:cond β1= .ok true β2)(e3:elt β2= .ok (.p y) β3):Cv g gs cond elt (x::xs) acc β=Cv g gs cond elt xs (acc++[y]) β3:=by
 conv=>lhs;unfold Cv
 rw[iP h,e1,Res.Je,Res.A5,e2,Res.A5,iP rfl,e3];rfl
theorem EA{elt:Env->Res C}{F:P->P}{β:P->Env}(hset:∀x,DF g x β0=some (β x))(hset2:∀y x,DF g x (β y)=some (β x))(hc:∀ρ,cond ρ= .ok true ρ):
 ∀(xs acc:List P),(∀x∈xs,elt (β x)= .ok (.p (F x)) (β x))->∀β1,(β1=β0\/∃y,β1=β y)->∃β2,(β2=β0\/∃y,β2=β y)/\Cv g [] cond elt xs acc β1= .ok (acc++xs.map F) β2
 |[],acc,_,β1,h=>⟨β1,h,by rw[map_nil,append_nil];rfl⟩
 | x ::xs,acc,he,β1,h=>by
   obtain⟨β2,q1,q2⟩:=EA hset hset2 hc xs (acc++[F x]) (λy hy=>he y (mC hy)) (β x) (.inr ⟨x,rfl⟩);refine⟨β2,q1,?_⟩
   have hs:DF g x β1=some (β x):=by
    rcases h with rfl|⟨y,rfl⟩
    . exact hset x
    . exact hset2 y x
   rw[Ek rfl hs (hc _) (he x mS)];rw[q2,map_cons,append_assoc];rfl
theorem AL(d:List (P×P)):∀l,G8 d l=l.map (Ae d)
 |[]=>CY d
 |p::l=>by rw[CC,map_cons,AL d l]
end Iv
namespace Lk05
open Iv PySem
theorem f6:fns[6]? =some ⟨2,2,[S.ifs (.prim .lt [.var 1,.prim .len [.var 0]]) [.ret (some (.prim .mod [.prim .idx [.var 0,.var 1],.prim .pow [.cst (.int 10),.cst (.int 30)]]))] [],.ret (some (.cst (.int 0)))]⟩:=by kernel_rfl
theorem DZ{j:Nat}{ns:List Int}{k:Nat}:A0 fns mt A6 (j + 1) 6 [.b (.ro (ns.map .int)),.p (.int k)]= .ok (.p (.int (cellAt ns k))) [some (.b (.ro (ns.map .int))),sP (.int k)]:=by
 have e2:execs (A0 fns mt A6 j) mt A6 [S.ifs (.prim .lt [.var 1,.prim .len [.var 0]]) [.ret (some (.prim .mod [.prim .idx [.var 0,.var 1],.prim .pow [.cst (.int 10),.cst (.int 30)]]))] [],.ret (some (.cst (.int 0)))] [some (.b (.ro (ns.map .int))),sP (.int k)]= .ok (.ret (.p (.int (cellAt ns k)))) [some (.b (.ro (ns.map .int))),sP (.int k)]:=by
  unfold cellAt
  by_cases hk:k < ns.length
  . simp! [Aa,DJ,AK,KH,AN,FN,AR,B2,PJ,hk]
  . simp! [Aa,DJ,AK,KH,AN,FN,AR,B2,PJ,hk]
 rw[Aw f6 rfl e2];rfl
noncomputable def Pw:List S:=[.ifs (.prim (.Js .tuple) [.var 0]) [.ret (some (.prim (.tuple .op) [.prim .add [.lst [.prim .idx [.var 0,.cst (.int 0)]],.comp (.nm 1) .op [.prim (.Gj true false) [.var 0,.cst (.int 1)]] [] (.call 9 [.var 1,.var 2]) [none,none,some 1]]]))] [],.ret (some (.Jz (.var 1) [.var 0,.var 0]))]
theorem YQ:fns[9]? =some ⟨2,2,Pw⟩:=by kernel_rfl
mutual
def FC:Iv.P->Bool
 | .tup ps=>decide (ps.length<=1000) && EX ps
 |_=>true
def EX:List Iv.P->Bool
 |[]=>true
 |p::r=>FC p && EX r
end
theorem Dr(p:Iv.P)(r:List Iv.P):EX (p::r)=(FC p && EX r):=rfl
theorem Hr:∀{l:List Iv.P},EX l=true->∀p∈l,FC p=true
 |[],_,p,hp=>by cases hp
 | q::l,h,p,hp=>by
   rw[Dr,bA]at h;rcases mK hp with z|z
   . rw[z];exact h.1
   . exact Hr h.2 p z
theorem ID:∀{l:List Iv.P} {p:Iv.P},p∈l->p.depth<=Iv.P.Ao l
 |[],p,h=>by cases h
 | q::l,p,h=>by
   conv=>rhs;unfold Iv.P.Ao
   rcases mK h with z|z
   . rw[z];exact Nat.le_max_left _ _
   . exact Nat.le_trans (ID z) (Nat.le_max_right _ _)
theorem LC :∀(n:Nat) (p:Iv.P),Al p=true->FC p=true->p.depth < n->A0 fns mt A6 n 9 [.p p,.AJ d]= .ok (.p (Ae d p)) [sP p,sD d]
 |0,p,_,_,h=>by lia
 | n + 1,p,hk,hf,hd=>by
   cases p with
   | int i=>
     have hky:keyOk (.int i)=true:=by unfold keyOk AS flat Jt Iv.P.depth;rfl
     have e2:execs (A0 fns mt A6 n) mt A6 Pw [sP (.int i),sD d]= .ok (.ret (.p (Ae d (.int i)))) [sP (.int i),sD d]:=by
      unfold Pw;rw[DG];simp! [Aa,Cm,JA,HV,hky]
     rw[Aw YQ rfl e2];rfl
   | tup ps=>
     obtain⟨x,r,rfl,hr⟩:=Bj hk;unfold FC at hf;rw[bA,Dr,bA]at hf;have hlen:r.length + 1<=1000:=by have:=of_decide_eq_true hf.1;simpa using this
     have hdep:Iv.P.Ao r < n:=by
      have h1:(Iv.P.tup (.str x::r)).depth=Iv.P.Ao (.str x::r) + 1:=by conv=>lhs;unfold Iv.P.depth
      have h2:Iv.P.Ao (.str x::r)=max (Iv.P.str x).depth (Iv.P.Ao r):=by conv=>lhs;unfold Iv.P.Ao
      have h3:=Nat.le_max_right (Iv.P.str x).depth (Iv.P.Ao r)
      lia
     have ih:∀q∈r,A0 fns mt A6 n 9 [.p q,.AJ d]= .ok (.p (Ae d q)) [sP q,sD d]:=λq hq=>LC n q (Cj hr q hq) (Hr hf.2.2 q hq) (Nat.lt_of_le_of_lt (ID hq) hdep)
     have ec:ev (A0 fns mt A6 n) mt (.comp (.nm 1) .op [.prim (.Gj true false) [.var 0,.cst (.int 1)]] [] (.call 9 [.var 1,.var 2]) [none,none,some 1]) [sP (.tup (.str x::r)),sD d]= .ok (.lst (r.map (Ae d))) [sP (.tup (.str x::r)),sD d]:=by
      rw[CK]
      have he:∀q∈r,ev (A0 fns mt A6 n) mt (.call 9 [.var 1,.var 2]) [none,sP q,sD d]= .ok (.p (Ae d q)) [none,sP q,sD d]:=λq hq=>by
       rw[AW];have:=JP (cf:=A0 fns mt A6 n) (f:=9) (i:=1) (j:=2) (ρ:=[none,sP q,sD d]) rfl rfl rfl rfl (ih q hq);simp! [this]
      obtain⟨β2,q1,q2⟩:=EA (g:=.nm 1) (cond:=Ea (A0 fns mt A6 n) mt []) (elt:=ev (A0 fns mt A6 n) mt (.call 9 [.var 1,.var 2])) (F:=Ae d) (β:=λq=>[none,sP q,sD d]) (β0:=[none,none,sD d]) (λ_=>rfl) (λ_ _=>rfl) Cs r [] he [none,none,sD d] (.inl rfl)
      have hb:AD (BX [none,none,some 1] [sP (.tup (.str x::r)),sD d]) [none,none,some 1] β2=[sP (.tup (.str x::r)),sD d]:=by
       rcases q1 with rfl|⟨y,rfl⟩<;>rfl
      have hbig:r.length<=big:=by unfold big;lia
      have hcut:cut (Iv.P.str x::r) (some 1) none=r:=Df _;rw[nil_append]at q2;simp! [IK.ok,Aa,DI,Dw,hcut,DP,Ah,EF,A8,BW,Bv,guards,hbig,Bd,q2,hb,Tg.slots]
     have e2:execs (A0 fns mt A6 n) mt A6 Pw [sP (.tup (.str x::r)),sD d]= .ok (.ret (.p (Ae d (.tup (.str x::r))))) [sP (.tup (.str x::r)),sD d]:=by
      have hu:r.length + 1<=big:=by unfold big;lia
      unfold Pw;rw[AM,AL];simp! [Aa,Cm,ec,AN,FN,C7,EE,E5,hu]
     rw[Aw YQ rfl e2];rfl
   |_=>unfold Al at hk;cases hk
end Lk05
namespace Iv
open PySem
def G1:P->Bool
 | .str _=>true
 |p=>Al p
theorem Dn(h:Al p=true):G1 p=true:=by
 cases p with
 |str _=>rfl
 |_=>exact h
end Iv
namespace Lk05
open Iv PySem
theorem eq_int(i j:Int):GC (.int i) (.int j)=some (decide (i=j)):=by
 unfold GC AQ Bz Iv.P.depth
 by_cases h:i=j
 . subst h;simp
 . simp[h]
theorem eq_str(i j:Str):GC (.str i) (.str j)=some (decide (i=j)):=by
 unfold GC AQ Bz Iv.P.depth
 by_cases h:i=j
 . subst h;simp
 . simp[h]
end Lk05
namespace Iv
open PySem
theorem Ei(k:P):Af [] k=none:=rfl
theorem By(q:P×P)(l:List (P×P))(k:P):Af (q::l) k=if q.1=k then some q.2 else Af l k:=by
 unfold Af;rw[List.find?_cons]
 by_cases h:q.1=k
 . rw[decide_eq_true h,iP h];rfl
 . rw[dF h,iN h]
theorem L1{k v:P}:∀(l:List (P×P)),Af (l.map λq=>if q.1=k then(q.1,v)else q) k'=if k'=k then(Af l k).map (λ_=>v)else Af l k'
 |[]=>by simp[Ei]
 | q ::l=>by
   rw[map_cons,By,L1 l,By,By]
   by_cases h1:q.1=k
   . rw[iP h1]
     by_cases h2:k'=k
     . subst h2;simp[h1]
     . have:¬q.1=k':=λz=>h2 (z.symm.trans h1)
       simp[h2,this]
   . rw[iN h1]
     by_cases h2:k'=k
     . subst h2;simp[h1]
     . simp[h2]
theorem IB{k v:P}:∀(l:List (P×P)),(l.any λq=>decide (q.1=k))=false->Af (l++[(k,v)]) k'=if k'=k then some v else Af l k'
 | [],_=>by
   rw[nil_append,By,Ei]
   by_cases h:k=k'
   . subst h;simp
   . rw[iN h,iN (λz=>h z.symm)]
 | q::l,h=>by
   rw[any_cons,Bool.or_eq_false_iff]at h;have h1:¬q.1=k:=of_decide_eq_false h.1;rw[cons_append,By,IB l h.2,By]
   by_cases h2:k'=k
   . subst h2;simp[h1]
   . simp[h2]
theorem DD{v:P}:∀{l:List (P×P)},Af l k=some v->(l.any λq=>decide (q.1=k))=true
 |[],h=>by cases h
 | q::l,h=>by
   rw[By]at h;rw[any_cons]
   by_cases h1:q.1=k
   . rw[decide_eq_true h1];rfl
   . rw[iN h1]at h;rw[DD h];simp
theorem HN{k:P}:∀{l:List (P×P)},(l.any λq=>decide (q.1=k))=true->∃v,Af l k=some v
 |[],h=>by cases h
 | q ::l,h=>by
   rw[By]
   by_cases h1:q.1=k
   . exact⟨q.2,iP h1⟩
   . rw[iN h1];rw[any_cons,dF h1,Bool.false_or]at h;exact HN h
theorem Am(l:List (P×P))(k v k':P):Af (dput l k v) k'=if k'=k then some v else Af l k':=by
 unfold dput;split
 . rename_i h;rw[L1];obtain⟨u,hu⟩:=HN h;rw[hu];rfl
 . rename_i h;exact IB l (Bool.eq_false_iff.mpr h)
theorem DC{l:List (P×P)}{u:P}(h:Af l k=some u):(dput l k v).length=l.length:=by
 unfold dput;rw[iP (DD h),lM]
inductive Ch(A:List (P×P)):P->List P->P->Prop where
 |nil {q:P} (h:Af A q=none) (k:keyOk q=true):Ch A q [] q
 |cons {p p' q:P} {l:List P} (h:Af A p=some p') (k:keyOk p=true) (r:Ch A p' l q):Ch A p (p::l) q
theorem Ch.keep(hk:(Af A k).isSome=true):∀{p q:P} {l:List P},Ch A p l q->k∉l->Ch (dput A k v) p l q
 |_,_,_,.nil h kq,_=>.nil (by
     rw[Am,iN,h]
     intro z;subst z;rw[h]at hk;cases hk) kq
 |_,_,_,.cons (p:=p) h kp r,hn=>.cons (by
     rw[Am,iN (λz=>hn (by rw[<-z];exact mS)),h]) kp (Ch.keep hk r λz=>hn (mC z))
def BF:Str:=Str.ofString "aheads"
def compress(A:List (P×P))(l:List P)(q:P):List (P×P):=l.foldl (λA p=>dput A p q) A
variable{cf:CF}{mt:MT}
def Ar(A:List (P×P)):C:=.obj 2 [(BF,.AJ A)]
def up1:List S:=[.asg (.nm 2) (.prim .idx [.fld 0 BF,.var 2])]
noncomputable def Xx:List S:=[.asg (.nm 3) (.prim .idx [.fld 0 BF,.var 1]),.Dx (.fld 0 BF) (.var 1) (.var 2),.asg (.nm 1) (.var 3)]
theorem OQ{x:Option C}(h:Ch A p l q):A6 (tv cf mt (.prim .Og [.var 2,.fld 0 BF])) (execs cf mt A6 up1) [some (Ar A),some p0,sP p,x]= .ok .nx [some (Ar A),some p0,sP q,x]:=by
 induction h with
 | nil h k=>
   rw[Bg];simp! [BE,Ar,Aa,AK,memC,k,h]
 | @cons p p' q l h k r ih=>
   rw[Bg];have e1:tv cf mt (.prim .Og [.var 2,.fld 0 BF]) [some (Ar A),some p0,sP p,x]= .ok true [some (Ar A),some p0,sP p,x]:=by simp! [BE,Ar,Aa,AK,memC,k,h]
   have e2:execs cf mt A6 up1 [some (Ar A),some p0,sP p,x]= .ok .nx [some (Ar A),some p0,sP p',x]:=by
    unfold up1;simp! [BE,Ar,Aa,AN,k,h]
   rw[e1,Res.A5,iP rfl,e2,Res.A5];exact ih
theorem K4 :∀(l:List P) {A:List (P×P)} {p:P} {x:Option C},Ch A p l q->l.Nodup->A.length < big->∃x',A6 (tv cf mt (.prim .Og [.var 1,.fld 0 BF])) (execs cf mt A6 Xx) [some (Ar A),sP p,sP q,x]= .ok .nx [some (Ar (compress A l q)),sP q,sP q,x']
 | [],A,p,x,hc,_,_=>by
   cases hc with
   | nil h k=>
     refine⟨x,?_⟩;rw[Bg];unfold compress;simp! [BE,Ar,Aa,AK,memC,k,h]
 | p1::l,A,p,x,hc,hn,hb=>by
   cases hc with
   | @cons _ p' _ _ h k r=>
     obtain⟨n1,n2⟩:=nodup_cons.mp hn;obtain⟨x',e⟩:=K4 l (x:=some (.p p')) (r.keep (k:=p1) (v:=q) (by rw[h];rfl) n1) n2 (by rw[DC h];exact hb);refine⟨x',?_⟩;rw[Bg];have e1:tv cf mt (.prim .Og [.var 1,.fld 0 BF]) [some (Ar A),sP p1,sP q,x]= .ok true [some (Ar A),sP p1,sP q,x]:=by simp! [BE,Ar,Aa,AK,memC,k,h]
     have e2:execs cf mt A6 Xx [some (Ar A),sP p1,sP q,x]= .ok .nx [some (Ar (dput A p1 q)),sP p',sP q,sP p']:=by
      unfold Xx;simp! [BE,Ar,Aa,AN,k,h,AV,BS,Dz,BH,Dy,hb,Br]
     rw[e1,Res.A5,iP rfl,e2,Res.A5];exact e
end Iv
namespace Lk05
open Iv PySem
theorem YM:fns[18]? =some ⟨2,4,[S.asg (.nm 2) (.var 1),.K2 (.prim .Og [.var 2,.fld 0 BF]) up1,.K2 (.prim .Og [.var 1,.fld 0 BF]) Xx,.ret (some (.var 2))]⟩:=by kernel_rfl
theorem Jp{k:Nat}{A:List (Iv.P×Iv.P)}{l:List Iv.P}(h:Ch A p l q)(hn:l.Nodup)(hb:A.length < big):A0 fns mt A6 (k + 1) 18 [Ar A,.p p]= .ok (.p q) [some (Ar (compress A l q)),none]:=by
 have e1:=OQ (cf:=A0 fns mt A6 k) (mt:=mt) (p0:=.p p) (x:=none) h;obtain⟨x',e3⟩:=K4 (cf:=A0 fns mt A6 k) (mt:=mt) l (x:=none) h hn hb
 have e2:execs (A0 fns mt A6 k) mt A6 [S.asg (.nm 2) (.var 1),.K2 (.prim .Og [.var 2,.fld 0 BF]) up1,.K2 (.prim .Og [.var 1,.fld 0 BF]) Xx,.ret (some (.var 2))] [some (Ar A),sP p,none,none]= .ok (.ret (.p q)) [some (Ar (compress A l q)),sP q,sP q,x']:=by
  simp! [EY,e1,e3]
 rw[Aw YM rfl e2];rfl
end Lk05
namespace Iv
open PySem
variable{cf:CF}{mt:MT}
theorem FG{f i:Nat}{hs:List Hd}{cs:List C}{o c:C}{outs:List (Option C)}{ρ:Env}(h1:A9 ρ i=some o)(k1:o.cp=false)(ec:AB ρ hs=some cs)(hc:∀c∈cs,c.cp=true)(e:cf f (o::cs)= .ok c (some o'::outs))(ho:outs.length=cs.length):B3 cf f (.slot i::hs) ρ= .ok c (ρ.set i (some o')):=by
 have hl:∀{hs:List Hd} {cs:List C},(∀c∈cs,c.cp=true)->Cp hs cs=[]:=by
  intro hs
  induction hs with
  |nil=>intro cs _;rfl
  | cons h hs ih=>
    intro cs hc;cases cs with
    |nil=>rfl
    | cons c cs=>
      rw[BN,hc c mS,ih λc hc'=>hc c (mC hc')];rfl
 have hg:∀{hs:List Hd} {cs:List C},(∀c∈cs,c.cp=true)->A8 hs cs=true:=by
  intro hs cs hc;unfold A8;rw[all_eq_true];intro q hq;rw[hc q.2 (of_mem_zip hq).2];rfl
 have hb:∀{hs:List Hd} {cs:List C} {outs:List (Option C)} {ρ' ρ0:Env},AB ρ0 hs=some cs->(∀c∈cs,c.cp=true)->outs.length=cs.length->back ρ' hs cs outs=some ρ':=by
  intro hs
  induction hs with
  |nil=>intro cs outs ρ' ρ0 ec _ _;cases ec;unfold back;rfl
  | cons h hs ih=>
    intro cs outs ρ' ρ0 ec hc ho;unfold AB at ec;obtain⟨c,e1,e2⟩:=oB ec;obtain⟨ds,e3,rfl⟩:=oM e2;cases outs with
    |nil=>cases ho
    | cons o outs=>
      have h1:=hc c mS;have r:=ih (ρ':=ρ') e3 (λc hc'=>hc c (mC hc')) (by simpa using ho);cases h with
      |BG d=>unfold back;exact r
      |slot i=>unfold back;rw[h1];exact r
      |fld i f=>unfold back;rw[h1];exact r
 unfold B3
 have ec2:AB ρ (.slot i::hs)=some (o::cs):=by
  show((A9 ρ i).bind λc=>(AB ρ hs).map (c::·))=_;rw[h1,ec];rfl
 have hl2:Cp (.slot i::hs) (o::cs)=[i]:=by rw[BN,k1,hl hc];rfl
 have hg2:A8 (.slot i::hs) (o::cs)=true:=by
  have:=hg (hs:=hs) hc;unfold A8 at this ⊢;rw[zip_cons_cons,all_cons,this];simp
 rw[ec2];dsimp only;rw[hl2,hg2,iP ⟨by simp,rfl⟩,e];have hle:lend ρ (.slot i::hs) (o::cs)=ρ.set i none:=by unfold lend;rw[hl2];rfl
 rw[hle];dsimp only
 have hb2:back (ρ.set i none) (.slot i::hs) (o::cs) (some o'::outs)=some (ρ.set i (some o')):=by
  unfold back;rw[k1];show back ((ρ.set i none).set i (some o')) hs cs outs=_;rw[hb ec hc ho,set_set]
 rw[hb2];rfl
structure UF(U:List P)(A:List (P×P))(L:P->P)(rk:P->Nat):Prop where
 val:∀F G,Af A F=some G->L G=L F/\rk G < rk F/\F∈U/\G∈U
 root:∀F,Af A F=none->L F=F
def free(A:List (P×P))(U:List P):Nat:=U.countP λF=>(Af A F).isNone
structure Gr(U:List P)(A:List (P×P))(L:P->P):Prop where
 uf:∃rk,UF U A L rk
 size:A.length + free A U<=U.length
variable{L:P->P}{rk:P->Nat}
theorem UF.chain(h:UF U A L rk)(hU:∀F∈U,keyOk F=true):∀(n:Nat) (F:P),rk F=n->F∈U->∃l,Ch A F l (L F)/\l.Nodup/\(∀x∈l,L x=L F/\x∈U/\rk (L F) < rk x/\rk x<=rk F/\(Af A x).isSome=true)/\rk (L F)<=rk F/\L F∈U:=by
 intro n
 induction n using Nat.strongRecOn with
 | ind n ih=>
   intro F hF hm;cases e:Af A F with
   | none=>
     refine⟨[],?_,nodup_nil,λx hx=>(by cases hx),?_,?_⟩
     . rw[h.root F e];exact .nil e (hU F hm)
     . rw[h.root F e];exact lR
     . rw[h.root F e];exact hm
   | some G=>
     obtain⟨a,b,c,d⟩:=h.val F G e;obtain⟨l,q1,q2,q3,q4,q5⟩:=ih (rk G) (by lia) G rfl d;rw[a]at q1 q4 q5;refine⟨F::l,.cons e (hU F hm) q1,nodup_cons.mpr ⟨λz=>?_,q2⟩,λx hx=>?_,by lia,q5⟩
     . have:=(q3 F z).2.2.2.1;lia
     . rcases mK hx with z|z
       . rw[z];exact⟨rfl,hm,by lia,lR,by rw[e];rfl⟩
       . obtain⟨z1,z2,z3,z4,z5⟩:=q3 x z;rw[a]at z1 z3;exact⟨z1,z2,z3,by lia,z5⟩
theorem UF.top(h:UF U A L rk):∀(n:Nat) (F:P),rk F=n->L (L F)=L F/\Af A (L F)=none:=by
 intro n
 induction n using Nat.strongRecOn with
 | ind n ih=>
   intro F hF;cases e:Af A F with
   |none=>rw[h.root F e,h.root F e];exact⟨rfl,e⟩
   | some G=>
     obtain⟨a,b,c,d⟩:=h.val F G e;have:=ih (rk G) (by lia) G rfl;rw[a]at this;exact this
theorem Dd{u:P}(h:Af l k=some u)(F:P):(Af (dput l k v) F).isNone=(Af l F).isNone:=by
 rw[Am]
 by_cases e:F=k
 . rw[iP e,e,h];rfl
 . rw[iN e]
theorem UF.compress:∀(l:List P) {A:List (P×P)},UF U A L rk->L q=q->q∈U->(∀x∈l,L x=q/\x∈U/\rk q < rk x/\(Af A x).isSome=true)->UF U (compress A l q) L rk/\(Iv.compress A l q).length=A.length/\∀F,(Af (Iv.compress A l q) F).isNone=(Af A F).isNone
 |[],A,h,_,_,_=>⟨h,rfl,λ_=>rfl⟩
 | p :: l,A,h,hq,hqU,hx=>by
   obtain⟨h1,h2,h3,h4⟩:=hx p mS;obtain⟨u,hu⟩:=Option.isSome_iff_exists.mp h4;have hk:=Dd (v:=q) hu
   have h':UF U (dput A p q) L rk:=by
    refine⟨λF G e=>?_,λF e=>?_⟩
    . rw[Am]at e
      by_cases z:F=p
      . rw[iP z]at e;cases e;rw[z,hq,h1];exact⟨rfl,h3,h2,hqU⟩
      . rw[iN z]at e;exact h.val F G e
    . rw[Am]at e
      by_cases z:F=p
      . rw[iP z]at e;cases e
      . rw[iN z]at e;exact h.root F e
   obtain⟨r1,r2,r3⟩:=UF.compress l h' hq hqU λx hm=>by
    obtain⟨a,b,c,d⟩:=hx x (mC hm);refine⟨a,b,c,?_⟩;have:=hk x;cases e:Af (dput A p q) x with
    |none=>rw[e]at this;obtain⟨w,hw⟩:=Option.isSome_iff_exists.mp d;rw[hw]at this;cases this
    |some w=>rfl
   exact⟨r1,by show(Iv.compress (dput A p q) l q).length=_;rw[r2,DC hu],λF=>by show(Af (Iv.compress (dput A p q) l q) F).isNone=_;rw[r3,hk]⟩
variable{q:P->Bool}
theorem count_le{p:P->Bool}(h:∀F,q F=true->p F=true):∀U:List P,U.countP q<=U.countP p
 |[]=>lR
 | F::U=>by
   rw[countP_cons,countP_cons];have:=count_le h U
   by_cases hq:q F=true
   . rw[iP hq,iP (h F hq)];lia
   . rw[iN hq];lia
theorem L8{p:P->Bool}(h:∀F,q F=true->p F=true)(hp:p G=true)(hq:q G=false):∀{U:List P},G∈U->U.countP q + 1<=U.countP p
 | F ::U,hm=>by
   rw[countP_cons,countP_cons];rcases mK hm with e|hm
   . subst e;have:=count_le h U;rw[iP hp,iN (by rw[hq];exact Bool.false_ne_true)]
     lia
   . have:=L8 h hp hq hm
     by_cases hq':q F=true
     . rw[iP hq',iP (h F hq')];lia
     . rw[iN hq'];lia
theorem Ho{U:List P}(hF:Af A F=none)(hU:F∈U):free (dput A F v) U + 1<=free A U:=by
 refine L8 (λG hG=>?_) (G:=F) (by rw[hF];rfl) (by rw[Am,iP rfl];rfl) hU;rw[Am]at hG
 by_cases e:G=F
 . rw[iP e]at hG;cases hG
 . rwa[iN e]at hG
def E6(L:P->P)(X Y:P)(F:P):P:=if L F=X then Y else L F
theorem Gr.top(h:Gr U A L)(F:P):L (L F)=L F/\Af A (L F)=none:=by
 obtain⟨rk,h⟩:=h.uf;exact h.top _ F rfl
theorem Gr.join(h:Gr U A L)(hX:L X=X)(hY:L Y=Y)(hne:X≠Y)(hXU:X∈U)(hYU:Y∈U):Gr U (dput A X Y) (E6 L X Y)/\free (dput A X Y) U + 1<=free A U:=by
 have hn:Af A X=none:=by have:=(h.top X).2;rwa[hX]at this
 have hf:=Ho (v:=Y) hn hXU;refine⟨⟨?_,?_⟩,hf⟩
 . obtain⟨rk,h⟩:=h.uf;refine⟨λF=>if L F=X then rk F + rk Y + 1 else rk F,λF G e=>?_,λF e=>?_⟩
   . rw[Am]at e
     by_cases z:F=X
     . rw[iP z]at e;cases e;subst z;unfold E6;rw[hX,hY,iP rfl,iN (Ne.symm hne),iP rfl,iN (Ne.symm hne)];exact⟨rfl,by lia,hXU,hYU⟩
     . rw[iN z]at e;obtain⟨a,b,c,d⟩:=h.val F G e;unfold E6;rw[a];refine⟨rfl,?_,c,d⟩;split<;>lia
   . rw[Am]at e
     by_cases z:F=X
     . rw[iP z]at e;cases e
     . rw[iN z]at e;unfold E6;rw[h.root F e,iN z]
 . have h1:=Cr A X Y;have:=h.size
   lia
theorem Gr.nil(U:List P):Gr U [] λF=>F:=
 ⟨⟨λ_=>0,λF G e=>(by cases e),λF _=>rfl⟩,by
   have:free [] U<=U.length:=countP_le_length;show 0 + _<=_
   lia⟩
end Iv
namespace Lk05
open Iv PySem
theorem Ik{k:Nat}{U:List Iv.P}{L:Iv.P->Iv.P}{F:Iv.P}(h:Gr U A L)(hU:∀F∈U,keyOk F=true)(hl:U.length < big)(hF:F∈U):
 ∃A',Gr U A' L/\free A' U=free A U/\L F∈U/\A0 fns mt A6 (k + 1) 18 [Ar A,.p F]= .ok (.p (L F)) [some (Ar A'),none]:=by
 obtain⟨rk,hu⟩:=h.uf;obtain⟨l,q1,q2,q3,q4,q5⟩:=hu.chain hU _ F rfl hF;have ht:=hu.top _ F rfl;obtain⟨r1,r2,r3⟩:=UF.compress l hu ht.1 q5 λx hx=>let⟨a,b,c,d,e⟩:=q3 x hx;⟨a,b,c,e⟩
 have hfr:free (compress A l (L F)) U=free A U:=by unfold free;congr 1;exact funext r3
 refine⟨compress A l (L F),⟨⟨rk,r1⟩,by rw[r2,hfr];exact h.size⟩,hfr,q5,Jp q1 q2 (by have:=h.size;lia)⟩
theorem YN:fns[17]? =some ⟨1,1,[S.LA 0 BF (T.AJ [] [])]⟩:=by kernel_rfl
theorem N6{k:Nat}:A0 fns mt A6 (k + 1) 17 [.obj 2 []]= .ok (.p .AG) [some (Ar [])]:=by
 have e0:ev (A0 fns mt A6 k) mt (.AJ [] []) [some (.obj 2 [])]= .ok (.AJ []) [some (.obj 2 [])]:=by
  show(den _ _ (.AJ [] [])).v _=_;unfold den;rfl
 have hm:mt.f 2 BF=true:=by kernel_rfl
 have e2:execs (A0 fns mt A6 k) mt A6 [S.LA 0 BF (T.AJ [] [])] [some (.obj 2 [])]= .ok .nx [some (Ar [])]:=by
  simp! [Nb,e0,MG,Br,Ar,hm]
 rw[Nx YN rfl e2];rfl
noncomputable def GU:List S:=[S.ifs (T.prim (O.Js (Ty.int)) [T.var 1]) [S.ret (some (T.lst []))] [],
 S.ret (some (T.comp (Tg.nm 1) (IK.op) [T.prim (O.Gj true false) [T.var 1,T.cst (P.int 1)]] [] (T.Bs "leader_of" (T.var 2) [T.var 1]) [none,none,some 0]))]
theorem Xr:fns[19]? =some ⟨2,2,GU⟩:=by kernel_rfl
noncomputable def M4:List S:=[S.ifs
 (T.and (T.prim (O.Js (Ty.int)) [T.var 1]) (T.or (T.prim (O.Js (Ty.tuple)) [T.var 2]) (T.prim (O.lt) [T.var 2,T.var 1])))
 [S.Dx (T.fld 0 BF) (T.var 1) (T.var 2)]
 [S.Dx (T.fld 0 BF) (T.var 2) (T.var 1)]]
theorem YL:fns[21]? =some ⟨3,3,M4⟩:=by kernel_rfl
end Lk05
namespace Iv
open PySem L2
abbrev Sub:=List (P×P)
def OK(θ:Sub)(L:P->P):Prop:=∀F,Ae θ (L F)=Ae θ F
def Fits(θ:Sub)(ps:List (P×P)):Prop:=∀pr∈ps,Ae θ pr.1=Ae θ pr.2
variable{L:P->P}{Y:P}
theorem OS(h:OK θ L)(hx:Ae θ X=Ae θ Y):OK θ (E6 L X Y):=λF=>by
 unfold E6
 by_cases e:L F=X
 . rw[iP e,<-hx,<-e];exact h F
 . rw[iN e];exact h F
theorem Kn{x y:P}{k k':List P}(h:Ae θ (.tup (x::k))=Ae θ (.tup (y::k'))):x=y/\k.length=k'.length/\Fits θ (k.zip k'):=by
 rw[AM,AM]at h;injection h with h
 injection h with h1 h2
 rw[AL,AL]at h2;have hl:k.length=k'.length:=by have:=congrArg List.length h2;simpa using this
 refine⟨h1,hl,λpr hp=>?_⟩;clear h1
 induction k generalizing k' with
 |nil=>simp at hp
 | cons a k ih=>
   cases k' with
   |nil=>cases hl
   | cons b k'=>
     rw[map_cons,map_cons]at h2;injection h2 with h3 h4
     rw[zip_cons_cons]at hp;rcases mK hp with z|z
     . rw[z];exact h3
     . exact ih h4 (by simpa using hl) z
def Zn(L:P->P)(ps:List (P×P)):Prop:=∀R:P->P->Prop,Equivalence R->(∀F,R F (L F))->(∀pr∈ps,R pr.1 pr.2)->∀m r,∃r',L (.tup (.str m::r))= .tup (.str m::r')/\Paired R r r'
theorem Ga{R:P->P->Prop}(h:Equivalence R):∀l:List P,Paired R l l
 |[]=>.nil
 |x::l=>.cons (h.refl x) (Ga h l)
theorem Fj{R:P->P->Prop}(h:Equivalence R):∀{a b c:List P},Paired R a b->Paired R b c->Paired R a c
 |_,_,_,.nil,.nil=>.nil
 |_,_,_,.cons r t,.cons r' t'=>.cons (h.trans r r') (Fj h t t')
theorem GV{R:P->P->Prop}:∀{a b:List P},a.length=b.length->(∀pr∈a.zip b,R pr.1 pr.2)->Paired R a b
 |[],[],_,_=>.nil
 |[],_::_,h,_=>by cases h
 |_::_,[],h,_=>by cases h
 |x::a,y::b,h,k=>.cons (k (x,y) (by simp)) (GV (by simpa using h) λpr hp=>k pr (by simp[hp]))
theorem U8(ps:List (P×P)):Zn (λF=>F) ps:=λR hR _ _ m k=>⟨k,rfl,Ga hR _⟩
def bD(prs:List (P×P))(L:P->P)(ps:List (P×P)):Prop:=∀R:P->P->Prop,Equivalence R->(∀F,R F (L F))->(∀pr∈ps,R pr.1 pr.2)->∀pr∈prs,R pr.1 pr.2
structure Todo(U:List P)(prs:List (P×P))(A:List (P×P))(L:P->P)(wl:List (P×P)):Prop where
 gr:Gr U A L
 JL:Zn L wl
 hold:bD prs L wl
 Uz:∀θ,Fits θ prs->OK θ L/\Fits θ wl
 Gz:∀pr∈wl,pr.1∈U/\pr.2∈U
theorem Po{R:P->P->Prop}(hR:Equivalence R)(hX:L X=X)(hL:∀F,R F (E6 L X Y F)):R X Y/\∀F,R F (L F):=by
 have hXY:R X Y:=by
  have:=hL X;unfold E6 at this;rwa[iP hX]at this
 refine⟨hXY,λF=>?_⟩;have:=hL F;unfold E6 at this
 by_cases e:L F=X
 . rw[iP e]at this;rw[e];exact hR.trans this (hR.symm hXY)
 . rwa[iN e]at this
theorem Eh{a b:List (P×P)}:Fits θ (a++b)↔(Fits θ a/\Fits θ b):=by
 constructor
 . intro h;exact⟨λpr hp=>h pr (mL hp),λpr hp=>h pr (mR hp)⟩
 . rintro⟨h1,h2⟩ pr hp
   rcases mem_append.mp hp with z|z
   . exact h1 pr z
   . exact h2 pr z
theorem Hq{a b:P}:Fits θ [(a,b)]↔Ae θ a=Ae θ b:=by
 constructor
 . intro h;exact h (a,b) (by simp)
 . intro h pr hp;rw[mE hp];exact h
theorem Todo.start(U:List P)(prs:List (P×P))(h:∀pr∈prs,pr.1∈U/\pr.2∈U):Todo U prs [] (λF=>F) prs:=
 ⟨Gr.nil U,U8 prs,λR _ _ hp=>hp,λθ hf=>⟨λ_=>rfl,hf⟩,h⟩
variable{prs wl:List (P×P)}
theorem Todo.same(t:Todo U prs A L wl)(h:Gr U A' L):Todo U prs A' L wl:=⟨h,t.JL,t.hold,t.Uz,t.Gz⟩
theorem Todo.skip{a b:P}(t:Todo U prs A L (wl++[(a,b)]))(e:L a=L b):Todo U prs A L wl where
 gr:=t.gr
 JL:=λR hR hL hp=>t.JL R hR hL λpr hm=>by
  rcases mem_append.mp hm with z|z
  . exact hp pr z
  . rw[mE z];exact hR.trans (hL a) (by rw[e];exact hR.symm (hL b))
 hold:=λR hR hL hp=>t.hold R hR hL λpr hm=>by
  rcases mem_append.mp hm with z|z
  . exact hp pr z
  . rw[mE z];exact hR.trans (hL a) (by rw[e];exact hR.symm (hL b))
 Uz:=λθ hf=>let⟨h1,h2⟩:=t.Uz θ hf;⟨h1,(Eh.mp h2).1⟩
 Gz:=λpr hp=>t.Gz pr (mL hp)
theorem Todo.go{a b X:P}(t:Todo U prs A L (wl++[(a,b)]))(hne:L a≠L b)(hXU:X∈U)(hYU:Y∈U)(hab:(X=L a/\Y=L b)\/(X=L b/\Y=L a))(new:List (P×P))
 (hnew:∀pr∈new,pr.1∈U/\pr.2∈U)(hfit:∀θ,Ae θ X=Ae θ Y->Fits θ new)
 (hmade:∀R:P->P->Prop,Equivalence R->(∀pr∈new,R pr.1 pr.2)->∀m r,X= .tup (.str m::r)->∃r',Y= .tup (.str m::r')/\Paired R r r'):
 Todo U prs (dput A X Y) (E6 L X Y) (wl++new)/\free (dput A X Y) U + 1<=free A U:=by
 have hX:L X=X:=by
  rcases hab with⟨h,_⟩|⟨h,_⟩
  . rw[h];exact(t.gr.top a).1
  . rw[h];exact(t.gr.top b).1
 have hY:L Y=Y:=by
  rcases hab with⟨_,h⟩|⟨_,h⟩
  . rw[h];exact(t.gr.top b).1
  . rw[h];exact(t.gr.top a).1
 have hXY:X≠Y:=by
  rcases hab with⟨h1,h2⟩|⟨h1,h2⟩
  . rw[h1,h2];exact hne
  . rw[h1,h2];exact λz=>hne z.symm
 obtain⟨g1,g2⟩:=t.gr.join hX hY hXY hXU hYU
 have back:∀R:P->P->Prop,Equivalence R->(∀F,R F (E6 L X Y F))->(∀pr∈wl++new,R pr.1 pr.2)->(∀F,R F (L F))/\∀pr∈wl++[(a,b)],R pr.1 pr.2:=λR hR hL hp=>by
  obtain⟨r1,r2⟩:=Po hR hX hL;refine⟨r2,λpr hm=>?_⟩;rcases mem_append.mp hm with z|z
  . exact hp pr (mL z)
  . rw[mE z];rcases hab with⟨h1,h2⟩|⟨h1,h2⟩
    . exact hR.trans (r2 a) (hR.trans (by rw[<-h1,<-h2];exact r1) (hR.symm (r2 b)))
    . exact hR.trans (r2 a) (hR.trans (by rw[<-h1,<-h2];exact hR.symm r1) (hR.symm (r2 b)))
 refine⟨⟨g1,λR hR hL hp m r=>?_,λR hR hL hp=>?_,λθ hf=>?_,λpr hp=>?_⟩,g2⟩
 . obtain⟨r2,hp2⟩:=back R hR hL hp;obtain⟨r',e1,e2⟩:=t.JL R hR r2 hp2 m r;unfold E6
   by_cases e:L (.tup (.str m::r))=X
   . rw[iP e];rw[e1]at e;obtain⟨r3,e3,e4⟩:=hmade R hR (λpr hm=>hp pr (mR hm)) m r' e.symm;exact⟨r3,e3,Fj hR e2 e4⟩
   . rw[iN e];exact⟨r',e1,e2⟩
 . obtain⟨r2,hp2⟩:=back R hR hL hp;exact t.hold R hR r2 hp2
 . obtain⟨h1,h2⟩:=t.Uz θ hf;have h3:=Hq.mp (Eh.mp h2).2
   have h4:Ae θ X=Ae θ Y:=by
    rcases hab with⟨q1,q2⟩|⟨q1,q2⟩
    . rw[q1,q2,h1 a,h1 b];exact h3
    . rw[q1,q2,h1 a,h1 b];exact h3.symm
   exact⟨OS h1 h4,Eh.mpr ⟨(Eh.mp h2).1,hfit θ h4⟩⟩
 . rcases mem_append.mp hp with z|z
   . exact t.Gz pr (mL z)
   . exact hnew pr z
structure Done(U:List P)(prs:List (P×P))(A:List (P×P))(L:P->P):Prop where
 gr:Gr U A L
 JL:∀m r,∃r',L (.tup (.str m::r))= .tup (.str m::r')/\r.map L=r'.map L
 one:∀pr∈prs,L pr.1=L pr.2
 Uz:∀θ,Fits θ prs->OK θ L
theorem Todo.done(t:Todo U prs A L []):Done U prs A L:=by
 have hR:Equivalence λx y=>L x=L y:=⟨λ_=>rfl,λh=>h.symm,λh k=>h.trans k⟩
 have hL:∀F,L F=L (L F):=λF=>(t.gr.top F).1.symm
 refine⟨t.gr,λm r=>?_,λpr hp=>t.hold _ hR hL (λ_ z=>by cases z) pr hp,λθ hf=>(t.Uz θ hf).1⟩;obtain⟨r',e1,e2⟩:=t.JL _ hR hL (λ_ z=>by cases z) m r;refine⟨r',e1,?_⟩;clear e1
 induction e2 with
 |nil=>rfl
 |cons h _ ih=>rw[map_cons,map_cons,h,ih]
structure HP(U:List P):Prop where
 key:∀F∈U,keyOk F=true
 kd:∀F∈U,Al F=true
 cl:∀x r,P.tup (x::r)∈U->∀q∈r,q∈U
 ar:∀ps,P.tup ps∈U->ps.length<=10
 dp:∀F∈U,F.depth<=8
 len:U.length<=2000
theorem HP.lt{U:List P}(h:HP U):U.length < big:=by have:=h.len;unfold big;lia
mutual
theorem Nr:∀(a b:P),G1 a=true->G1 b=true->AQ a b=true
 | .int i,b,_,hb=>by
   cases b with
   |int _=>unfold AQ Bz;rfl
   |str _=>unfold AQ Bz;rfl
   |tup _=>unfold AQ Bz;rfl
   |_=>unfold G1 Al at hb;cases hb
 | .str i,b,_,hb=>by
   cases b with
   |int _=>unfold AQ Bz;rfl
   |str _=>unfold AQ Bz;rfl
   |tup _=>unfold AQ Bz;rfl
   |_=>unfold G1 Al at hb;cases hb
 | .AG,b,h,_=>by unfold G1 Al at h;cases h
 | .bl _,b,h,_=>by unfold G1 Al at h;cases h
 | .fn _,b,h,_=>by unfold G1 Al at h;cases h
 | .tup ps,b,h,hb=>by
   cases b with
   |int _=>unfold AQ Bz;rfl
   |str _=>unfold AQ Bz;rfl
   | tup qs=>
     unfold AQ;refine La ps qs (λq hq=>?_) (λq hq=>?_)
     . obtain⟨x,r,rfl,hr⟩:=Bj (show Al (.tup ps)=true from h);rcases mK hq with z|z
       . rw[z];rfl
       . exact Dn (Cj hr q z)
     . obtain⟨x,r,rfl,hr⟩:=Bj (show Al (.tup qs)=true from hb);rcases mK hq with z|z
       . rw[z];rfl
       . exact Dn (Cj hr q z)
   |_=>unfold G1 Al at hb;cases hb
theorem La:∀(a b:List P),(∀q∈a,G1 q=true)->(∀q∈b,G1 q=true)->BK a b=true
 |[],_,_,_=>by unfold BK;rfl
 |x::a,[],_,_=>by unfold BK;rfl
 | x::a,y::b,ha,hb=>by
   unfold BK;rw[Nr x y (ha x mS) (hb y mS),La a b (λq hq=>ha q (mC hq)) λq hq=>hb q (mC hq)];rfl
end
theorem R5{a b:P}(ha:G1 a=true)(hb:G1 b=true)(da:a.depth<=60)(db:b.depth<=60):GC a b=some (decide (a=b)):=by
 unfold GC;rw[Nr a b ha hb,decide_eq_true da,decide_eq_true db];rfl
theorem EB{cond:Env->Res Bool}{elt:Env->Res C}{F:P->P}{J:Env->Prop}:∀(xs acc:List P) (β:Env),(∀x∈xs,∀β,J β->∃β1 β',DF g x β=some β1/\cond β1= .ok true β1/\elt β1= .ok (.p (F x)) β'/\J β')->J β->∃β',J β'/\Cv g [] cond elt xs acc β= .ok (acc++xs.map F) β'
 |[],acc,β,_,h=>⟨β,h,by rw[map_nil,append_nil];rfl⟩
 | x::xs,acc,β,hs,h=>by
   obtain⟨β1,β',e1,e2,e3,h'⟩:=hs x mS β h;obtain⟨β2,q1,q2⟩:=EB xs (acc++[F x]) β' (λy hy=>hs y (mC hy)) h';refine⟨β2,q1,?_⟩;rw[Ek rfl e1 e2 e3];rw[q2,map_cons,append_assoc];rfl
theorem DV{cf:CF}{mt:MT}{j:Nat}{c:C}(hj:A9 ρ j=some c):An cf mt [.var j] ρ= .ok [.slot j] ρ:=by
 rw[BO,GB,hj];simp[Cu]
def ch(L:P->P):P->List P
 | .tup (_::r)=>r.map L
 |_=>[]
end Iv
namespace Lk05
open Iv PySem L2
variable{cf:CF}
theorem FE{f i:Nat}(ts:List T)(h:A9 ρ i=some (Ar A))(h1:List.lookup m [(BF,B.AJ A)]=none)(h2:mt.m 2 m=some f):ev cf mt (.Bs m (.var i) ts) ρ=(An cf mt ts ρ).bind λhs ρ=>B3 cf f (.slot i::hs) ρ:=by
 rw[Ng,h];unfold Ar;dsimp only;rw[h1,h2]
theorem Nh{i:Nat}(ts:List T)(h:A9 ρ i=some (Ar A)):ev cf mt (.Bs "leader_of" (.var i) ts) ρ=(An cf mt ts ρ).bind λhs ρ=>B3 cf 18 (.slot i::hs) ρ:=FE ts h rfl (by kernel_rfl)
theorem QY{i:Nat}(ts:List T)(h:A9 ρ i=some (Ar A)):ev cf mt (.Bs "parts_of" (.var i) ts) ρ=(An cf mt ts ρ).bind λhs ρ=>B3 cf 19 (.slot i::hs) ρ:=FE ts h rfl (by kernel_rfl)
theorem Hu{i:Nat}(ts:List T)(h:A9 ρ i=some (Ar A)):ev cf mt (.Bs {cps:=#[106,111,105,110,95,97,108,108]} (.var i) ts) ρ=(An cf mt ts ρ).bind λhs ρ=>B3 cf 20 (.slot i::hs) ρ:=FE ts h rfl (by kernel_rfl)
theorem KW{i:Nat}(ts:List T)(h:A9 ρ i=some (Ar A)):ev cf mt (.Bs {cps:=#[106,111,105,110,95,111,112,101,110]} (.var i) ts) ρ=(An cf mt ts ρ).bind λhs ρ=>B3 cf 21 (.slot i::hs) ρ:=FE ts h rfl (by kernel_rfl)
variable{j:Nat}{L:Iv.P->Iv.P}{F:Iv.P}
theorem Jq{k i:Nat}{ρ:Iv.Env}(h:Gr U A L)(hU:HP U)(hF:F∈U)(hi:A9 ρ i=some (Ar A))(hj:A9 ρ j=some (.p F)):
 ∃A',Gr U A' L/\free A' U=free A U/\L F∈U/\ev (A0 fns mt A6 (k + 1)) mt (.Bs "leader_of" (.var i) [.var j]) ρ= .ok (.p (L F)) (ρ.set i (some (Ar A'))):=by
 obtain⟨A',q1,q2,q3,q4⟩:=Ik (k:=k) h hU.key hU.lt hF;refine⟨A',q1,q2,q3,?_⟩;rw[Nh _ hi,DV hj,Res.A5];exact FG hi rfl (by show((A9 ρ j).bind _)=_;rw[hj];rfl) (λc hc=>by rw[mE hc];rfl) q4 rfl
theorem PZ{k:Nat}{X:Iv.P}(h:Gr U A L)(hU:HP U)(hX:X∈U):
 ∃A',Gr U A' L/\free A' U=free A U/\A0 fns mt A6 (k + 2) 19 [Ar A,.p X]= .ok (.lst (ch L X)) [some (Ar A'),sP X]:=by
 have hk:=hU.kd X hX;cases X with
 | int i=>
   refine⟨A,h,rfl,?_⟩
   have e2:execs (A0 fns mt A6 (k + 1)) mt A6 GU [some (Ar A),sP (.int i)]= .ok (.ret (.lst (ch L (.int i)))) [some (Ar A),sP (.int i)]:=by
    unfold GU ch;simp! [Aa,Cm]
   rw[Aw Xr rfl e2];rfl
 | tup ps=>
   obtain⟨x,r,rfl,hr⟩:=Bj hk;have hcl:=hU.cl _ _ hX
   let J:Iv.Env->Prop:=λβ=>∃y A',Gr U A' L/\free A' U=free A U/\β=[none,y,some (Ar A')]
   obtain⟨β',⟨y,A',j1,j2,rfl⟩,e⟩:=EB (g:=.nm 1) (cond:=Ea (A0 fns mt A6 (k + 1)) mt []) (elt:=ev (A0 fns mt A6 (k + 1)) mt (.Bs "leader_of" (.var 2) [.var 1])) (F:=L) (J:=J) r [] [none,none,some (Ar A)] (λq hq β ⟨y,A1,j1,j2,hβ⟩=>by
    subst hβ;obtain⟨A2,q1,q2,q3,q4⟩:=Jq (k:=k) (i:=2) (j:=1) (ρ:=[none,sP q,some (Ar A1)]) j1 hU (hcl q hq) rfl rfl
    exact⟨_,_,rfl,Cs _,q4,sP q,A2,q1,by lia,rfl⟩) ⟨none,A,h,rfl,rfl⟩
   refine⟨A',j1,j2,?_⟩;have hcut:cut (Iv.P.str x::r) (some 1) none=r:=Df _;have hbig:r.length<=big:=by have:=hU.ar _ hX;rw[lC]at this;unfold big;lia
   have ec:ev (A0 fns mt A6 (k + 1)) mt (T.comp (Tg.nm 1) (IK.op) [T.prim (O.Gj true false) [T.var 1,T.cst (P.int 1)]] [] (T.Bs "leader_of" (T.var 2) [T.var 1]) [none,none,some 0]) [some (Ar A),sP (.tup (.str x::r))]= .ok (.lst (r.map L)) [some (Ar A'),sP (.tup (.str x::r))]:=by
    rw[CK];rw[nil_append]at e;have hb:AD (BX [none,none,some 0] [some (Ar A),sP (.tup (.str x::r))]) [none,none,some 0] [none,y,some (Ar A')]=[some (Ar A'),sP (.tup (.str x::r))]:=rfl;simp! [IK.ok,Aa,DI,Dw,hcut,DP,Ah,EF,A8,BW,Bv,guards,hbig,Bd,e,hb,Tg.slots]
   have e2:execs (A0 fns mt A6 (k + 1)) mt A6 GU [some (Ar A),sP (.tup (.str x::r))]= .ok (.ret (.lst (ch L (.tup (.str x::r))))) [some (Ar A'),sP (.tup (.str x::r))]:=by
    unfold GU ch;simp! [Aa,Cm,ec]
   rw[Aw Xr rfl e2];rfl
 |_=>unfold Al at hk;cases hk
theorem Ks{k i:Nat}{ρ:Iv.Env}(h:Gr U A L)(hU:HP U)(hF:F∈U)(hi:A9 ρ i=some (Ar A))(hj:A9 ρ j=some (.p F)):
 ∃A',Gr U A' L/\free A' U=free A U/\ev (A0 fns mt A6 (k + 2)) mt (.Bs "parts_of" (.var i) [.var j]) ρ= .ok (.lst (ch L F)) (ρ.set i (some (Ar A'))):=by
 obtain⟨A',q1,q2,q4⟩:=PZ (k:=k) h hU hF;refine⟨A',q1,q2,?_⟩;rw[QY _ hi,DV hj,Res.A5];exact FG hi rfl (by show((A9 ρ j).bind _)=_;rw[hj];rfl) (λc hc=>by rw[mE hc];rfl) q4 rfl
noncomputable def under(X Y:Iv.P):Iv.P×Iv.P:=match X,Y with
 | .int i,.tup ps=>(.int i,.tup ps)
 | .int i,.int j=>if j < i then(.int i,.int j)else(.int j,.int i)
 |X,Y=>(Y,X)
theorem Jr{k:Nat}{A:List (Iv.P×Iv.P)}(hx:Al X=true)(hy:Al Y=true)(ho:(∃i,X= .int i)\/∃i,Y= .int i)(kx:keyOk X=true)(ky:keyOk Y=true)(hA:A.length < big):A0 fns mt A6 (k + 1) 21 [Ar A,.p X,.p Y]= .ok (.p .AG) [some (Ar (dput A (under X Y).1 (under X Y).2)),sP X,sP Y]:=by
 have e2:execs (A0 fns mt A6 k) mt A6 M4 [some (Ar A),sP X,sP Y]= .ok .nx [some (Ar (dput A (under X Y).1 (under X Y).2)),sP X,sP Y]:=by
  unfold M4;cases X with
  | int i=>
    cases Y with
    | int j=>
      unfold under
      by_cases hij:j < i
      . simp! [AV,BE,Ar,Aa,Cm,AK,KH,hij,kx,ky,BS,Dz,BH,Dy,hA,Iv.Br]
      . simp! [AV,BE,Ar,Aa,Cm,AK,KH,hij,kx,ky,BS,Dz,BH,Dy,hA,Iv.Br]
    |tup qs=>unfold under;simp! [AV,BE,Ar,Aa,Cm,AK,KH,kx,ky,BS,Dz,BH,Dy,hA,Iv.Br]
    |_=>unfold Al at hy;cases hy
  | tup ps=>
    obtain⟨j,rfl⟩:∃i,Y= .int i:=ho.resolve_left λ⟨i,z⟩=>by cases z
    unfold under;simp! [AV,BE,Ar,Aa,Cm,AK,KH,kx,ky,BS,Dz,BH,Dy,hA,Iv.Br]
  |_=>unfold Al at hx;cases hx
 rw[Nx YL rfl e2];rfl
end Lk05
namespace Iv
open PySem
def enc(q:P×P):P:=.tup [q.1,q.2]
theorem JH:∀(a b:List P),Ln a b=(a.zip b).map enc
 |[],_=>rfl
 |_::_,[]=>rfl
 | x::a,y::b=>by
   have:=JH a b;unfold Ln at this ⊢;rw[List.zipWith_cons_cons,zip_cons_cons,map_cons,this];rfl
variable{cf:CF}{mt:MT}
variable{ss:List S}
theorem Hs(e:exec cf mt A6 s ρ= .ok .nx ρ'):execs cf mt A6 (s::ss) ρ=execs cf mt A6 ss ρ':=by
 rw[Ht];dsimp only;rw[e];rfl
theorem B0{i:Nat}{ρ':Env}(e:ev cf mt t ρ= .ok c ρ'):execs cf mt A6 (.asg (.nm i) t::ss) ρ=execs cf mt A6 ss (ρ'.set i (some c)):=Hs (by rw[JD,e];rfl)
end Iv
namespace Lk05
open Iv PySem
theorem OT(X Y:Iv.P):((under X Y).1=X/\(under X Y).2=Y)\/((under X Y).1=Y/\(under X Y).2=X):=by
 unfold under;split
 . exact .inl ⟨rfl,rfl⟩
 . split
   . exact .inl ⟨rfl,rfl⟩
   . exact .inr ⟨rfl,rfl⟩
 . exact .inr ⟨rfl,rfl⟩
theorem NK(hx:Al X=true)(hy:Al Y=true)(ho:(∃i,X= .int i)\/∃i,Y= .int i):∃i,(under X Y).1= .int i:=by
 cases X with
 | int i=>
   cases Y with
   |int j=>unfold under;dsimp only;split<;>exact⟨_,rfl⟩
   |tup qs=>exact⟨i,rfl⟩
   |_=>unfold Al at hy;cases hy
 | tup ps=>
   obtain⟨j,rfl⟩:∃i,Y= .int i:=ho.resolve_left λ⟨i,z⟩=>by cases z
   exact⟨j,rfl⟩
 |_=>unfold Al at hx;cases hx
variable{L:Iv.P->Iv.P}
theorem KL{k i:Nat}{t:T}{F:Iv.P}{ρ:Iv.Env}(h:Gr U A L)(hU:HP U)(hF:F∈U)(hi:A9 ρ i=some (Ar A))(ht:An (A0 fns mt A6 (k + 1)) mt [t] ρ= .ok [.BG (.p F)] ρ):
 ∃A',Gr U A' L/\free A' U=free A U/\L F∈U/\ev (A0 fns mt A6 (k + 1)) mt (.Bs "leader_of" (.var i) [t]) ρ= .ok (.p (L F)) (ρ.set i (some (Ar A'))):=by
 obtain⟨A',q1,q2,q3,q4⟩:=Ik (k:=k) h hU.key hU.lt hF;refine⟨A',q1,q2,q3,?_⟩;rw[Nh _ hi,ht,Res.A5];exact FG hi rfl rfl (λc hc=>by rw[mE hc];rfl) q4 rfl
noncomputable def Zy:T:=T.prim (O.list IK.zip) [T.prim (O.Gj true false) [T.var 4,T.cst (P.int 1)],T.prim (O.Gj true false) [T.var 5,T.cst (P.int 1)]]
def bS:List S:=[S.Dx (T.fld 0 BF) (T.var 4) (T.var 5),S.expr (T.F4 MO.extend (T.var 2) [Zy])]
noncomputable def Zz:S:=S.ifs (T.or (T.prim (O.Js Ty.int) [T.var 4]) (T.prim (O.Js Ty.int) [T.var 5]))
 [S.expr (T.Bs {cps:=#[106,111,105,110,95,111,112,101,110]} (T.var 0) [T.var 4,T.var 5])]
 [S.ifs (T.and (T.prim O.eq [T.prim O.idx [T.var 4,T.cst (P.int 0)],T.prim O.idx [T.var 5,T.cst (P.int 0)]]) (T.prim O.eq [T.prim O.len [T.var 4],T.prim O.len [T.var 5]]))
  bS [S.ret (some (T.cst (P.bl false)))]]
def Xm:List S:=[S.ifs (T.prim O.eq [T.var 4,T.var 5]) [S.cnt] [],Zz]
noncomputable def Ts:List S:=S.asg (Tg.nm 3) (T.F4 MO.pop (T.var 2) [])::
    S.asg (Tg.nm 4) (T.Bs "leader_of" (T.var 0) [T.prim O.idx [T.var 3,T.cst (P.int 0)]])::
    S.asg (Tg.nm 5) (T.Bs "leader_of" (T.var 0) [T.prim O.idx [T.var 3,T.cst (P.int 1)]])::Xm
theorem Xq:fns[20]? =some ⟨2,6,[S.asg (Tg.nm 2) (T.prim (O.list IK.op) [T.var 1]),S.K2 (T.var 2) Ts,S.ret (some (T.cst (P.bl true)))]⟩:=by kernel_rfl
variable{prs wl:List (Iv.P×Iv.P)}{pc:C}{y3 y4 y5:Option C}
theorem Tq{k:Nat}{a b:Iv.P}(hU:HP U)(t:Todo U prs A L (wl++[(a,b)])):
 ∃A',Gr U A' L/\free A' U=free A U/\L a∈U/\L b∈U/\execs (A0 fns mt A6 (k + 1)) mt A6 Ts [some (Ar A),some pc,sL ((wl++[(a,b)]).map enc),y3,y4,y5]=execs (A0 fns mt A6 (k + 1)) mt A6 Xm [some (Ar A'),some pc,sL (wl.map enc),sP (enc (a,b)),sP (L a),sP (L b)]:=by
 obtain⟨ha,hb⟩:=t.Gz (a,b) (by simp)
 have s1:exec (A0 fns mt A6 (k + 1)) mt A6 (S.asg (Tg.nm 3) (T.F4 MO.pop (T.var 2) [])) [some (Ar A),some pc,sL ((wl++[(a,b)]).map enc),y3,y4,y5]= .ok .nx [some (Ar A),some pc,sL (wl.map enc),sP (enc (a,b)),y4,y5]:=by
  simp! [CL,Jn]
 obtain⟨A1,g1,g2,g3,e1⟩:=KL (k:=k) (i:=0) (t:=T.prim O.idx [T.var 3,T.cst (P.int 0)]) (ρ:=[some (Ar A),some pc,sL (wl.map enc),sP (enc (a,b)),y4,y5]) t.gr hU ha rfl (by unfold enc;simp! [Aa,AN,FN]);obtain⟨A2,h1,h2,h3,e2⟩:=KL (k:=k) (i:=0) (t:=T.prim O.idx [T.var 3,T.cst (P.int 1)]) (ρ:=[some (Ar A1),some pc,sL (wl.map enc),sP (enc (a,b)),sP (L a),y5]) g1 hU hb rfl (by unfold enc;simp! [Aa,AN,FN]);refine⟨A2,h1,by lia,g3,h3,?_⟩;unfold Ts;rw[Hs s1,B0 e1];exact B0 e2
theorem TH(v:Iv.Env->Res C)(ρ:Iv.Env):BV Zy v ρ=(v ρ).bind λc ρ=>.ok (.BG c) ρ:=rfl
theorem Ww{cf:CF}{mt:MT}(hz:O.ok (.list .zip)=true){r s:List Iv.P}{c0 c1 c2 c3:Option C}:ev cf mt Zy [c0,c1,c2,c3,sP (.tup (.str x::r)),sP (.tup (.str y::s))]= .ok (.lst (Ln r s)) [c0,c1,c2,c3,sP (.tup (.str x::r)),sP (.tup (.str y::s))]:=by
 have ht1:cut (Iv.P.str x::r) (some 1) none=r:=Df _;have ht2:cut (Iv.P.str y::s) (some 1) none=s:=Df _;unfold Zy;rw[Nf,iP hz];simp! [Aa,DI,Dw,ht1,ht2,Gk]
theorem Fx(h:Al p=true):(∃i,p= .int i)\/∃x r,p= .tup (.str x::r)/\CP r=true:=by
 cases p with
 |int i=>exact .inl ⟨i,rfl⟩
 |tup ps=>obtain⟨x,r,rfl,hr⟩:=Bj h;exact .inr ⟨x,r,rfl,hr⟩
 |_=>unfold Al at h;cases h
theorem To{k:Nat}(hz:O.ok (.list .zip)=true){a b:Iv.P}(hU:HP U)(t:Todo U prs A L (wl++[(a,b)]))(hl:wl.length + 10<=big):
 (∃A' L' wl' fl z3 z4 z5,Todo U prs A' L' wl'/\free A' U * 11 + wl'.length < free A U * 11 + wl.length + 1/\(fl= .nx\/fl= .cnt)/\execs (A0 fns mt A6 (k + 1)) mt A6 Ts [some (Ar A),some pc,sL ((wl++[(a,b)]).map enc),y3,y4,y5]= .ok fl [some (Ar A'),some pc,sL (wl'.map enc),z3,z4,z5])\/
 (∃A' w z3 z4 z5,(∀θ,¬Fits θ prs)/\execs (A0 fns mt A6 (k + 1)) mt A6 Ts [some (Ar A),some pc,sL ((wl++[(a,b)]).map enc),y3,y4,y5]= .ok (.ret (.p (.bl false))) [some (Ar A'),some pc,w,z3,z4,z5]):=by
 obtain⟨A1,g1,g2,ha,hb,e0⟩:=Tq (k:=k) (pc:=pc) (y3:=y3) (y4:=y4) (y5:=y5) hU t;have t1:=t.same g1;have ka:=hU.kd _ ha;have kb:=hU.kd _ hb;have heq:GC (L a) (L b)=some (decide (L a=L b)):=R5 (Dn ka) (Dn kb) (by have:=hU.dp _ ha;lia) (by have:=hU.dp _ hb;lia);have hA:A1.length < big:=by have:=g1.size;have:=hU.lt;lia
 by_cases hab:L a=L b
 . left;refine⟨A1,L,wl,.cnt,sP (enc (a,b)),sP (L a),sP (L b),t1.skip hab,by lia,.inr rfl,?_⟩;rw[e0];unfold Xm;rw[decide_eq_true hab]at heq;simp! [Aa,AK,E7,heq]
 . rw [dF hab]at heq
   by_cases ho:(∃i,L a= .int i)\/∃i,L b= .int i
   . left;have hun:=OT (L a) (L b);obtain⟨i,hi⟩:=NK ka kb ho;have hX:(under (L a) (L b)).1∈U:=by rcases hun with⟨h,_⟩|⟨h,_⟩<;>rw[h]<;>assumption
     have hY:(under (L a) (L b)).2∈U:=by rcases hun with⟨_,h⟩|⟨_,h⟩<;>rw[h]<;>assumption
     obtain⟨t2,hf⟩:=t1.go (X:=(under (L a) (L b)).1) (Y:=(under (L a) (L b)).2) hab hX hY hun [] (λ_ h=>by cases h) (λ_ _ _ h=>by cases h) (λR _ _ m r z=>by rw[hi]at z;cases z);rw[append_nil]at t2;refine⟨_,_,wl,.nx,sP (enc (a,b)),sP (L a),sP (L b),t2,by lia,.inl rfl,?_⟩;rw[e0];have ej:=Jr (k:=k) ka kb ho (hU.key _ ha) (hU.key _ hb) hA
     have ec:ev (A0 fns mt A6 (k + 1)) mt (T.Bs {cps:=#[106,111,105,110,95,111,112,101,110]} (T.var 0) [T.var 4,T.var 5]) [some (Ar A1),some pc,sL (wl.map enc),sP (enc (a,b)),sP (L a),sP (L b)]= .ok (.p .AG) [some (Ar (dput A1 (under (L a) (L b)).1 (under (L a) (L b)).2)),some pc,sL (wl.map enc),sP (enc (a,b)),sP (L a),sP (L b)]:=by
      rw[KW _ rfl];have:An (A0 fns mt A6 (k + 1)) mt [T.var 4,T.var 5] [some (Ar A1),some pc,sL (wl.map enc),sP (enc (a,b)),sP (L a),sP (L b)]= .ok [.slot 4,.slot 5] [some (Ar A1),some pc,sL (wl.map enc),sP (enc (a,b)),sP (L a),sP (L b)]:=by simp! []
      rw[this,Res.A5]
      exact FG (i:=0) (cs:=[.p (L a),.p (L b)]) rfl rfl rfl (λc hc=>by
       rcases mK hc with z|z
       . rw[z];rfl
       . rw[mE z];rfl) ej rfl
     unfold Xm Zz;rcases ho with⟨i,hi⟩|⟨i,hi⟩
     . rw[hi]at heq ec ⊢;simp! [Aa,AK,E7,heq,Cm,ec]
     . rw[hi]at heq ec ⊢;rcases Fx ka with⟨i2,hi2⟩|⟨x2,r2,hi2,_⟩
       . rw[hi2]at heq ec ⊢;simp! [Aa,AK,E7,heq,Cm,ec]
       . rw[hi2]at heq ec ⊢;simp! [Aa,AK,E7,heq,Cm,ec]
   . obtain⟨x,r,hla,_⟩:=(Fx ka).resolve_left λz=>ho (.inl z)
     obtain⟨y,s,hlb,_⟩:=(Fx kb).resolve_left λz=>ho (.inr z)
     by_cases hm:x=y/\r.length=s.length
     . left;obtain⟨rfl,hrs⟩:=hm;have cla:=hU.cl _ _ (hla▸ha);have clb:=hU.cl _ _ (hlb▸hb);have har:=hU.ar _ (hla▸ha);rw[lC]at har
       obtain⟨t2,hf⟩:=t1.go (X:=L a) (Y:=L b) hab ha hb (.inl ⟨rfl,rfl⟩) (r.zip s) (λpr hp=>⟨cla _ (of_mem_zip hp).1,clb _ (of_mem_zip hp).2⟩) (λθ hθ=>by
        rw[hla,hlb]at hθ;exact(Kn hθ).2.2) (λR hR hp m q hz=>by
        rw[hla]at hz;cases hz
        exact⟨s,hlb,GV hrs hp⟩)
       have hzl:(r.zip s).length<=9:=by rw[length_zip];lia
       refine⟨_,_,_,.nx,sP (enc (a,b)),sP (L a),sP (L b),t2,by rw[lA];lia,.inl rfl,?_⟩;rw[e0];have kka:=hU.key _ ha;have ht1:cut (Iv.P.str x::r) (some 1) none=r:=Df _;have ht2:cut (Iv.P.str x::s) (some 1) none=s:=Df _;have hex:wl.length + (Ln r s).length<=big:=by rw[JH,lM];lia
       have hl2:GC (.int ((r.length:Int) + 1)) (.int ((s.length:Int) + 1))=some true:=by rw[eq_int,hrs];simp
       have hs2:GC (.str x) (.str x)=some true:=by rw[eq_str];simp
       rw[map_append,<-JH];unfold Xm Zz bS;rw[hla,hlb]at heq ⊢;rw[hla]at kka;simp! [Aa,AK,E7,heq,Cm,AN,FN,DJ,hl2,hs2,AV,BE,Ar,BS,Dz,BH,Dy,hA,Iv.Br,kka,TH,Ww hz,CL,Fs,hex]
     . right;refine⟨A1,sL (wl.map enc),sP (enc (a,b)),sP (L a),sP (L b),λθ hθ=>?_,?_⟩
       . obtain⟨u1,u2⟩:=t1.Uz θ hθ;have h3:=Hq.mp (Eh.mp u2).2;rw[<-u1 a,<-u1 b,hla,hlb]at h3;obtain⟨q1,q2,_⟩:=Kn h3;cases q1;exact hm ⟨rfl,q2⟩
       . rw[e0];have hs2:GC (.str x) (.str y)=some (decide (x=y)):=eq_str x y
         have hl2:GC (.int ((r.length:Int) + 1)) (.int ((s.length:Int) + 1))=some (decide (r.length=s.length)):=by
          rw[eq_int]
          congr 1
          by_cases h:r.length=s.length
          . rw[h];simp
          . rw[dF h,dF (by lia)]
         unfold Xm Zz;rw[hla,hlb]at heq ⊢
         by_cases hx:x=y
         . have hr:¬r.length=s.length:=λz=>hm ⟨hx,z⟩
           rw[decide_eq_true hx]at hs2;rw[dF hr]at hl2;simp! [Aa,AK,E7,heq,Cm,AN,FN,DJ,hl2,hs2]
         . rw[dF hx]at hs2;simp! [Aa,AK,E7,heq,Cm,AN,FN,DJ,hs2]
theorem Tp{k:Nat}(hz:O.ok (.list .zip)=true)(hU:HP U):∀(n:Nat) (A wl:List (Iv.P×Iv.P)) (L:Iv.P->Iv.P) (y3 y4 y5:Option C),Todo U prs A L wl->free A U * 11 + wl.length<=n->n + 10<=big->
 (∃A' L' z3 z4 z5,Done U prs A' L'/\A6 (tv (A0 fns mt A6 (k + 1)) mt (.var 2)) (execs (A0 fns mt A6 (k + 1)) mt A6 Ts) [some (Ar A),some pc,sL (wl.map enc),y3,y4,y5]= .ok .nx [some (Ar A'),some pc,sL [],z3,z4,z5])\/
 (∃A' w z3 z4 z5,(∀θ,¬Fits θ prs)/\A6 (tv (A0 fns mt A6 (k + 1)) mt (.var 2)) (execs (A0 fns mt A6 (k + 1)) mt A6 Ts) [some (Ar A),some pc,sL (wl.map enc),y3,y4,y5]= .ok (.ret (.p (.bl false))) [some (Ar A'),some pc,w,z3,z4,z5]):=by
 intro n
 induction n using Nat.strongRecOn with
 | ind n ih=>
   intro A wl L y3 y4 y5 t hn hb;rcases List.eq_nil_or_concat wl with rfl|⟨wl,pr,rfl⟩
   . left;refine⟨A,L,y3,y4,y5,t.done,?_⟩;rw[Bg,map_nil];simp! []
   . obtain⟨a,b⟩:=pr;rw[List.concat_eq_append]at t hn ⊢;rw[lA,lS]at hn
     have hc:tv (A0 fns mt A6 (k + 1)) mt (.var 2) [some (Ar A),some pc,sL ((wl++[(a,b)]).map enc),y3,y4,y5]= .ok true [some (Ar A),some pc,sL ((wl++[(a,b)]).map enc),y3,y4,y5]:=by
      simp! []
     rcases To (k:=k) (pc:=pc) (y3:=y3) (y4:=y4) (y5:=y5) hz hU t (by lia)with⟨A',L',wl',fl,z3,z4,z5,t',hm,hfl,e⟩|⟨A',w,z3,z4,z5,hθ,e⟩
     . have:=ih (free A' U * 11 + wl'.length) (by lia) A' wl' L' z3 z4 z5 t' (lR) (by lia);rw[Bg,hc,Res.A5,iP rfl,e,Res.A5];rcases hfl with rfl|rfl
       . exact this
       . exact this
     . right;refine⟨A',w,z3,z4,z5,hθ,?_⟩;rw[Bg,hc,Res.A5,iP rfl,e,Res.A5]
theorem Gf{k:Nat}(hz:O.ok (.list .zip)=true)(hU:HP U)(hp:∀pr∈prs,pr.1∈U/\pr.2∈U)(hl:prs.length<=1000):
 (∃A L,Done U prs A L/\A0 fns mt A6 (k + 2) 20 [Ar [],.lst (prs.map enc)]= .ok (.p (.bl true)) [some (Ar A),sL (prs.map enc)])\/
 (∃A,(∀θ,¬Fits θ prs)/\A0 fns mt A6 (k + 2) 20 [Ar [],.lst (prs.map enc)]= .ok (.p (.bl false)) [some (Ar A),sL (prs.map enc)]):=by
 have hfr:free [] U<=U.length:=countP_le_length;have hlen:=hU.len;rcases Tp (k:=k) (pc:=.lst (prs.map enc)) hz hU (free [] U * 11 + prs.length) [] prs (λF=>F) none none none (Todo.start U prs hp) (lR) (by unfold big;lia)with⟨A',L',z3,z4,z5,hd,e⟩|⟨A',w,z3,z4,z5,hθ,e⟩
 . left;refine⟨A',L',hd,?_⟩
   have e2:execs (A0 fns mt A6 (k + 1)) mt A6 [S.asg (Tg.nm 2) (T.prim (O.list IK.op) [T.var 1]),S.K2 (T.var 2) Ts,S.ret (some (T.cst (P.bl true)))] [some (Ar []),sL (prs.map enc),none,none,none,none]= .ok (.ret (.p (.bl true))) [some (Ar A'),sL (prs.map enc),sL [],z3,z4,z5]:=by
    simp! [EY,Aa,NQ,e]
   rw[Aw Xq rfl e2];rfl
 . right;refine⟨A',hθ,?_⟩
   have e2:execs (A0 fns mt A6 (k + 1)) mt A6 [S.asg (Tg.nm 2) (T.prim (O.list IK.op) [T.var 1]),S.K2 (T.var 2) Ts,S.ret (some (T.cst (P.bl true)))] [some (Ar []),sL (prs.map enc),none,none,none,none]= .ok (.ret (.p (.bl false))) [some (Ar A'),sL (prs.map enc),w,z3,z4,z5]:=by
    simp! [EY,Aa,NQ,e]
   rw[Aw Xq rfl e2];rfl
end Lk05
namespace Iv
open PySem L2
def Dl:List (P×List P)->List P->List P
 |[],p0=>p0
 |(Q0,pend)::r,p0=>pend++Q0::Dl r p0
inductive Bl(L:P->P)(D:List (P×P)):List (P×List P)->Option P->Prop
 |nil {up:Option P}:Bl L D [] up
 |cons {Q0:P} {pend:List P} {r:List (P×List P)} {up:Option P}:(∀e∈pend,e∈ch L Q0)->(∀e∈pend,e≠Q0/\e∉r.map (·.1))->(∀c∈ch L Q0,Af D c=some (.bl true)\/c∈pend\/up=some c)->
  (∀u,up=some u->u∈ch L Q0)->Bl L D r (some Q0)->Bl L D ((Q0,pend)::r) up
variable{L:P->P}
theorem Bl.mono(h:∀F,Af D F=some (.bl true)->Af D' F=some (.bl true)){bl:List (P×List P)}{up:Option P}(b:Bl L D bl up):Bl L D' bl up:=by
 induction b with
 |nil=>exact .nil
 |cons a1 a2 a3 a4 _ ih=>exact .cons a1 a2 (λc hc=>(a3 c hc).imp (h c) id) a4 ih
variable{Q0:P}{pend:List P}
theorem Bl.pop{e:P}{r:List (P×List P)}(b:Bl L D ((Q0,e::pend)::r) none)(he:Af D e=some (.bl true)):Bl L D ((Q0,pend)::r) none:=by
 cases b with
 | cons a1 a2 a3 a4 a5=>
   refine .cons (λx hx=>a1 x (mC hx)) (λx hx=>a2 x (mC hx)) (λc hc=>?_) a4 a5;rcases a3 c hc with z|z|z
   . exact .inl z
   . rcases mK z with z|z
     . rw[z];exact .inl he
     . exact .inr (.inl z)
   . exact .inr (.inr z)
theorem Bl.under{e:P}{r:List (P×List P)}(b:Bl L D ((Q0,e::pend)::r) none):Bl L D ((Q0,pend)::r) (some e):=by
 cases b with
 | cons a1 a2 a3 a4 a5=>
   refine .cons (λx hx=>a1 x (mC hx)) (λx hx=>a2 x (mC hx)) (λc hc=>?_) (λu hu=>?_) a5
   . rcases a3 c hc with z|z|z
     . exact .inl z
     . rcases mK z with z|z
       . rw[z];exact .inr (.inr rfl)
       . exact .inr (.inl z)
     . cases z
   . cases hu;exact a1 e mS
theorem Bl.up(b:Bl L D r (some Q0))(h:∀F,Af D F=some (.bl true)->Af D' F=some (.bl true))(hP:Af D' Q0=some (.bl true)):Bl L D' r none:=by
 cases b with
 |nil=>exact .nil
 | cons a1 a2 a3 a4 a5=>
   refine .cons a1 a2 (λc hc=>?_) (λu hu=>by cases hu) (a5.mono h);rcases a3 c hc with z|z|z
   . exact .inl (h c z)
   . exact .inr (.inl z)
   . cases z;exact .inl hP
theorem BM:∀{l:List P} {p:P},p∈l->(pre p).length<=(AO l).length
 | q::l,p,h=>by
   rw[Ag,lA];rcases mK h with e|h
   . subst e;lia
   . have:=BM h;lia
def sz(θ:Sub)(X:P):Nat:=(pre (Ae θ X)).length
theorem Nv(hu:OK θ L){X c:P}(h:c∈ch L X):sz θ c < sz θ X:=by
 cases X with
 | tup ps=>
   cases ps with
   |nil=>cases h
   | cons x r=>
     obtain⟨p,hp,e⟩:=mem_map.mp (show c∈r.map L from h);unfold sz;rw[<-e,hu p,AM,As,AL,lC];have:=BM (mem_map_of_mem (f:=Ae θ) hp);show _ < (AO (r.map (Ae θ))).length + 1
     lia
 |_=>cases h
theorem Bl.bK(hu:OK θ L):∀{bl:List (P×List P)} {u:P},Bl L D bl (some u)->∀Q0∈bl.map (·.1),sz θ u < sz θ Q0
 |[],_,_=>λQ0 hP=>by cases hP
 | (Q,pend)::r,u,.cons a1 a2 a3 a4 a5=>λQ0 hP=>by
   have h1:=Nv hu (a4 u rfl);rcases mK hP with e|hP
   . rw[e];exact h1
   . have:=Bl.bK hu a5 Q0 hP
     lia
structure OL(L:P->P)(D:List (P×P))(ord:List P)(bl:List (P×List P))(p0:List P)(U roots:List P):Prop where
 gone:∀F,Af D F=some (.bl false)↔F∈bl.map (·.1)
 tr:∀F,Af D F=some (.bl true)↔F∈ord
 val:∀F v,Af D F=some v->v= .bl true\/v= .bl false
 br:Bl L D bl none
 nd:(bl.map (·.1)).Nodup
 Kt:∀(i:Nat) (X:P),ord[i]? =some X->∀c∈ch L X,c∈ord.take i
 Ku:ord.Nodup
 Gz:(∀F∈Dl bl p0,F∈U)/\∀F∈ord,F∈U
 Se:∀F∈roots,F∈ord\/F∈Dl bl p0
 size:D.length + free D U<=U.length
variable{ord:List P}
theorem JI{bl:List (P×List P)}{roots:List P}{X:P}{st:List P}(h:OL L D ord bl p0 U roots)(e:Dl bl p0=X::st)(ht:Af D X=some (.bl true)):∃bl' p0',Dl bl' p0'=st/\OL L D ord bl' p0' U roots:=by
 cases bl with
 | nil=>
   have e:p0=X::st:=e;subst e;refine⟨[],st,rfl,h.gone,h.tr,h.val,.nil,h.nd,h.Kt,h.Ku,⟨λF hF=>h.Gz.1 F (mC hF),h.Gz.2⟩,λF hF=>?_,h.size⟩;rcases h.Se F hF with z|z
   . exact .inl z
   . rcases mK z with z|z
     . rw[z];exact .inl ((h.tr X).mp ht)
     . exact .inr z
 | cons b r=>
   obtain⟨Q0,pend⟩:=b;cases pend with
   | nil=>
     have e:Q0::Dl r p0=X::st:=e;cases e;have:=(h.gone X).mpr mS;rw[ht]at this;cases this
   | cons y pend=>
     have e:y::(pend++Q0::Dl r p0)=X::st:=e;cases e;refine⟨(Q0,pend)::r,p0,rfl,h.gone,h.tr,h.val,h.br.pop ht,h.nd,h.Kt,h.Ku,⟨λF hF=>h.Gz.1 F (mC hF),h.Gz.2⟩,λF hF=>?_,h.size⟩;rcases h.Se F hF with z|z
     . exact .inl z
     . rcases mK (show F∈X::(pend++Q0::Dl r p0)from z)with z|z
       . rw[z];exact .inl ((h.tr X).mp ht)
       . exact .inr z
theorem Mh{bl:List (P×List P)}{roots:List P}{X:P}{st:List P}(h:OL L D ord bl p0 U roots)(e:Dl bl p0=X::st)(hf:Af D X=some (.bl false)):
 ∃bl' p0',Dl bl' p0'=st/\OL L (dput D X (.bl true)) (ord++[X]) bl' p0' U roots:=by
 have hXb:=(h.gone X).mp hf;cases bl with
 |nil=>cases hXb
 | cons b r=>
   obtain⟨Q0,pend⟩:=b;have hb:=h.br;cases hb with
   | cons a1 a2 a3 a4 a5=>
     cases pend with
     | cons z pend=>
       have e:z::(pend++Q0::Dl r p0)=X::st:=e;cases e;have:=a2 X mS;rcases mK hXb with q|q
       . exact absurd q this.1
       . exact absurd q this.2
     | nil =>
       have e:Q0::Dl r p0=X::st:=e;cases e;have lk:∀F,Af (dput D X (.bl true)) F=if F=X then some (.bl true)else Af D F:=λF=>Am _ _ _ _
       have hnr:X∉r.map (·.1):=(nodup_cons.mp h.nd).1
       have hXo:X∉ord:=λhm=>by
        have:=(h.tr X).mpr hm;rw[hf]at this;cases this
       refine⟨r,p0,rfl,λF=>?_,λF=>?_,λF v hv=>?_,a5.up (λF hF=>by rw[lk];split;rfl;exact hF) (by rw[lk,iP rfl]),(nodup_cons.mp h.nd).2,λi Y hi c hc=>?_,?_,⟨λF hF=>h.Gz.1 F (mC hF),λF hF=>?_⟩,λF hF=>?_,?_⟩
       . rw [lk]
         by_cases hF:F=X
         . rw[iP hF,hF];exact⟨λz=>(by cases z),λz=>absurd z hnr⟩
         . rw[iN hF,h.gone F];constructor
           . intro z;rcases mK z with z|z
             . exact absurd z hF
             . exact z
           . intro z;exact mC z
       . rw[lk]
         by_cases hF:F=X
         . rw[iP hF,hF];exact⟨λ_=>by simp,λ_=>rfl⟩
         . rw[iN hF,h.tr F];simp[hF]
       . rw[lk]at hv
         by_cases hF:F=X
         . rw[iP hF]at hv;cases hv;exact .inl rfl
         . rw[iN hF]at hv;exact h.val F v hv
       . by_cases hlt:i < ord.length
         . rw[List.getElem?_append_left hlt]at hi;have:=h.Kt i Y hi c hc;rw[List.take_append_of_le_length (by lia)];exact this
         . have hi2:i=ord.length:=by
            obtain⟨hk,_⟩:=List.getElem?_eq_some_iff.mp hi;rw[lA,lS]at hk
            lia
           subst hi2;rw[List.getElem?_append_right (lR),Nat.sub_self]at hi;have:Y=X:=(Option.some.inj hi).symm;subst this;rw[List.take_append_of_le_length (lR),take_length];rcases a3 c hc with z|z|z
           . exact(h.tr c).mp z
           . cases z
           . cases z
       . rw[nodup_append];refine⟨h.Ku,by simp,λa ha b hb=>?_⟩;rw[mE hb];intro z;exact hXo (z▸ha)
       . rcases mem_append.mp hF with z|z
         . exact h.Gz.2 F z
         . rw[mE z];exact h.Gz.1 X mS
       . rcases h.Se F hF with z|z
         . exact .inl (mL z)
         . rcases mK (show F∈X::Dl r p0 from z)with z|z
           . rw[z];exact .inl (by simp)
           . exact .inr z
       . have hk:=Dd (v:=.bl true) hf;have hfr:free (dput D X (.bl true)) U=free D U:=by unfold free;congr 1;exact funext hk
         rw[DC hf,hfr];exact h.size
theorem Nl{bl:List (P×List P)}{roots:List P}{X:P}{st:List P}(h:OL L D ord bl p0 U roots)(e:Dl bl p0=X::st)(hn:Af D X=none):
 ∃bl' p0',Dl bl' p0'=st/\Bl L D bl' (some X)/\bl'.map (·.1)=bl.map (·.1):=by
 cases bl with
 | nil=>
   have e:p0=X::st:=e;subst e;exact⟨[],st,rfl,.nil,rfl⟩
 | cons b r=>
   obtain⟨Q0,pend⟩:=b;cases pend with
   | nil=>
     have e:Q0::Dl r p0=X::st:=e;cases e;have:=(h.gone X).mpr mS;rw[hn]at this;cases this
   | cons y pend=>
     have e:y::(pend++Q0::Dl r p0)=X::st:=e;cases e;exact⟨(Q0,pend)::r,p0,rfl,h.br.under,rfl⟩
theorem Ox{bl:List (P×List P)}{roots:List P}{X c:P}{st:List P}(h:OL L D ord bl p0 U roots)(e:Dl bl p0=X::st)(hn:Af D X=none)(hc:c∈ch L X)
 (hf:Af (dput D X (.bl false)) c=some (.bl false))(θ:List (P×P)):¬OK θ L:=by
 intro hu;obtain⟨bl',p0',_,hb,hm⟩:=Nl h e hn;have h1:=Nv hu hc;rw[Am]at hf
 by_cases hcX:c=X
 . rw[hcX]at h1;lia
 . rw[iN hcX]at hf;have:=(h.gone c).mp hf;rw[<-hm]at this;have:=hb.bK hu c this
   lia
theorem Ow{bl:List (P×List P)}{roots:List P}{X:P}{st pu:List P}(h:OL L D ord bl p0 U roots)(e:Dl bl p0=X::st)(hn:Af D X=none)
 (hpu:∀c∈pu,c∈ch L X/\Af (dput D X (.bl false)) c=none)(hall:∀c∈ch L X,Af (dput D X (.bl false)) c=some (.bl true)\/c∈pu)(hchU:∀c∈ch L X,c∈U):
 ∃bl' p0',Dl bl' p0'=pu.reverse++X::st/\OL L (dput D X (.bl false)) ord bl' p0' U roots:=by
 obtain⟨bl',p0',hfl,hb,hm⟩:=Nl h e hn;have lk:∀F,Af (dput D X (.bl false)) F=if F=X then some (.bl false)else Af D F:=λF=>Am _ _ _ _
 have htr:∀F,Af D F=some (.bl true)->Af (dput D X (.bl false)) F=some (.bl true):=λF hF=>by
  rw[lk,iN (λz=>by rw[z,hn]at hF;cases hF)];exact hF
 have hXU:X∈U:=h.Gz.1 X (by rw[e];exact mS)
 have hXn:X∉bl.map (·.1):=λz=>by
  have:=(h.gone X).mpr z;rw[hn]at this;cases this
 refine⟨(X,pu.reverse)::bl',p0',by show pu.reverse++X::Dl bl' p0'=_;rw[hfl],λF=>?_,λF=>?_,λF v hv=>?_,.cons (λx hx=>(hpu x (mem_reverse.mp hx)).1) (λx hx=>?_) (λc hc=>?_) (λu hu=>by cases hu) (hb.mono htr),?_,h.Kt,h.Ku,⟨λF hF=>?_,h.Gz.2⟩,λF hF=>?_,?_⟩
 . rw[lk,map_cons,hm]
   by_cases hF:F=X
   . rw[iP hF,hF];exact⟨λ_=>mS,λ_=>rfl⟩
   . rw[iN hF,h.gone F];exact⟨λz=>mC z,λz=>(mK z).resolve_left hF⟩
 . rw[lk]
   by_cases hF:F=X
   . rw[iP hF,hF];refine⟨λz=>(by cases z),λz=>?_⟩;have:=(h.tr X).mpr z;rw[hn]at this;cases this
   . rw[iN hF];exact h.tr F
 . rw[lk]at hv
   by_cases hF:F=X
   . rw[iP hF]at hv;cases hv;exact .inr rfl
   . rw[iN hF]at hv;exact h.val F v hv
 . have hx2:=(hpu x (mem_reverse.mp hx)).2;rw[lk]at hx2
   by_cases hxX:x=X
   . rw[iP hxX]at hx2;cases hx2
   . rw[iN hxX]at hx2;refine⟨hxX,λz=>?_⟩;rw[hm]at z;have:=(h.gone x).mpr z;rw[hx2]at this;cases this
 . rcases hall c hc with z|z
   . exact .inl z
   . exact .inr (.inl (mem_reverse.mpr z))
 . rw[map_cons,hm];exact nodup_cons.mpr ⟨hXn,h.nd⟩
 . rcases mem_append.mp (show F∈pu.reverse++X::Dl bl' p0' from hF)with z|z
   . exact hchU F (hpu F (mem_reverse.mp z)).1
   . rw[hfl]at z;exact h.Gz.1 F (by rw[e];exact z)
 . rcases h.Se F hF with z|z
   . exact .inl z
   . rw[e]at z;refine .inr (mR ?_);rw[hfl];exact z
 . have h1:=Cr D X (.bl false);have h2:=Ho (v:=.bl false) hn hXU;have:=h.size
   lia
theorem Ov(L:P->P)(U roots p0:List P)(h1:∀F∈roots,F∈p0)(h2:∀F∈p0,F∈U):OL L [] [] [] p0 U roots:=
 ⟨λF=>⟨λz=>(by cases z),λz=>(by cases z)⟩,λF=>⟨λz=>(by cases z),λz=>(by cases z)⟩,λF v z=>(by cases z),.nil,nodup_nil,λi X z=>(by simp at z),nodup_nil,⟨h2,λF z=>(by cases z)⟩,λF hF=>.inr (h1 F hF),by
   show 0 + free [] U<=U.length;have:free [] U<=U.length:=countP_le_length
   lia⟩
end Iv
namespace Iv
open PySem
variable{L:P->P}
theorem Gr.Gz(h:Gr U A L)(hU:∀F∈U,keyOk F=true){F:P}(hF:F∈U):L F∈U:=by
 obtain⟨rk,hu⟩:=h.uf;obtain⟨l,_,_,_,_,q⟩:=hu.chain hU _ F rfl hF;exact q
theorem Rj(h:Gr U A L)(hU:HP U){X:P}(hX:X∈U):∀c∈ch L X,c∈U:=λc hc=>by
 cases X with
 | tup ps=>
   cases ps with
   |nil=>cases hc
   | cons x r=>
     obtain⟨p,hp,rfl⟩:=mem_map.mp (show c∈r.map L from hc);exact h.Gz hU.key (hU.cl _ _ hX p hp)
 |_=>cases hc
theorem Ri(hU:HP U){X:P}(hX:X∈U):(ch L X).length<=9:=by
 cases X with
 | tup ps=>
   cases ps with
   |nil=>exact Nat.zero_le _
   | cons x r=>
     have:=hU.ar _ hX;show(r.map L).length<=9;rw[lC]at this;rw[lM]
     lia
 |_=>exact Nat.zero_le _
structure Ord(L:P->P)(ord U roots:List P):Prop where
 ok:∀(i:Nat) (X:P),ord[i]? =some X->∀c∈ch L X,c∈ord.take i
 nd:ord.Nodup
 Gz:∀F∈ord,F∈U
 Se:∀F∈roots,F∈ord
theorem QB(l:List P)(X:P):AN (.lst (l++[X])) (.p (.int (-1)))=some (.p X):=by
 unfold AN C.nf;dsimp only
 have:FN (l++[X]).length (-1)=some l.length:=by
  unfold FN;rw[lA,lS,iN (by lia),iP (by lia)]
  congr 1
  lia
 rw[this];simp
end Iv
namespace Lk05
open Iv PySem
noncomputable def Ll:List S:=[S.ifs (T.prim O.Yy [T.var 6,T.var 3]) [S.expr (T.F4 MO.append (T.var 4) [T.var 6])]
 [S.ifs (T.not (T.prim O.idx [T.var 3,T.var 6])) [S.ret (some (T.cst P.AG))] []]]
noncomputable def YA : S:=S.ifs (T.prim O.Og [T.var 5,T.var 3])
 [S.expr (T.F4 MO.pop (T.var 4) []),
  S.ifs (T.not (T.prim O.idx [T.var 3,T.var 5]))
   [S.Dx (T.var 3) (T.var 5) (T.cst (P.bl true)),
    S.expr (T.F4 MO.append (T.var 2) [T.var 5])] [],S.cnt] []
noncomputable def Qj:List S:=[S.asg (Tg.nm 5) (T.prim O.idx [T.var 4,T.prim O.neg [T.cst (P.int 1)]]),YA,
    S.Dx (T.var 3) (T.var 5) (T.cst (P.bl false)),
    S.CW (Tg.nm 6) IK.op [T.Bs "parts_of" (T.var 0) [T.var 5]] Ll]
noncomputable def YB:T:=T.comp (Tg.nm 1) IK.op [T.var 1] [] (T.Bs "leader_of" (T.var 2) [T.var 1]) [none,none,some 0]
theorem f2:fns[2]? =some ⟨2,7,[S.asg (Tg.nm 2) (T.lst []),S.asg (Tg.nm 3) (T.AJ [] []),S.asg (Tg.nm 4) YB,S.K2 (T.var 4) Qj,S.ret (some (T.var 2))]⟩:=by kernel_rfl
variable{cf:CF}
variable{oc:C}
theorem M0{oc2:C}(hD:∀F v,Af D F=some v->v= .bl true\/v= .bl false):∀(xs w:List Iv.P) (y:Option C),(∀c∈xs,keyOk c=true)->w.length + xs.length<=big->
 (∃pu z,pu.length<=xs.length/\(∀c∈pu,c∈xs/\Af D c=none)/\(∀c∈xs,Af D c=some (.bl true)\/c∈pu)/\forL (.nm 6) [] (execs cf mt A6 Ll) xs [some g,some oc,some oc2,sD D,sL w,sP X,y]= .ok .nx [some g,some oc,some oc2,sD D,sL (w++pu),sP X,z])\/
 (∃c w' z,c∈xs/\Af D c=some (.bl false)/\forL (.nm 6) [] (execs cf mt A6 Ll) xs [some g,some oc,some oc2,sD D,sL w,sP X,y]= .ok (.ret (.p .AG)) [some g,some oc,some oc2,sD D,w',sP X,z])
 |[],w,y,_,_=>.inl ⟨[],y,lR,λc h=>(by cases h),λc h=>(by cases h),by rw[append_nil];rfl⟩
 | c ::xs,w,y,hk,hl=>by
   rw[lC]at hl;have hkc:=hk c mS;have hks:∀c∈xs,keyOk c=true:=λc h=>hk c (mC h)
   have hw:w.length < big:=by lia
   cases hc:Af D c with
   | none=>
     have e:execs cf mt A6 Ll [some g,some oc,some oc2,sD D,sL w,sP X,sP c]= .ok .nx [some g,some oc,some oc2,sD D,sL (w++[c]),sP X,sP c]:=by
      unfold Ll;simp! [Aa,AK,memC,hkc,hc,CL,Bh,hw]
     have st:forL (.nm 6) [] (execs cf mt A6 Ll) (c::xs) [some g,some oc,some oc2,sD D,sL w,sP X,y]=forL (.nm 6) [] (execs cf mt A6 Ll) xs [some g,some oc,some oc2,sD D,sL (w++[c]),sP X,sP c]:=by
      rw[CZ];show((execs cf mt A6 Ll [some g,some oc,some oc2,sD D,sL w,sP X,sP c]).bind _)=_;rw[e,Res.A5]
     rw[st];rcases M0 hD xs (w++[c]) (some (.p c)) hks (by rw[lA,lS];lia)with⟨pu,z,q0,q1,q2,q3⟩|⟨c',w',z,q1,q2,q3⟩
     . left;refine⟨c::pu,z,by simpa using q0,λd hd=>?_,λd hd=>?_,?_⟩
       . rcases mK hd with h|h
         . rw[h];exact⟨mS,hc⟩
         . exact⟨mC (q1 d h).1,(q1 d h).2⟩
       . rcases mK hd with h|h
         . rw[h];exact .inr mS
         . exact(q2 d h).imp id λh=>mC h
       . rw[q3,append_assoc];rfl
     . exact .inr ⟨c',w',z,mC q1,q2,q3⟩
   | some v=>
     rcases hD c v hc with rfl|rfl
     . have e:execs cf mt A6 Ll [some g,some oc,some oc2,sD D,sL w,sP X,sP c]= .ok .nx [some g,some oc,some oc2,sD D,sL w,sP X,sP c]:=by
        unfold Ll;simp! [Aa,AK,memC,hkc,hc,AN]
       have st:forL (.nm 6) [] (execs cf mt A6 Ll) (c::xs) [some g,some oc,some oc2,sD D,sL w,sP X,y]=forL (.nm 6) [] (execs cf mt A6 Ll) xs [some g,some oc,some oc2,sD D,sL w,sP X,sP c]:=by
        rw[CZ];show((execs cf mt A6 Ll [some g,some oc,some oc2,sD D,sL w,sP X,sP c]).bind _)=_;rw[e,Res.A5]
       rw[st];rcases M0 hD xs w (some (.p c)) hks (by lia)with⟨pu,z,q0,q1,q2,q3⟩|⟨c',w',z,q1,q2,q3⟩
       . left;refine⟨pu,z,by rw[lC];lia,λd hd=>⟨mC (q1 d hd).1,(q1 d hd).2⟩,λd hd=>?_,q3⟩;rcases mK hd with h|h
         . rw[h];exact .inl hc
         . exact q2 d h
       . exact .inr ⟨c',w',z,mC q1,q2,q3⟩
     . right
       have e:execs cf mt A6 Ll [some g,some oc,some oc2,sD D,sL w,sP X,sP c]= .ok (.ret (.p .AG)) [some g,some oc,some oc2,sD D,sL w,sP X,sP c]:=by
        unfold Ll;simp! [Aa,AK,memC,hkc,hc,AN]
       refine⟨c,sL w,sP c,mS,hc,?_⟩;rw[CZ];show((execs cf mt A6 Ll [some g,some oc,some oc2,sD D,sL w,sP X,sP c]).bind _)=_;rw[e,Res.A5]
theorem RR{bl:List (Iv.P×List Iv.P)}(h:Dl bl p0=[]):bl=[]/\p0=[]:=by
 cases bl with
 |nil=>exact⟨rfl,h⟩
 |cons b r=>obtain⟨Q,pend⟩:=b;have h:pend++Q::Dl r p0=[]:=h;simp at h
variable{L:Iv.P->Iv.P}
theorem Td{k:Nat}{roots:List Iv.P}{ord st:List Iv.P}{bl:List (Iv.P×List Iv.P)}{X:Iv.P}{y5 y6:Option C}(hU:HP U)(g:Gr U A L)(h:OL L D ord bl p0 U roots)(e:Dl bl p0=X::st)(hl:st.length + 11<=big)(ho:ord.length < big):
 (∃A' D' ord' bl' p0' fl z5 z6,Gr U A' L/\OL L D' ord' bl' p0' U roots/\free D' U * 11 + (Dl bl' p0').length < free D U * 11 + st.length + 1/\ord'.length + (free D' U * 11 + (Dl bl' p0').length)<=ord.length + (free D U * 11 + st.length + 1)/\(fl= .nx\/fl= .cnt)/\
   execs (A0 fns mt A6 (k + 2)) mt A6 Qj [some (Ar A),some oc,sL ord,sD D,sL (Dl bl p0).reverse,y5,y6]= .ok fl [some (Ar A'),some oc,sL ord',sD D',sL (Dl bl' p0').reverse,z5,z6])\/
 (∃A' w2 w3 w4 z5 z6,(∀θ,¬OK θ L)/\execs (A0 fns mt A6 (k + 2)) mt A6 Qj [some (Ar A),some oc,sL ord,sD D,sL (Dl bl p0).reverse,y5,y6]= .ok (.ret (.p .AG)) [some (Ar A'),some oc,w2,w3,w4,z5,z6]):=by
 have hXU:X∈U:=h.Gz.1 X (by rw[e];exact mS);have hk:=hU.key X hXU;have hDl:D.length < big:=by have:=h.size;have:=hU.lt;lia
 have hlast:=QB st.reverse X
 have hfrle:∀{v},Af D X=some v->free (dput D X (.bl true)) U=free D U:=λ{v} hv=>by
  have hk:=Dd (v:=.bl true) hv;unfold free;congr 1;exact funext hk
 have es:ev (A0 fns mt A6 (k + 2)) mt (T.prim O.idx [T.var 4,T.prim O.neg [T.cst (P.int 1)]]) [some (Ar A),some oc,sL ord,sD D,sL (X::st).reverse,y5,y6]= .ok (.p X) [some (Ar A),some oc,sL ord,sD D,sL (X::st).reverse,y5,y6]:=by
  simp! [Aa,Jw,Kz,hlast]
 cases hX:Af D X with
 | some v=>
   left;rcases h.val X v hX with rfl|rfl
   . obtain⟨bl',p0',q1,q2⟩:=JI h e hX;refine⟨A,D,ord,bl',p0',.cnt,sP X,y6,g,q2,by rw[q1];lia,by rw[q1];lia,.inr rfl,?_⟩;rw[e,q1];unfold Qj YA;rw[B0 es];simp! [Aa,Jw,Kz,hlast,AK,memC,hk,hX,CL,Jn,AN]
   . obtain⟨bl',p0',q1,q2⟩:=Mh h e hX;refine⟨A,_,_,bl',p0',.cnt,sP X,y6,g,q2,by rw[q1,hfrle hX];lia,by rw[q1,hfrle hX,lA,lS];lia,.inr rfl,?_⟩;rw[e,q1];unfold Qj YA;rw[B0 es];simp! [Aa,Jw,Kz,hlast,AK,memC,hk,hX,CL,Jn,AN,AV,BS,Dz,BH,Dy,hDl,Bh,ho]
 | none=>
   have hval:∀F v,Af (dput D X (.bl false)) F=some v->v= .bl true\/v= .bl false:=λF v hv=>by
    rw[Am]at hv
    by_cases z:F=X
    . rw[iP z]at hv;cases hv;exact .inr rfl
    . rw[iN z]at hv;exact h.val F v hv
   have hcl:=Ri (L:=L) hU hXU;obtain⟨A',g1,g2,ep⟩:=Ks (k:=k) (i:=0) (j:=5) (F:=X) (ρ:=[some (Ar A),some oc,sL ord,sD (dput D X (.bl false)),sL (st.reverse++[X]),sP X,y6]) g hU hXU rfl rfl;have hfr:=Ho (v:=.bl false) hX hXU;have hcU:=Rj g hU hXU;rcases M0 (cf:=A0 fns mt A6 (k + 2)) (g:=Ar A') (oc:=oc) (oc2:=.lst ord) (D:=dput D X (.bl false)) (X:=X) hval (ch L X) (st.reverse++[X]) y6 (λc hc=>hU.key c (hcU c hc)) (by rw[lA,length_reverse,lS];lia)with⟨pu,z,q0,q1,q2,q3⟩|⟨c,w',z,q1,q2,q3⟩
   . left;obtain⟨bl',p0',r1,r2⟩:=Ow h e hX q1 q2 hcU;refine⟨A',_,ord,bl',p0',.nx,sP X,z,g1,r2,?_,?_,.inl rfl,?_⟩
     . rw[r1,lA,length_reverse,lC];lia
     . rw[r1,lA,length_reverse,lC];lia
     . have hr:(Dl bl' p0').reverse=st.reverse++[X]++pu:=by rw[r1,List.reverse_append,reverse_reverse,reverse_cons]
       rw[e,hr];unfold Qj YA;simp only[set_cons_zero]at ep;simp! [Aa,Jw,Kz,hlast,AK,memC,hk,hX,AV,BS,Dz,BH,Dy,hDl,Cf,IK.ok,E9,Ah,EF,A8,guards,ep,q3]
   . right;refine⟨A',sL ord,sD (dput D X (.bl false)),w',sP X,z,λθ=>Ox h e hX q1 q2 θ,?_⟩;rw[e];unfold Qj YA;simp only[set_cons_zero]at ep;simp! [Aa,Jw,Kz,hlast,AK,memC,hk,hX,AV,BS,Dz,BH,Dy,hDl,Cf,IK.ok,E9,Ah,EF,A8,guards,ep,q3]
theorem Te{k:Nat}{roots:List Iv.P}(hU:HP U):∀(n:Nat) (A D:List (Iv.P×Iv.P)) (ord p0:List Iv.P) (bl:List (Iv.P×List Iv.P)) (y5 y6:Option C),Gr U A L->OL L D ord bl p0 U roots->free D U * 11 + (Dl bl p0).length=n->ord.length + n + 11<=big->
 (∃A' D' ord' z5 z6,Gr U A' L/\Ord L ord' U roots/\A6 (tv (A0 fns mt A6 (k + 2)) mt (.var 4)) (execs (A0 fns mt A6 (k + 2)) mt A6 Qj) [some (Ar A),some oc,sL ord,sD D,sL (Dl bl p0).reverse,y5,y6]= .ok .nx [some (Ar A'),some oc,sL ord',sD D',sL [],z5,z6])\/
 (∃A' w2 w3 w4 z5 z6,(∀θ,¬OK θ L)/\A6 (tv (A0 fns mt A6 (k + 2)) mt (.var 4)) (execs (A0 fns mt A6 (k + 2)) mt A6 Qj) [some (Ar A),some oc,sL ord,sD D,sL (Dl bl p0).reverse,y5,y6]= .ok (.ret (.p .AG)) [some (Ar A'),some oc,w2,w3,w4,z5,z6]):=by
 intro n
 induction n using Nat.strongRecOn with
 | ind n ih=>
   intro A D ord p0 bl y5 y6 g h hn hb;cases e:Dl bl p0 with
   | nil=>
     left;obtain⟨rfl,rfl⟩:=RR e;refine⟨A,D,ord,y5,y6,g,⟨h.Kt,h.Ku,h.Gz.2,λF hF=>(h.Se F hF).resolve_right λz=>by rw[e]at z;cases z⟩,?_⟩;rw[Bg];simp! []
   | cons X st=>
     have hlen:(Dl bl p0).length=st.length + 1:=by rw[e,lC]
     have hc:tv (A0 fns mt A6 (k + 2)) mt (.var 4) [some (Ar A),some oc,sL ord,sD D,sL (Dl bl p0).reverse,y5,y6]= .ok true [some (Ar A),some oc,sL ord,sD D,sL (Dl bl p0).reverse,y5,y6]:=by
      rw[e];simp! []
     rw[<-e];rcases Td (k:=k) (oc:=oc) (y5:=y5) (y6:=y6) hU g h e (by lia) (by lia)with⟨A',D',ord',bl',p0',fl,z5,z6,g',h',m1,m2,hfl,et⟩|⟨A',w2,w3,w4,z5,z6,hθ,et⟩
     . have:=ih _ (by lia) A' D' ord' p0' bl' z5 z6 g' h' rfl (by lia);rw[Bg,hc,Res.A5,iP rfl,et,Res.A5];rcases hfl with rfl|rfl
       . exact this
       . exact this
     . right;refine⟨A',w2,w3,w4,z5,z6,hθ,?_⟩;rw[Bg,hc,Res.A5,iP rfl,et,Res.A5]
theorem He{k:Nat}{os:List Iv.P}(hU:HP U)(g:Gr U A L)(ho:∀o∈os,o∈U)(hl:os.length<=1000):
 (∃A' ord,Gr U A' L/\Ord L ord U (os.map L)/\A0 fns mt A6 (k + 3) 2 [Ar A,.lst os]= .ok (.lst ord) [some (Ar A'),sL os])\/
 (∃A',(∀θ,¬OK θ L)/\A0 fns mt A6 (k + 3) 2 [Ar A,.lst os]= .ok (.p .AG) [some (Ar A'),sL os]):=by
 let J:Iv.Env->Prop:=λβ=>∃y A',Gr U A' L/\free A' U=free A U/\β=[none,y,some (Ar A')]
 obtain⟨β',⟨y,A',j1,j2,rfl⟩,e⟩:=EB (g:=.nm 1) (cond:=Ea (A0 fns mt A6 (k + 2)) mt []) (elt:=ev (A0 fns mt A6 (k + 2)) mt (.Bs "leader_of" (.var 2) [.var 1])) (F:=L) (J:=J) os [] [none,none,some (Ar A)] (λq hq β ⟨y,A1,j1,j2,hβ⟩=>by
  subst hβ;obtain⟨A2,q1,q2,q3,q4⟩:=Jq (k:=k + 1) (i:=2) (j:=1) (ρ:=[none,sP q,some (Ar A1)]) j1 hU (ho q hq) rfl rfl
  exact⟨_,_,rfl,Cs _,q4,sP q,A2,q1,by lia,rfl⟩) ⟨none,A,g,rfl,rfl⟩
 have hbig:os.length<=big:=by unfold big;lia
 have ec:ev (A0 fns mt A6 (k + 2)) mt YB [some (Ar A),sL os,sL [],sD [],none,none,none]= .ok (.lst (os.map L)) [some (Ar A'),sL os,sL [],sD [],none,none,none]:=by
  unfold YB;rw[CK];rw[nil_append]at e;have hb:AD (BX [none,none,some 0] [some (Ar A),sL os,sL [],sD [],none,none,none]) [none,none,some 0] [none,y,some (Ar A')]=[some (Ar A'),sL os,sL [],sD [],none,none,none]:=rfl;have hi:inner [none,none,some 0] 1=none:=rfl;simp! [IK.ok,Aa,DP,Ah,EF,A8,BW,Bv,guards,hbig,Bd,e,hb,Tg.slots,hi]
 have e0:ev (A0 fns mt A6 (k + 2)) mt (.AJ [] []) [some (Ar A),sL os,sL [],none,none,none,none]= .ok (.AJ []) [some (Ar A),sL os,sL [],none,none,none,none]:=by
  show(den _ _ (.AJ [] [])).v _=_;unfold den;rfl
 have hfr:free [] U<=U.length:=countP_le_length;have hlen:=hU.len;have hst:Dl [] ((os.map L).reverse)=(os.map L).reverse:=rfl
 rcases Te (k:=k) (oc:=.lst os) hU _ A' [] [] ((os.map L).reverse) [] none none j1 (Ov L U (os.map L) ((os.map L).reverse) (λF hF=>mem_reverse.mpr hF) (λF hF=>by
  obtain⟨o,h1,rfl⟩:=mem_map.mp (mem_reverse.mp hF)
  exact g.Gz hU.key (ho o h1))) rfl (by rw[hst,length_reverse,lM,List.length_nil];unfold big;lia)with⟨A2,D',ord',z5,z6,g',h',et⟩|⟨A2,w2,w3,w4,z5,z6,hθ,et⟩
 . left;refine⟨A2,ord',g',h',?_⟩;rw[hst,reverse_reverse]at et
   have e2:execs (A0 fns mt A6 (k + 2)) mt A6 [S.asg (Tg.nm 2) (T.lst []),S.asg (Tg.nm 3) (T.AJ [] []),S.asg (Tg.nm 4) YB,S.K2 (T.var 4) Qj,S.ret (some (T.var 2))] [some (Ar A),sL os,none,none,none,none,none]= .ok (.ret (.lst ord')) [some (Ar A2),sL os,none,sD D',sL [],z5,z6]:=by
    simp! [EY,e0,ec,et]
   rw[Aw f2 rfl e2];rfl
 . right;refine⟨A2,hθ,?_⟩;rw[hst,reverse_reverse]at et
   have e2:execs (A0 fns mt A6 (k + 2)) mt A6 [S.asg (Tg.nm 2) (T.lst []),S.asg (Tg.nm 3) (T.AJ [] []),S.asg (Tg.nm 4) YB,S.K2 (T.var 4) Qj,S.ret (some (T.var 2))] [some (Ar A),sL os,none,none,none,none,none]= .ok (.ret (.p .AG)) [some (Ar A2),sL os,w2,w3,w4,z5,z6]:=by
    simp! [EY,e0,ec,et]
   rw[Aw f2 rfl e2];rfl
end Lk05
namespace Iv
open PySem
theorem Bx{gs:List (Nat×C)}{b:Env->Res Fl}{J:List P->Env->Prop}{all:List P}(hg:∀d ρ,J d ρ->holds gs ρ=true)(turn:∀d x r,d++x::r=all->∀ρ,J d ρ->∃ρ1 ρ2 fl,DF g x ρ=some ρ1/\b ρ1= .ok fl ρ2/\(fl= .nx\/fl= .cnt)/\J (d++[x]) ρ2):
 ∀(xs d:List P) (ρ:Env),d++xs=all->J d ρ->∃ρ',J all ρ'/\forL g gs b xs ρ= .ok .nx ρ'
 | [],d,ρ,e,h=>by
   rw[append_nil]at e;subst e;refine⟨ρ,h,?_⟩;show(if holds gs ρ then _ else _)=_;rw[hg _ _ h];rfl
 | x::xs,d,ρ,e,h=>by
   obtain⟨ρ1,ρ2,fl,e1,e2,hf,h2⟩:=turn d x xs e ρ h;obtain⟨ρ',q1,q2⟩:=Bx hg turn xs (d++[x]) ρ2 (by rw[append_assoc];exact e) h2;refine⟨ρ',q1,?_⟩;show(if holds gs ρ then(Res.of (DF g x ρ) ρ).bind _ else _)=_;rw[hg _ _ h,iP rfl,e1];show((b ρ1).bind _)=_;rw[e2,Res.A5];rcases hf with rfl|rfl
   . exact q2
   . exact q2
def Cz(K:List (P×P))(c:P):P:=(Af K c).getD .AG
def Ew(K:List (P×P))(L:P->P):P->P
 | .tup (x::r)=>.tup (x::r.map λp=>Cz K (L p))
 |X=>X
theorem Gx(K:List (P×P))(L:P->P)(x:P)(r:List P):Ew K L (.tup (x::r))= .tup (x::(ch L (.tup (x::r))).map (Cz K)):=by
 show P.tup (x::r.map λp=>Cz K (L p))= .tup (x::(r.map L).map (Cz K));rw[map_map];rfl
variable{L:P->P}
theorem Ii{K:List (P×P)}{X:P}(h:∀c∈ch L X,Cz K' c=Cz K c):Ew K' L X=Ew K L X:=by
 cases X with
 | tup ps=>
   cases ps with
   |nil=>rfl
   | cons x r=>
     rw[Gx,Gx]
     congr 2
     exact map_congr_left h
 |_=>rfl
structure KS(L:P->P)(d:List P)(K:List (P×P)):Prop where
 cl:∀X∈d,∀c∈ch L X,c∈d
 ZJ:∀X∈d,Af K X=some (Ew K L X)
 no:∀X,X∉d->Af K X=none
 len:K.length<=d.length
theorem KS.nil(L:P->P):KS L [] []:=⟨λX h=>(by cases h),λX h=>(by cases h),λX _=>rfl,lR⟩
variable{Y:P}
theorem KS.step(h:KS L d K)(hY:Y∉d)(hc:∀c∈ch L Y,c∈d):KS L (d++[Y]) (dput K Y (Ew K L Y)):=by
 have hk:∀c∈d,Cz (dput K Y (Ew K L Y)) c=Cz K c:=λc hcd=>by
  unfold Cz;rw[Am,iN (λz:c=Y=>hY (z▸hcd))]
 refine⟨λX hX c hcX=>?_,λX hX=>?_,λX hX=>?_,?_⟩
 . rcases mem_append.mp hX with z|z
   . exact mL (h.cl X z c hcX)
   . rw[mE z]at hcX;exact mL (hc c hcX)
 . rcases mem_append.mp hX with z|z
   . rw[Am,iN (λq:X=Y=>hY (q▸z)),h.ZJ X z,Ii λc hcX=>hk c (h.cl X z c hcX)]
   . rw[mE z,Am,iP rfl,Ii λc hcX=>hk c (hc c hcX)]
 . rw[Am,iN (λq=>hX (by rw[q];simp))];exact h.no X λz=>hX (mL z)
 . have:=Cr K Y (Ew K L Y);have:=h.len;rw[lA,lS]
   lia
variable{ord:List P}
theorem KS.all{roots:List P}(h:Ord L ord U roots):∀(xs d:List P) (K:List (P×P)),d++xs=ord->KS L d K->∃K',KS L ord K'
 |[],d,K,e,k=>by rw[append_nil]at e;subst e;exact⟨K,k⟩
 | Y ::xs,d,K,e,k=>by
   have hnd:Y∉d:=by
    have:=h.nd;rw[<-e,nodup_append]at this;exact λz=>this.2.2 Y z Y mS rfl
   have hc:∀c∈ch L Y,c∈d:=λc hc=>by
    have:=h.ok d.length Y (by rw[<-e];simp) c hc;rw[<-e,List.take_append_of_le_length (lR),take_length]at this;exact this
   exact KS.all h xs (d++[Y]) _ (by rw[append_assoc];exact e) (k.step hnd hc)
theorem VV{roots d xs:List P}(h:Ord L ord U roots)(e:d++Y::xs=ord):Y∉d/\∀c∈ch L Y,c∈d:=by
 refine⟨?_,λc hc=>?_⟩
 . have:=h.nd;rw[<-e,nodup_append]at this;exact λz=>this.2.2 Y z Y mS rfl
 . have:=h.ok d.length Y (by rw[<-e];simp) c hc;rw[<-e,List.take_append_of_le_length (lR),take_length]at this;exact this
theorem LD(θ:Sub):∀(n:Nat) (p:P),(pre p).length<=n->(pre p).length<=(pre (Ae θ p)).length:=by
 intro n
 induction n with
 |zero=>intro p h;have:=Bu p;lia
 | succ n ih=>
   intro p h;cases p with
   | tup ps=>
     cases ps with
     |nil=>unfold Ae VA;exact lR
     | cons x r=>
       rw[AM,As,As,lC,lC,AL];rw[As,lC]at h;have h:(AO r).length<=n:=by have:(P.str ⟨#[]⟩::r).tail=r:=rfl;simpa using h
       show(AO r).length + 1<=(AO (r.map (Ae θ))).length + 1
       have key:∀l:List P,(AO l).length<=n->(AO l).length<=(AO (l.map (Ae θ))).length:=by
        intro l
        induction l with
        |nil=>intro _;rw[map_nil];exact lR
        | cons q l ihl=>
          intro hl;rw[map_cons,Ag,Ag,lA,lA];rw[Ag,lA]at hl;have:=ih q (by lia);have:=ihl (by lia)
          lia
       have:=key r h
       lia
   |AG=>have:=Bu (Ae θ .AG);simpa[pre]using this
   |bl b=>have:=Bu (Ae θ (.bl b));simpa[pre]using this
   |int b=>have:=Bu (Ae θ (.int b));simpa[pre]using this
   |str b=>have:=Bu (Ae θ (.str b));simpa[pre]using this
   |fn b=>have:=Bu (Ae θ (.fn b));simpa[pre]using this
theorem Io{α:Type}(F:α->Int):∀l:List α,Fy (l.map λa=>P.int (F a))=some (l.map F)
 |[]=>rfl
 | a::l=>by
   rw[map_cons,map_cons];unfold Fy;rw[Io F l];rfl
theorem Kq:∀l:List P,((l.map λp=>((pre p).length:Int)).sum)=((AO l).length:Int)
 |[]=>rfl
 | p::l=>by
   rw[map_cons,List.sum_cons,Kq l,Ag,lA]
   lia
theorem Sr(hu:OK θ L)(h:∀c∈ch L Y,Ae θ (Cz K c)=Ae θ c):Ae θ (Ew K L Y)=Ae θ Y:=by
 cases Y with
 | tup ps=>
   cases ps with
   |nil=>rfl
   | cons x r=>
     show Ae θ (.tup (x::r.map λp=>Cz K (L p)))=_;rw[AM,AM,AL,AL,map_map]
     congr 2
     refine map_congr_left λp hp=>?_
     show Ae θ (Cz K (L p))=_;rw[h (L p) (mem_map_of_mem (f:=L) hp),hu p]
 |_=>rfl
theorem Ef:∀{l:List P},(∀p∈l,Al p=true)->CP l=true
 |[],_=>by unfold CP;rfl
 | p::l,h=>by
   rw[Bb,h p mS,Ef λq hq=>h q (mC hq)];rfl
theorem DL(h:CP r=true):Al (.tup (.str x::r))=true:=by
 unfold Al Cq;exact h
theorem Qz(hY:Al Y=true)(h:∀c∈ch L Y,Al (Cz K c)=true):Al (Ew K L Y)=true:=by
 cases Y with
 | tup ps=>
   obtain⟨x,r,rfl,hr⟩:=Bj hY;refine DL (Ef λp hp=>?_);obtain⟨q,hq,rfl⟩:=mem_map.mp hp;exact h (L q) (mem_map_of_mem (f:=L) hq)
 |_=>exact hY
theorem SA(hY:Al Y=true):(pre (Ew K L Y)).length=1 + (AO ((ch L Y).map (Cz K))).length:=by
 cases Y with
 | tup ps=>
   obtain⟨x,r,rfl,hr⟩:=Bj hY;rw[Gx,As,lC];show(AO ((ch L _).map (Cz K))).length + 1=_
   lia
 |int i=>show(pre (.int i)).length=1 + (AO []).length;rw[AI];unfold pre;rfl
 |_=>unfold Al at hY;cases hY
end Iv
namespace Lk05
open Iv PySem
noncomputable def Xj(i:Nat):T:=T.comp (Tg.nm 1) IK.op [T.var 5] [] (T.prim O.idx [T.var 2,T.var 1]) [none,none,some i]
noncomputable def aX:T:=T.prim O.add [T.tup [T.prim O.idx [T.var 4,T.cst (P.int 0)]],T.prim (O.tuple IK.op) [Xj 2]]
def aW:T:=T.prim O.add [T.cst (P.int 1),T.prim O.sum [Xj 3]]
noncomputable def bQ:List S:=[S.ifs (T.prim O.gt [T.var 6,T.cst (P.int 60)]) [S.raise] [],
    S.Dx (T.var 3) (T.var 4) (T.var 6),
    S.ifs (T.prim (O.Js Ty.int) [T.var 4]) [S.Dx (T.var 2) (T.var 4) (T.var 4)] [S.Dx (T.var 2) (T.var 4) aX]]
def Xk:List S:=S.asg (Tg.nm 5) (T.Bs "parts_of" (T.var 0) [T.var 4])::S.asg (Tg.nm 6) aW::bQ
theorem f3:fns[3]? =some ⟨2,7,[S.asg (Tg.nm 2) (T.AJ [] []),S.asg (Tg.nm 3) (T.AJ [] []),S.CW (Tg.nm 4) IK.op [T.var 1] Xk,S.ret (some (T.var 2))]⟩:=by kernel_rfl
variable{cf:CF}
theorem N5{i:Nat}{cs:List Iv.P}(h5:A9 ρ 5=some (.lst cs))(hi:A9 ρ i=some (.AJ M))(hi5:i≠5)(hk:∀c∈cs,keyOk c=true/\∃v,Af M c=some v)(hl:cs.length<=big):ev cf mt (Xj i) ρ= .ok (.lst (cs.map (Cz M))) ρ:=by
 unfold Xj;rw[CK]
 have he:∀q∈cs,ev cf mt (T.prim O.idx [T.var 2,T.var 1]) [none,sP q,sD M]= .ok (.p (Cz M q)) [none,sP q,sD M]:=λq hq=>by
  obtain⟨h1,v,hv⟩:=hk q hq;unfold Cz;simp! [Aa,AN,h1,hv]
 obtain⟨β2,q1,q2⟩:=EA (g:=.nm 1) (cond:=Ea cf mt []) (elt:=ev cf mt (T.prim O.idx [T.var 2,T.var 1])) (F:=Cz M) (β:=λq=>[none,sP q,sD M]) (β0:=[none,none,sD M]) (λ_=>rfl) (λ_ _=>rfl) Cs cs [] he [none,none,sD M] (.inl rfl)
 have hset:∀{ρ:Iv.Env} {i:Nat} {c:C},A9 ρ i=some c->(ρ.set i none).set i (some c)=ρ:=λ{ρ i c} h=>by
  rw[set_set];refine ext_getElem? λj=>?_
  rw[List.getElem?_set];unfold A9 at h
  by_cases hj:i=j
  . subst hj;cases hr:ρ[i]? with
    |none=>rw[hr]at h;cases h
    | some o=>
      rw[hr]at h;have h:o=some c:=h;subst h;have:i < ρ.length:=(List.getElem?_eq_some_iff.mp hr).1;rw[iP rfl,iP this]
  . rw[iN hj]
 have hb:AD (BX [none,none,some i] ρ) [none,none,some i] β2=ρ:=by
  rcases q1 with rfl|⟨y,rfl⟩
  . exact hset hi
  . exact hset hi
 have hin:inner [none,none,some i] 5=none:=by
  show List.findIdx? _ [none,none,some i]=none;simp[List.findIdx?_cons,hi5]
 have hbi:Bd [none,none,some i] ρ=[none,none,sD M]:=by
  show[none,none,A9 ρ i]=_;rw[hi]
 rw[nil_append]at q2;have hd:An cf mt [T.var 5] ρ= .ok [.slot 5] ρ:=DV h5;show(if IK.op.ok=true then(An cf mt [T.var 5] ρ).bind _ else _)=_;rw[hd,Res.A5];have hco:AB ρ [.slot 5]=some [.lst cs]:=by show((A9 ρ 5).bind _)=_;rw[h5];rfl
 unfold DP;rw[hco]
 have hg:Bv [none,none,some i] [.slot 5] [.lst cs]=[]:=by
  show(([(5,C.lst cs)]:List (Nat×C)).filterMap λq=>(inner [none,none,some i] q.1).map λj=>(j,q.2))=[];rw[List.filterMap_cons_none (by show(inner [none,none,some i] 5).map _=none;rw[hin];rfl)];rfl
 have hbo:BW (.nm 1) [none,none,some i]=true:=by unfold BW;simp[Tg.slots]
 show(if(A8 [.slot 5] [.lst cs] && BW (.nm 1) [none,none,some i] && decide (cs.length<=big))=true then _ else _)=_;rw[hbo,decide_eq_true hl,hg,hbi,q2];show(if A8 [.slot 5] [.lst cs] && true && true=true then Res.ok (C.lst (cs.map (Cz M))) (AD (BX [none,none,some i] ρ) [none,none,some i] β2)else _)=_;rw[hb];rfl
variable{L:Iv.P->Iv.P}
theorem Tj{k:Nat}{d:List Iv.P}{Sz:List (Iv.P×Iv.P)}{Y:Iv.P}{oc:C}{y5 y6:Option C}(hU:HP U)(g:Gr U A L)(hYU:Y∈U)(ks:KS L d K)(hc:∀c∈ch L Y,c∈d)(hsz:∀X∈d,Af Sz X=some (.int (pre (Cz K X)).length))(hl:d.length < 2000)(hsl:Sz.length<=d.length)(h60:(pre (Ew K L Y)).length<=60):
 ∃A',Gr U A' L/\execs (A0 fns mt A6 (k + 2)) mt A6 Xk [some (Ar A),some oc,sD K,sD Sz,sP Y,y5,y6]= .ok .nx [some (Ar A'),some oc,sD (dput K Y (Ew K L Y)),sD (dput Sz Y (.int (pre (Ew K L Y)).length)),sP Y,sL (ch L Y),sP (.int (pre (Ew K L Y)).length)]:=by
 obtain⟨A',g1,g2,ep⟩:=Ks (k:=k) (i:=0) (j:=4) (F:=Y) (ρ:=[some (Ar A),some oc,sD K,sD Sz,sP Y,y5,y6]) g hU hYU rfl rfl;refine⟨A',g1,?_⟩;have hcU:=Rj g hU hYU;have hcl:=Ri (L:=L) hU hYU;have hkY:=hU.kd Y hYU;have hky:=hU.key Y hYU;have hbig:(ch L Y).length<=big:=by unfold big;lia
 have c3:=N5 (cf:=A0 fns mt A6 (k + 2)) (i:=3) (M:=Sz) (cs:=ch L Y) (ρ:=[some (Ar A'),some oc,sD K,sD Sz,sP Y,sL (ch L Y),y6]) rfl rfl (by decide) (λc hcc=>⟨hU.key c (hcU c hcc),_,hsz c (hc c hcc)⟩) hbig
 have hmap:(ch L Y).map (Cz Sz)=((ch L Y).map (Cz K)).map λp=>Iv.P.int ((pre p).length:Nat):=by
  rw[map_map];refine map_congr_left λc hcc=>?_
  unfold Cz;rw[hsz c (hc c hcc)];rfl
 have hsum:=Kq ((ch L Y).map (Cz K));have hpre:=SA (K:=K) (L:=L) hkY
 have s2:ev (A0 fns mt A6 (k + 2)) mt aW [some (Ar A'),some oc,sD K,sD Sz,sP Y,sL (ch L Y),y6]= .ok (.p (.int (pre (Ew K L Y)).length)) [some (Ar A'),some oc,sD K,sD Sz,sP Y,sL (ch L Y),y6]:=by
  have hh:∀(v:Iv.Env->Res C) (ρ:Iv.Env),BV (Xj 3) v ρ=(v ρ).bind λc ρ=>.ok (.BG c) ρ:=λ_ _=>rfl
  have hi:=Io (λp=>((pre p).length:Int)) ((ch L Y).map (Cz K));rw[<-hmap]at hi;have hfin:(1:Int) + (((ch L Y).map (Cz K)).map λp=>((pre p).length:Int)).sum=((pre (Ew K L Y)).length:Int):=by rw[hsum,hpre];lia
  unfold aW;simp! [hh,c3,Aa,RQ,Qi,hi,C7];rw[<-hfin,map_map]
 unfold Xk;rw[B0 ep];show execs _ _ _ _ [some (Ar A'),some oc,sD K,sD Sz,sP Y,sL (ch L Y),y6]=_;rw[B0 s2];show execs _ _ _ _ [some (Ar A'),some oc,sD K,sD Sz,sP Y,sL (ch L Y),sP (.int (pre (Ew K L Y)).length)]=_;have hng:¬(60 < ((pre (Ew K L Y)).length:Int)):=by lia
 have hKl:K.length < big:=by have:=ks.len;unfold big;lia
 have hSl:Sz.length < big:=by unfold big;lia
 unfold bQ;rcases Fx hkY with⟨i,rfl⟩|⟨x,r,rfl,hr⟩
 . have hmk:Ew K L (.int i)= .int i:=rfl;rw[hmk]at hng ⊢;simp! [Aa,AK,KH,hng,AV,BS,Dz,BH,Dy,hKl,hSl,hky,Cm]
 . have c2:=N5 (cf:=A0 fns mt A6 (k + 2)) (i:=2) (M:=K) (cs:=ch L (.tup (.str x::r))) (ρ:=[some (Ar A'),some oc,sD K,sD (dput Sz (.tup (.str x::r)) (.int (pre (Ew K L (.tup (.str x::r)))).length)),sP (.tup (.str x::r)),sL (ch L (.tup (.str x::r))),sP (.int (pre (Ew K L (.tup (.str x::r)))).length)]) rfl rfl (by decide) (λc hcc=>⟨hU.key c (hcU c hcc),_,ks.ZJ c (hc c hcc)⟩) hbig;have hup:(ch L (.tup (.str x::r))).length + 1<=big:=by unfold big;lia
   have em:ev (A0 fns mt A6 (k + 2)) mt aX [some (Ar A'),some oc,sD K,sD (dput Sz (.tup (.str x::r)) (.int (pre (Ew K L (.tup (.str x::r)))).length)),sP (.tup (.str x::r)),sL (ch L (.tup (.str x::r))),sP (.int (pre (Ew K L (.tup (.str x::r)))).length)]= .ok (.p (Ew K L (.tup (.str x::r)))) [some (Ar A'),some oc,sD K,sD (dput Sz (.tup (.str x::r)) (.int (pre (Ew K L (.tup (.str x::r)))).length)),sP (.tup (.str x::r)),sL (ch L (.tup (.str x::r))),sP (.int (pre (Ew K L (.tup (.str x::r)))).length)]:=by
    have hh:∀(v:Iv.Env->Res C) (ρ:Iv.Env),BV (Xj 2) v ρ=(v ρ).bind λc ρ=>.ok (.BG c) ρ:=λ_ _=>rfl
    unfold aX;simp! [hh,c2,Aa,AN,FN,E5,C7,EE,hup];rw[Gx]
   generalize hmv:Ew K L (.tup (.str x::r))=mv at *;simp! [Aa,AK,KH,hng,AV,BS,Dz,BH,Dy,hKl,hSl,hky,Cm,em]
theorem Qq{k:Nat}{ord roots:List Iv.P}(hU:HP U)(g:Gr U A L)(ho:Ord L ord U roots)(hu:OK θ L)(hs:∀X∈U,sz θ X<=60)(hl:ord.length<=2000):
 ∃A' K,Gr U A' L/\KS L ord K/\(∀X∈ord,Al (Cz K X)=true/\Ae θ (Cz K X)=Ae θ X)/\A0 fns mt A6 (k + 3) 3 [Ar A,.lst ord]= .ok (.AJ K) [some (Ar A'),sL ord]:=by
 let J:List Iv.P->Iv.Env->Prop:=λd ρ=>∃A' K Sz y4 y5 y6,Gr U A' L/\KS L d K/\(∀X∈d,Al (Cz K X)=true/\Ae θ (Cz K X)=Ae θ X)/\(∀X∈d,Af Sz X=some (.int (pre (Cz K X)).length))/\Sz.length<=d.length/\ρ=[some (Ar A'),sL ord,sD K,sD Sz,y4,y5,y6]
 have turn:∀d x r,d++x::r=ord->∀ρ,J d ρ->∃ρ1 ρ2 fl,DF (.nm 4) x ρ=some ρ1/\execs (A0 fns mt A6 (k + 2)) mt A6 Xk ρ1= .ok fl ρ2/\(fl= .nx\/fl= .cnt)/\J (d++[x]) ρ2:=by
  intro d Y r e ρ ⟨A',K,Sz,y4,y5,y6,j1,j2,j3,j4,j5,hρ⟩;subst hρ;obtain⟨hn,hc⟩:=VV ho e;have hYU:Y∈U:=ho.Gz Y (by rw[<-e];simp);have hlen:d.length < 2000:=by rw[<-e,lA,lC]at hl;lia
  have hk:∀c∈d,Cz (dput K Y (Ew K L Y)) c=Cz K c:=λc hcd=>by
   unfold Cz;rw[Am,iN (λz:c=Y=>hn (z▸hcd))]
  have hkY:Cz (dput K Y (Ew K L Y)) Y=Ew K L Y:=by
   unfold Cz;rw[Am,iP rfl];rfl
  have hput:=Sr hu λc hcc=>(j3 c (hc c hcc)).2
  have h60:(pre (Ew K L Y)).length<=60:=by
   have h1:=LD θ _ (Ew K L Y) (lR);rw[hput]at h1;have:=hs Y hYU;unfold sz at this
   lia
  obtain⟨A2,g2,et⟩:=Tj (k:=k) (oc:=.lst ord) (y5:=y5) (y6:=y6) hU j1 hYU j2 hc j4 hlen j5 h60;refine⟨_,_,.nx,rfl,et,.inl rfl,A2,_,_,_,_,_,g2,j2.step hn hc,λX hX=>?_,λX hX=>?_,?_,rfl⟩
  . rcases mem_append.mp hX with z|z
    . rw[hk X z];exact j3 X z
    . rw[mE z,hkY];exact⟨Qz (hU.kd Y hYU) λc hcc=>(j3 c (hc c hcc)).1,hput⟩
  . rcases mem_append.mp hX with z|z
    . rw[hk X z,Am,iN (λq:X=Y=>hn (q▸z))];exact j4 X z
    . rw[mE z,hkY,Am,iP rfl]
  . have:=Cr Sz Y (.int (pre (Ew K L Y)).length);rw[lA,lS]
    lia
 have hold:∀d ρ,J d ρ->holds [(1,.lst ord)] ρ=true:=by
  intro d ρ ⟨A',K,Sz,y4,y5,y6,j1,j2,j3,j4,j5,hρ⟩;subst hρ;unfold holds A9;simp
 obtain⟨ρ',⟨A',K,Sz,y4,y5,y6,j1,j2,j3,j4,j5,hρ⟩,e⟩:=Bx (g:=.nm 4) (gs:=[(1,.lst ord)]) hold turn ord [] [some (Ar A),sL ord,sD [],sD [],none,none,none] rfl ⟨A,[],[],none,none,none,g,KS.nil L,λX h=>(by cases h),λX h=>(by cases h),lR,rfl⟩;subst hρ;refine⟨A',K,j1,j2,j3,?_⟩
 have e0:∀ρ,ev (A0 fns mt A6 (k + 2)) mt (.AJ [] []) ρ= .ok (.AJ []) ρ:=λρ=>by
  show(den _ _ (.AJ [] [])).v _=_;unfold den;rfl
 have has:BA Xk=[5,6]:=by decide
 have e2:execs (A0 fns mt A6 (k + 2)) mt A6 [S.asg (Tg.nm 2) (T.AJ [] []),S.asg (Tg.nm 3) (T.AJ [] []),S.CW (Tg.nm 4) IK.op [T.var 1] Xk,S.ret (some (T.var 2))] [some (Ar A),sL ord,none,none,none,none,none]= .ok (.ret (.AJ K)) [some (Ar A'),sL ord,none,sD Sz,y4,y5,y6]:=by
  simp! [e0,Cf,IK.ok,E9,Ah,EF,A8,guards,has,Tg.slots,e]
 rw[Aw f3 rfl e2];rfl
end Lk05
namespace Iv
open PySem
theorem CD:∀{l I:List P},l.Nodup->(∀x∈l,x∈I)->l.length<=I.length
 |[],_,_,_=>Nat.zero_le _
 | a::l,I,h,hs=>by
   obtain⟨h1,h2⟩:=nodup_cons.mp h;have ha:=hs a mS;have:=CD (l:=l) (I:=I.erase a) h2 λx hx=>(List.mem_erase_of_ne (λz:x=a=>h1 (z▸hx))).mpr (hs x (mC hx))
   have hl:=List.length_erase_of_mem ha;have:0 < I.length:=List.length_pos_of_mem ha;rw[lC]
   lia
theorem BY :∀{l:List (P×P)},(Af l k).isSome=true↔k∈l.map (·.1)
 |[]=>by simp[Ei]
 | q ::l=>by
   rw[By,map_cons,mem_cons]
   by_cases h:q.1=k
   . rw[iP h];simp[h]
   . rw[iN h,BY (l:=l)];constructor
     . exact .inr
     . rintro(z|z)
       . exact absurd z.symm h
       . exact z
theorem Hy(l:List (P×P))(k v:P):(dput l k v).map (·.1)=if k∈l.map (·.1)then l.map (·.1)else l.map (·.1)++[k]:=by
 have hiff:(l.any λq=>decide (q.1=k))=true↔k∈l.map (·.1):=by
  rw[<-BY];constructor
  . intro h;obtain⟨v,hv⟩:=HN h;rw[hv];rfl
  . intro h;obtain⟨v,hv⟩:=Option.isSome_iff_exists.mp h;exact DD hv
 unfold dput
 by_cases h:k∈l.map (·.1)
 . rw[iP (hiff.mpr h),iP h,map_map];refine map_congr_left λq _=>?_
   show(if q.1=k then(q.1,v)else q).1=q.1;split<;>rfl
 . rw[iN (λz=>h (hiff.mp z)),iN h,map_append];rfl
theorem C6{l:List (P×P)}{x:P}:x∈(dput l k v).map (·.1)↔x∈l.map (·.1)\/x=k:=by
 rw[<-BY,Am,<-BY]
 by_cases h:x=k
 . rw[iP h];simp[h]
 . rw[iN h];simp[h]
theorem FF{l:List (P×P)}(h:(l.map (·.1)).Nodup):((dput l k v).map (·.1)).Nodup:=by
 rw[Hy];split
 . exact h
 . rename_i hk;rw[nodup_append];refine⟨h,by simp,λa ha b hb=>?_⟩;rw[mE hb];exact λz=>hk (z▸ha)
theorem IP:∀(xs:List P) (d:List (P×P)) (x:P),x∈(xs.foldl JT d).map (·.1)↔x∈d.map (·.1)\/((∃i,x= .int i)/\x∈xs)
 |[],d,x=>by simp
 | q ::xs,d,x=>by
   rw[foldl_cons,IP xs (JT d q) x,mem_cons];cases q with
   | int i=>
     show x∈(dput d (.int i) (.bl true)).map (·.1)\/_↔_;rw[C6];constructor
     . rintro((h|h)|h)
       . exact .inl h
       . exact .inr ⟨⟨i,h⟩,.inl h⟩
       . exact .inr ⟨h.1,.inr h.2⟩
     . rintro(h|⟨h1,h|h⟩)
       . exact .inl (.inl h)
       . exact .inl (.inr h)
       . exact .inr ⟨h1,h⟩
   | _ =>
     show x∈d.map (·.1)\/_↔_;constructor
     . rintro(h|h)
       . exact .inl h
       . exact .inr ⟨h.1,.inr h.2⟩
     . rintro(h|⟨⟨i,h1⟩,h|h⟩)
       . exact .inl h
       . rw[h1]at h;cases h
       . exact .inr ⟨⟨i,h1⟩,h⟩
theorem KD{x i:Int}:∀{l:List Int},x∈insI i l↔x=i\/x∈l
 |[]=>by unfold insI;simp
 | j ::l=>by
   unfold insI;split
   . simp
   . rw[mem_cons,KD,mem_cons];constructor
     . rintro(h|h|h)
       . exact .inr (.inl h)
       . exact .inl h
       . exact .inr (.inr h)
     . rintro(h|h|h)
       . exact .inr (.inl h)
       . exact .inl h
       . exact .inr (.inr h)
theorem FX{x:Int}:∀{l:List Int},x∈sortI l↔x∈l
 |[]=>by unfold sortI;simp
 |j::l=>by unfold sortI;rw[KD,FX,mem_cons]
theorem KJ :∀{l:List Int},(insI i l).length=l.length + 1
 |[]=>by unfold insI;rfl
 | j::l=>by
   unfold insI;split
   . rfl
   . rw[lC,KJ,lC]
theorem Ij:∀{l:List Int},(sortI l).length=l.length
 |[]=>by unfold sortI;rfl
 |j::l=>by unfold sortI;rw[KJ,Ij,lC]
theorem Ju:∀{l:List P},(∀x∈l,∃i,x= .int i)->∃ns:List Int,l=ns.map .int/\Fy l=some ns
 |[],_=>⟨[],rfl,rfl⟩
 | x::l,h=>by
   obtain⟨i,rfl⟩:=h x mS;obtain⟨ns,e1,e2⟩:=Ju (l:=l) λy hy=>h y (mC hy)
   refine⟨i::ns,by rw[e1];rfl,?_⟩;unfold Fy;rw[e2];rfl
theorem DK(i:Int):keyOk (.int i)=true:=rfl
structure OI(ks:List P)(O:List (P×P)):Prop where
 nd:(O.map (·.1)).Nodup
 mem:∀x,x∈O.map (·.1)↔(∃i,x= .int i)/\∃p∈ks,x∈pre p
end Iv
namespace Lk05
open Iv PySem
theorem GY{x:Iv.P}:x∈(Ee p).map (·.1)↔(∃i,x= .int i)/\x∈pre p:=by
 unfold Ee;rw[IP];simp
def Ym:List S:=[S.Dx (T.var 1) (T.var 4) (T.cst (P.bl true))]
def Xf:List S:=[S.CW (Tg.nm 4) IK.op [T.call 1 [T.var 3]] Ym]
def Xe:List S:=[S.CW (Tg.nm 3) IK.op [T.var 2] Xf]
theorem f4:fns[4]? =some ⟨1,5,[S.asg (Tg.nm 1) (T.AJ [] []),S.CW (Tg.nm 2) IK.op [T.var 0] Xe,S.ret (some (T.prim O.sorted [T.var 1]))]⟩:=by kernel_rfl
variable{cf:CF}
variable{pc:C}{y2:Option C}
theorem Q6{y3:Option C}{O:List (Iv.P×Iv.P)}{I xs:List Iv.P}(hO:∀x∈O.map (·.1),x∈I)(hnd:(O.map (·.1)).Nodup)(hx:∀x∈xs,x∈I/\keyOk x=true)(hI:I.length < 64)(y:Option C):∃O' z,(O'.map (·.1)).Nodup/\(∀x,x∈O'.map (·.1)↔x∈O.map (·.1)\/x∈xs)/\forL (.nm 4) [] (execs cf mt A6 Ym) xs [some pc,sD O,y2,y3,y]= .ok .nx [some pc,sD O',y2,y3,z]:=by
 let J:List Iv.P->Iv.Env->Prop:=λd ρ=>∃O' z,(O'.map (·.1)).Nodup/\(∀x,x∈O'.map (·.1)↔x∈O.map (·.1)\/x∈d)/\ρ=[some pc,sD O',y2,y3,z]
 obtain⟨ρ',⟨O',z,j1,j2,hρ⟩,e⟩:=Bx (g:=.nm 4) (gs:=[]) (b:=execs cf mt A6 Ym) (J:=J) (all:=xs) (λ_ _ _=>rfl) (λd x r e ρ ⟨O',z,j1,j2,hρ⟩=>by
  subst hρ;have hxm:x∈xs:=by rw[<-e];simp
  obtain⟨hxI,hxk⟩:=hx x hxm
  have hlen:O'.length < big:=by
   have:=CD (I:=I) j1 λy hy=>by
    rcases(j2 y).mp hy with q|q
    . exact hO y q
    . exact(hx y (by rw[<-e];exact mL q)).1
   rw[lM]at this;unfold big
   lia
  refine⟨_,[some pc,sD (dput O' x (.bl true)),y2,y3,sP x],.nx,rfl,?_,.inl rfl,_,_,FF j1,λw=>?_,rfl⟩
  . show execs cf mt A6 Ym [some pc,sD O',y2,y3,sP x]=_;unfold Ym;simp! [AV,BS,Dz,BH,Dy,hxk,hlen]
  . rw[C6,j2 w]
    simp[or_assoc]) xs [] [some pc,sD O,y2,y3,y] rfl ⟨O,y,hnd,λx=>by simp,rfl⟩
 subst hρ;exact⟨O',z,j1,j2,e⟩
structure RB(I:List Iv.P)(p:Iv.P):Prop where
 kd:Al p=true
 len:(pre p).length<=1000
 Ip:∀i,Iv.P.int i∈pre p->Iv.P.int i∈I
theorem Kw{k:Nat}{O:List (Iv.P×Iv.P)}{I ks:List Iv.P}(hp:RB I p)(hks:∀q∈ks,RB I q)(hO:OI ks O)(hI:I.length < 64)(y:Option C):∃O' z,OI (ks++[p]) O'/\execs (A0 fns mt A6 (k + 2)) mt A6 Xf [some pc,sD O,y2,sP p,y]= .ok .nx [some pc,sD O',y2,sP p,z]:=by
 obtain⟨O',z,q1,q2,e⟩:=Q6 (cf:=A0 fns mt A6 (k + 2)) (pc:=pc) (y2:=y2) (y3:=some (.p p)) (O:=O) (I:=I) (xs:=(Ee p).map (·.1)) (λx hx=>by
  obtain⟨⟨i,rfl⟩,q,hq,hm⟩:=(hO.mem x).mp hx;exact(hks q hq).Ip i hm) hO.nd (λx hx=>by
  obtain⟨⟨i,rfl⟩,hm⟩:=GY.mp hx
  exact⟨hp.Ip i hm,DK i⟩) hI y
 refine⟨O',z,⟨q1,λx=>?_⟩,?_⟩
 . rw[q2,hO.mem,GY];constructor
   . rintro(⟨h1,q,hq,hm⟩|⟨h1,hm⟩)
     . exact⟨h1,q,mL hq,hm⟩
     . exact⟨h1,p,by simp,hm⟩
   . rintro⟨h1,q,hq,hm⟩
     rcases mem_append.mp hq with z|z
     . exact .inl ⟨h1,q,z,hm⟩
     . rw[mE z]at hm;exact .inr ⟨h1,hm⟩
 . have hc:=Kv (k:=k) hp.kd (by have:=hp.len;unfold big;lia);have ec:B3 (A0 fns mt A6 (k + 2)) 1 [.slot 3] [some pc,sD O,y2,sP p,y]= .ok (.lst ((Ee p).map (·.1))) [some pc,sD O,y2,sP p,y]:=HL rfl (λc hc=>by rw[mE hc];rfl) hc rfl;unfold Xf;simp! [Cf,IK.ok,E9,Ah,EF,A8,guards,AW,ec,e]
theorem Q5{k:Nat}{O:List (Iv.P×Iv.P)}{I ks:List Iv.P}(ha:RB I a)(hb:RB I b)(hks:∀q∈ks,RB I q)(hO:OI ks O)(hI:I.length < 64)(y3 y:Option C):∃O' z3 z,OI (ks++[a,b]) O'/\execs (A0 fns mt A6 (k + 2)) mt A6 Xe [some pc,sD O,sP (enc (a,b)),y3,y]= .ok .nx [some pc,sD O',sP (enc (a,b)),z3,z]:=by
 obtain⟨O1,z1,h1,e1⟩:=Kw (k:=k) (pc:=pc) (y2:=some (.p (enc (a,b)))) ha hks hO hI y
 obtain⟨O2,z2,h2,e2⟩:=Kw (k:=k) (pc:=pc) (y2:=some (.p (enc (a,b)))) hb (ks:=ks++[a]) (λq hq=>by
  rcases mem_append.mp hq with z|z
  . exact hks q z
  . rw[mE z];exact ha) h1 hI z1
 refine⟨O2,sP b,z2,by rw[append_assoc]at h2;exact h2,?_⟩
 have ef:forL (.nm 3) [] (execs (A0 fns mt A6 (k + 2)) mt A6 Xf) [a,b] [some pc,sD O,sP (enc (a,b)),y3,y]= .ok .nx [some pc,sD O2,sP (enc (a,b)),sP b,z2]:=by
  rw[CZ];show((execs _ mt A6 Xf [some pc,sD O,sP (enc (a,b)),sP a,y]).bind _)=_;rw[e1,Res.A5];dsimp only;rw[CZ];show((execs _ mt A6 Xf [some pc,sD O1,sP (enc (a,b)),sP b,z1]).bind _)=_;rw[e2,Res.A5];rfl
 unfold Xe;unfold enc at ef ⊢;simp! [Cf,IK.ok,E9,Ah,EF,A8,guards,ef]
theorem Dm{k:Nat}{prs:List (Iv.P×Iv.P)}{I:List Iv.P}(hp:∀pr∈prs,RB I pr.1/\RB I pr.2)(hI:I.length < 64):
 ∃os,(∀x,x∈os↔(∃i,x= .int i)/\∃pr∈prs,x∈pre pr.1\/x∈pre pr.2)/\os.length < 64/\A0 fns mt A6 (k + 3) 4 [.lst (prs.map enc)]= .ok (.lst os) [sL (prs.map enc)]:=by
 let two:List Iv.P->List Iv.P:=λd=>d.flatMap λq=>match q with
  | .tup [a,b]=>[a,b]
  |_=>[]
 let J:List Iv.P->Iv.Env->Prop:=λd ρ=>∃O y2 y3 y4,OI (two d) O/\ρ=[sL (prs.map enc),sD O,y2,y3,y4]
 have two_mem:∀d,(∀q∈d,q∈prs.map enc)->∀p∈two d,RB I p:=by
  intro d hd p hpm;obtain⟨q,hq,hm⟩:=mem_flatMap.mp hpm;obtain⟨pr,hpr,rfl⟩:=mem_map.mp (hd q hq);have hm:p∈[pr.1,pr.2]:=hm;rcases mK hm with z|z
  . rw[z];exact(hp pr hpr).1
  . rw[mE z];exact(hp pr hpr).2
 have turn:∀d x r,d++x::r=prs.map enc->∀ρ,J d ρ->∃ρ1 ρ2 fl,DF (.nm 2) x ρ=some ρ1/\execs (A0 fns mt A6 (k + 2)) mt A6 Xe ρ1= .ok fl ρ2/\(fl= .nx\/fl= .cnt)/\J (d++[x]) ρ2:=by
  intro d x r e ρ ⟨O,y2,y3,y4,hO,hρ⟩;subst hρ;have hx:x∈prs.map enc:=by rw[<-e];simp
  obtain⟨pr,hpr,rfl⟩:=mem_map.mp hx;obtain⟨O',z3,z4,h',et⟩:=Q5 (k:=k) (pc:=.lst (prs.map enc)) (hp pr hpr).1 (hp pr hpr).2 (two_mem d λq hq=>by rw[<-e];exact mL hq) hO hI y3 y4;refine⟨_,_,.nx,rfl,et,.inl rfl,O',sP (enc (pr.1,pr.2)),z3,z4,?_,rfl⟩
  have:two (d++[enc pr])=two d++[pr.1,pr.2]:=by
   show(d++[enc pr]).flatMap _=_;rw[List.flatMap_append];rfl
  rw[this];exact h'
 obtain⟨ρ',⟨O,y2,y3,y4,hO,hρ⟩,e⟩:=Bx (g:=.nm 2) (gs:=[(0,.lst (prs.map enc))]) (J:=J) (λd ρ ⟨O,y2,y3,y4,hO,hρ⟩=>by
  subst hρ;unfold holds A9
  simp) turn (prs.map enc) [] [sL (prs.map enc),sD [],none,none,none] rfl ⟨[],none,none,none,⟨nodup_nil,λx=>by simp[two]⟩,rfl⟩
 subst hρ;obtain⟨ns,n1,n2⟩:=Ju (l:=O.map (·.1)) λx hx=>((hO.mem x).mp hx).1
 have hlen:ns.length < 64:=by
  have:=CD (I:=I) hO.nd λx hx=>by
   obtain⟨⟨i,rfl⟩,p,hpm,hm⟩:=(hO.mem x).mp hx;exact(two_mem _ (λq hq=>hq) p hpm).Ip i hm
  rw[n1,lM]at this
  lia
 refine⟨(sortI ns).map .int,λx=>?_,by rw[lM,Ij];exact hlen,?_⟩
 . have h1:x∈(sortI ns).map .int↔x∈O.map (·.1):=by
    rw[n1,mem_map,mem_map];constructor
    . rintro⟨i,hi,rfl⟩;exact⟨i,FX.mp hi,rfl⟩
    . rintro⟨i,hi,rfl⟩;exact⟨i,FX.mpr hi,rfl⟩
   rw[h1,hO.mem x];constructor
   . rintro⟨h,p,hpm,hm⟩
     refine⟨h,?_⟩;obtain⟨q,hq,hm2⟩:=mem_flatMap.mp hpm;obtain⟨pr,hpr,rfl⟩:=mem_map.mp hq;have hm2:p∈[pr.1,pr.2]:=hm2;refine⟨pr,hpr,?_⟩;rcases mK hm2 with z|z
     . rw[z]at hm;exact .inl hm
     . rw[mE z]at hm;exact .inr hm
   . rintro⟨h,pr,hpr,hm⟩
     refine⟨h,?_⟩;rcases hm with hm|hm
     . exact⟨pr.1,mem_flatMap.mpr ⟨enc pr,mem_map_of_mem hpr,by show pr.1∈[pr.1,pr.2];simp⟩,hm⟩
     . exact⟨pr.2,mem_flatMap.mpr ⟨enc pr,mem_map_of_mem hpr,by show pr.2∈[pr.1,pr.2];simp⟩,hm⟩
 . have e0:∀ρ,ev (A0 fns mt A6 (k + 2)) mt (.AJ [] []) ρ= .ok (.AJ []) ρ:=λρ=>by
    show(den _ _ (.AJ [] [])).v _=_;unfold den;rfl
   have has:BA Xe=[3,4]:=by decide
   have e2:execs (A0 fns mt A6 (k + 2)) mt A6 [S.asg (Tg.nm 1) (T.AJ [] []),S.CW (Tg.nm 2) IK.op [T.var 0] Xe,S.ret (some (T.prim .sorted [T.var 1]))] [sL (prs.map enc),none,none,none,none]= .ok (.ret (.lst ((sortI ns).map .int))) [sL (prs.map enc),sD O,y2,y3,y4]:=by
    simp! [e0,Cf,IK.ok,E9,Ah,EF,A8,guards,has,Tg.slots,e,Aa,Gs,Pj,n2,hlen]
   rw[Aw f4 rfl e2];rfl
end Lk05
namespace Iv
open PySem
variable{L:P->P}
theorem Qx(k:KS L d K){X:P}(h:X∈d):Cz K X=Ew K L X:=by
 unfold Cz;rw[k.ZJ X h];rfl
def ZO(L:P->P)(os:List P)(K σ:List (P×P)):Prop:=∀x,Af σ x=if x∈os/\L x≠x then some (Cz K (L x))else none
variable{ord:List P}{prs:List (P×P)}
theorem Pe{os:List P}(hd:Done U prs A L)(ks:KS L ord K)(hU:HP U)(hos:∀i,P.int i∈U->P.int i∈os)(hσ:ZO L os K σ):
 ∀(n:Nat) (F:P),(pre F).length<=n->F∈U->L F∈ord->Ae σ F=Cz K (L F):=by
 intro n
 induction n with
 |zero=>intro F h;have:=Bu F;lia
 | succ n ih=>
   intro F hn hF hL;have hk:=hU.kd F hF;cases F with
   | int i=>
     rw[DG,hσ]
     by_cases h:L (.int i)= .int i
     . rw[iN (λz=>z.2 h),h];rw[h]at hL;rw[Qx ks hL];rfl
     . rw[iP ⟨hos i hF,h⟩];rfl
   | tup ps=>
     obtain⟨m,r,rfl,hr⟩:=Bj hk;obtain⟨r',e1,e2⟩:=hd.JL m r;rw[Qx ks hL,e1];show Ae σ _= .tup (.str m::r'.map λp=>Cz K (L p))
     have e3:(r'.map λp=>Cz K (L p))=r.map λp=>Cz K (L p):=by
      have:=congrArg (List.map (Cz K)) e2;rw[map_map,map_map]at this;exact this.symm
     rw[e3,AM,AL]
     congr 2
     refine map_congr_left λp hp=>?_
     have hpre:=BM hp;rw[As,lC]at hn;have hn:(AO r).length + 1<=n + 1:=hn;refine ih p (by lia) (hU.cl _ _ hF p hp) ?_;refine ks.cl _ hL _ ?_;rw[e1];show L p∈r'.map L;rw[<-e2];exact mem_map_of_mem hp
   |_=>unfold Al at hk;cases hk
theorem MF{os:List P}(hd:Done U prs A L)(ks:KS L ord K)(ho:Ord L ord U (os.map L))(hU:HP U)(hos:∀i,P.int i∈U->P.int i∈os)(hσ:ZO L os K σ):
 ∀(n:Nat) (F G:P),(pre F).length<=n->F∈U->G∈U->L F=L G->Ae σ F=Ae σ G:=by
 have led:=λF=>Pe (F:=F) hd ks hU hos hσ (n:=(pre F).length) (prs:=prs) (lR)
 have lint:∀i,P.int i∈U->L (.int i)∈ord:=λi hi=>ho.Se _ (mem_map_of_mem (hos i hi))
 intro n
 induction n with
 |zero=>intro F G h;have:=Bu F;lia
 | succ n ih=>
   intro F G hn hF hG hL;have hkF:=hU.kd F hF;have hkG:=hU.kd G hG
   have way:L F∈ord->Ae σ F=Ae σ G:=λh=>by
    rw[led F hF h,led G hG (hL▸h),hL]
   cases F with
   |int i=>exact way (lint i hF)
   | tup ps=>
     obtain⟨m,r,rfl,hr⟩:=Bj hkF;cases G with
     |int j=>exact way (hL▸lint j hG)
     | tup qs=>
       obtain⟨m',s,rfl,hs⟩:=Bj hkG;obtain⟨r',e1,e2⟩:=hd.JL m r;obtain⟨s',e3,e4⟩:=hd.JL m' s;rw[e1,e3]at hL;injection hL with hL
       injection hL with hL1 hL2
       injection hL1 with hL1
       subst hL1 hL2;have hrs:r.map L=s.map L:=e2.trans e4.symm;rw[AM,AM,AL,AL]
       congr 2
       have clF:=hU.cl _ _ hF;have clG:=hU.cl _ _ hG;rw[As,lC]at hn;replace hn:(AO r).length + 1<=n + 1:=hn;clear e1 e2 e3 e4 hF hG way hkF hkG hr hs
       induction r generalizing s with
       | nil=>
         cases s with
         |nil=>rfl
         |cons _ _=>cases hrs
       | cons a r ihr=>
         cases s with
         |nil=>cases hrs
         | cons b s=>
           rw[map_cons,map_cons]at hrs ⊢;injection hrs with h1 h2
           rw[Ag,lA]at hn;rw[ih a b (by lia) (clF a mS) (clG b mS) h1,ihr s h2 (λq hq=>clF q (mC hq)) (λq hq=>clG q (mC hq)) (by lia)]
     |_=>unfold Al at hkG;cases hkG
   |_=>unfold Al at hkF;cases hkF
variable{cf:CF}{mt:MT}
theorem Mz(m:Str)(o:T)(ts:List T)(ρ:Env):tv cf mt (.Bs m o ts) ρ=(ev cf mt (.Bs m o ts) ρ).bind λc ρ=>Res.of (D2 c) ρ:=by
 have:tv cf mt (.Bs m o ts) ρ=((ev cf mt (.Bs m o ts) ρ).bind λc ρ=>.ok (Hd.BG c) ρ).bind λh ρ=>Res.of ((h.cont ρ).bind D2) ρ:=by
  show(den cf mt (.Bs m o ts)).b ρ=(((den cf mt (.Bs m o ts)).v ρ).bind _).bind _;unfold den;rfl
 rw[this];cases ev cf mt (.Bs m o ts) ρ<;>rfl
theorem FH{f i j:Nat}{c1 c2:C}{ρ:Env}(h1:A9 ρ i=some c1)(h2:A9 ρ j=some c2)(k1:c1.cp=false)(k2:c2.cp=false)(hij:i≠j)(e:cf f [c1,c2]= .ok c [some c1',some c2']):B3 cf f [.slot i,.slot j] ρ= .ok c ((((ρ.set i none).set j none).set i (some c1')).set j (some c2')):=by
 unfold B3
 have ec:AB ρ [.slot i,.slot j]=some [c1,c2]:=by
  show((A9 ρ i).bind λc=>((A9 ρ j).bind λd=>(some []).map (d::·)).map (c::·))=_;rw[h1,h2];rfl
 have hl:Cp [.slot i,.slot j] [c1,c2]=[i,j]:=by
  rw[BN,BN,k1,k2];rfl
 have hg:A8 [.slot i,.slot j] [c1,c2]=true:=by
  unfold A8;simp
 rw[ec];dsimp only;rw[hl,hg,iP ⟨by simp[hij],rfl⟩,e];have hle:lend ρ [.slot i,.slot j] [c1,c2]=(ρ.set i none).set j none:=by unfold lend;rw[hl];rfl
 rw[hle];dsimp only
 have hb:back ((ρ.set i none).set j none) [.slot i,.slot j] [c1,c2] [some c1',some c2']=some ((((ρ.set i none).set j none).set i (some c1')).set j (some c2')):=by
  unfold back;rw[k1];show back _ [.slot j] [c2] [some c2']=_;unfold back;rw[k2];show back _ [] [] []=_;unfold back;rfl
 rw[hb];rfl
end Iv
namespace Lk05
open Iv PySem
noncomputable def UU:List S:=[S.asg (Tg.nm 7) (T.Bs "leader_of" (T.var 1) [T.var 6]),
    S.ifs (T.prim O.ne [T.var 7,T.var 6]) [S.Dx (T.var 5) (T.var 6) (T.prim O.idx [T.var 4,T.var 7])] []]
noncomputable def bU:List S:=[S.asg (Tg.nm 4) (T.call 3 [T.var 1,T.var 3]),S.asg (Tg.nm 5) (T.AJ [] []),S.CW (Tg.nm 6) IK.op [T.var 2] UU,S.ret (some (T.var 5))]
noncomputable def b9:List S:=S.asg (Tg.nm 2) (T.call 4 [T.var 0])::S.asg (Tg.nm 3) (T.call 2 [T.var 1,T.var 2])::
 S.ifs (T.prim O.is [T.var 3,T.cst P.AG]) [S.ret (some (T.cst P.AG))] []::bU
def OH:T:=T.Bs {cps:=#[106,111,105,110,95,97,108,108]} (T.var 1) [T.var 0]
def Wu:List S:=S.asg (Tg.nm 1) (T.make 2 [])::S.ifs (T.not OH) [S.ret (some (T.cst P.AG))] []::b9
theorem f5:fns[5]? =some ⟨1,8,Wu⟩:=by kernel_rfl
theorem TU{k:Nat}{os:List Iv.P}{L:Iv.P->Iv.P}{pc:C}{y3:Option C}(hU:HP U)(g:Gr U A L)(hos:∀o∈os,o∈U)(hK:∀o∈os,∃v,Af K (L o)=some v)(hl:os.length < 64):
 ∃A' σ z6 z7,Gr U A' L/\ZO L os K σ/\forL (.nm 6) [(2,.lst os)] (execs (A0 fns mt A6 (k + 1)) mt A6 UU) os [some pc,some (Ar A),sL os,y3,sD K,sD [],none,none]= .ok .nx [some pc,some (Ar A'),sL os,y3,sD K,sD σ,z6,z7]:=by
 let J:List Iv.P->Iv.Env->Prop:=λd ρ=>∃A' σ z6 z7,Gr U A' L/\ZO L d K σ/\σ.length<=d.length/\ρ=[some pc,some (Ar A'),sL os,y3,sD K,sD σ,z6,z7]
 have turn:∀d x r,d++x::r=os->∀ρ,J d ρ->∃ρ1 ρ2 fl,DF (.nm 6) x ρ=some ρ1/\execs (A0 fns mt A6 (k + 1)) mt A6 UU ρ1= .ok fl ρ2/\(fl= .nx\/fl= .cnt)/\J (d++[x]) ρ2:=by
  intro d x r e ρ ⟨A1,σ,z6,z7,g1,hσ,hsl,hρ⟩;subst hρ;have hxo:x∈os:=by rw[<-e];simp
  have hxU:=hos x hxo;have BV:d.length < 64:=by rw[<-e,lA]at hl;lia
  obtain⟨A2,g2,_,hLU,el⟩:=Jq (k:=k) (i:=1) (j:=6) (F:=x) (ρ:=[some pc,some (Ar A1),sL os,y3,sD K,sD σ,sP x,z7]) g1 hU hxU rfl rfl;have heq:GC (L x) x=some (decide (L x=x)):=R5 (Dn (hU.kd _ hLU)) (Dn (hU.kd _ hxU)) (by have:=hU.dp _ hLU;lia) (by have:=hU.dp _ hxU;lia);obtain⟨v,hv⟩:=hK x hxo;have hkx:=hU.key x hxU;have hkL:=hU.key _ hLU;have hsb:σ.length < big:=by unfold big;lia
  have hkv:Cz K (L x)=v:=by unfold Cz;rw[hv];rfl
  by_cases h:L x=x
  . refine⟨_,[some pc,some (Ar A2),sL os,y3,sD K,sD σ,sP x,sP (L x)],.nx,rfl,?_,.inl rfl,A2,σ,_,_,g2,λy=>?_,by rw[lA];lia,rfl⟩
    . show execs _ mt A6 UU [some pc,some (Ar A1),sL os,y3,sD K,sD σ,sP x,z7]=_;unfold UU;rw[B0 el];rw[decide_eq_true h]at heq;simp! [Aa,AK,E7,heq]
    . rw[hσ y]
      by_cases hy:y∈d
      . simp[hy]
      . by_cases hyx:y=x
        . subst hyx;simp[h]
        . simp[hy,hyx]
  . refine⟨_,[some pc,some (Ar A2),sL os,y3,sD K,sD (dput σ x v),sP x,sP (L x)],.nx,rfl,?_,.inl rfl,A2,dput σ x v,_,_,g2,λy=>?_,?_,rfl⟩
    . show execs _ mt A6 UU [some pc,some (Ar A1),sL os,y3,sD K,sD σ,sP x,z7]=_;unfold UU;rw[B0 el];rw[dF h]at heq;simp! [Aa,AK,E7,heq,AV,BS,Dz,BH,Dy,hkx,hkL,hsb,AN,hv]
    . rw[Am,hσ y]
      by_cases hyx:y=x
      . subst hyx;simp[h,hkv]
      . by_cases hy:y∈d
        . simp[hyx,hy]
        . simp[hyx,hy]
    . have:=Cr σ x v;rw[lA,lS]
      lia
 obtain⟨ρ',⟨A',σ,z6,z7,g',h',_,hρ⟩,e⟩:=Bx (g:=.nm 6) (gs:=[(2,.lst os)]) (J:=J) (λd ρ ⟨A',σ,z6,z7,_,_,_,hρ⟩=>by
  subst hρ;unfold holds A9
  simp) turn os [] [some pc,some (Ar A),sL os,y3,sD K,sD [],none,none] rfl ⟨A,[],none,none,g,λx=>by simp[Ei],lR,rfl⟩
 subst hρ;exact⟨A',σ,z6,z7,g',h',e⟩
end Lk05
namespace Iv
open PySem
mutual
theorem KP:∀(p:P),Al p=true->AS p=true
 | .int _,_=>by unfold AS;rfl
 | .AG,h=>by unfold Al at h;cases h
 | .bl _,h=>by unfold Al at h;cases h
 | .str _,h=>by unfold Al at h;cases h
 | .fn _,h=>by unfold Al at h;cases h
 | .tup ps,h=>by
   unfold Al at h;unfold AS;exact Oj ps h
theorem Oj:∀(ps:List P),Cq ps=true->BZ ps=true
 |[],h=>by unfold Cq at h;cases h
 | p ::r,h=>by
   cases p with
   | str x=>
     unfold Cq at h;unfold BZ;rw[Ir r h];unfold AS;rfl
   |_=>unfold Cq at h;cases h
theorem Ir:∀(ps:List P),CP ps=true->BZ ps=true
 |[],_=>by unfold BZ;rfl
 | p::r,h=>by
   rw[Bb,bA]at h;unfold BZ;rw[KP p h.1,Ir r h.2];rfl
end
theorem Qt{p:P}(h:Al p=true)(hd:p.depth<=8):keyOk p=true:=by
 unfold keyOk flat;rw[KP p h,decide_eq_true hd];cases p with
 |str x=>unfold Al at h;cases h
 |_=>rfl
theorem CN(p:P):p∈pre p:=by
 cases p with
 |tup ps=>rw[As];exact mS
 |_=>unfold pre;exact mS
theorem BI{x:P}:∀{l:List P},x∈AO l↔∃p∈l,x∈pre p
 |[]=>by rw[AI];simp
 |p::l=>by rw[Ag,mem_append,BI (l:=l)];simp
theorem D1(ps:List P):(P.tup ps).depth=P.Ao ps + 1:=rfl
theorem BD(p:P)(l:List P):P.Ao (p::l)=max p.depth (P.Ao l):=rfl
theorem DM{n:Nat}:∀{l:List P},(∀p∈l,p.depth<=n)->P.Ao l<=n
 |[],_=>by unfold P.Ao;exact Nat.zero_le _
 | p::l,h=>by
   rw[BD];exact Nat.max_le.mpr ⟨h p mS,DM λq hq=>h q (mC hq)⟩
theorem De:∀{l:List P} {p:P},p∈l->p.depth<=P.Ao l
 |[],p,h=>by cases h
 | q::l,p,h=>by
   rw[BD];rcases mK h with z|z
   . rw[z];exact Nat.le_max_left _ _
   . exact Nat.le_trans (De z) (Nat.le_max_right _ _)
theorem PF:∀(n:Nat) (p:P),(pre p).length<=n->∀q∈pre p,q.depth<=p.depth/\∀x r,q= .tup (x::r)->∀s∈r,s∈pre p:=by
 intro n
 induction n with
 |zero=>intro p h;have:=Bu p;lia
 | succ n ih=>
   intro p hn q hq;cases p with
   | tup ps=>
     rw[As]at hq hn ⊢;rw[lC]at hn;rcases mK hq with z|z
     . rw[z];refine⟨lR,λx r e s hs=>?_⟩;injection e with e
       subst e;exact mC (BI.mpr ⟨s,hs,CN s⟩)
     . obtain⟨t,ht,hm⟩:=BI.mp z;have hlt:=BM ht;obtain⟨h1,h2⟩:=ih t (by lia) q hm;refine⟨?_,λx r e s hs=>mC (BI.mpr ⟨t,ht,h2 x r e s hs⟩)⟩;have:=De (List.mem_of_mem_tail ht);rw[D1]
       lia
   | _=>
     unfold pre at hq;rw[mE hq];exact⟨lR,λx r e=>by cases e⟩
mutual
theorem CH:∀(p:P),Al p=true->p.depth<=(pre p).length
 | .int _,_=>Nat.zero_le _
 | .AG,h=>by unfold Al at h;cases h
 | .bl _,h=>by unfold Al at h;cases h
 | .str _,h=>by unfold Al at h;cases h
 | .fn _,h=>by unfold Al at h;cases h
 | .tup ps,h=>by
   rw[D1,As,lC];unfold Al at h;have:=Mi ps h
   lia
theorem Mi:∀(ps:List P),Cq ps=true->P.Ao ps<=(AO ps.tail).length
 |[],h=>by unfold Cq at h;cases h
 | p ::r,h=>by
   cases p with
   | str x=>
     unfold Cq at h;rw[BD,tail_cons];have:=HB r h;have h0:(P.str x).depth=0:=by unfold P.depth;rfl
     lia
   |_=>unfold Cq at h;cases h
theorem HB:∀(ps:List P),CP ps=true->P.Ao ps<=(AO ps).length
 |[],_=>by unfold P.Ao;exact Nat.zero_le _
 | p::r,h=>by
   rw[Bb,bA]at h;rw[BD,Ag,lA];have:=CH p h.1;have:=HB r h.2
   lia
end
structure KG(I:List P)(p:P):Prop where
 kd:Al p=true
 len:(pre p).length<=20
 dp:p.depth<=8
 ar:∀ps,P.tup ps∈pre p->ps.length<=10
 Ip:∀i,P.int i∈pre p->P.int i∈I
def Em(prs:List (P×P)):List P:=prs.flatMap λpr=>pre pr.1++pre pr.2
variable{prs:List (P×P)}
theorem BJ{X:P}:X∈Em prs↔∃pr∈prs,X∈pre pr.1\/X∈pre pr.2:=by
 unfold Em;rw[mem_flatMap];simp only[mem_append]
theorem Lj :∀{prs:List (P×P)},(∀pr∈prs,KG I pr.1/\KG I pr.2)->(Em prs).length<=prs.length * 40
 |[],_=>Nat.zero_le _
 | pr::prs,h=>by
   have:=Lj λq hq=>h q (mC hq)
   have h1:=(h pr mS).1.len;have h2:=(h pr mS).2.len;show(((pre pr.1++pre pr.2)++Em prs)).length<=_;rw[lA,lA,lC]
   lia
theorem NC(h:∀pr∈prs,KG I pr.1/\KG I pr.2)(hl:prs.length<=50):HP (Em prs):=by
 have one:∀X∈Em prs,∃p,KG I p/\X∈pre p/\∀Y∈pre p,Y∈Em prs:=λX hX=>by
  obtain⟨pr,hpr,hm⟩:=BJ.mp hX;rcases hm with hm|hm
  . exact⟨pr.1,(h pr hpr).1,hm,λY hY=>BJ.mpr ⟨pr,hpr,.inl hY⟩⟩
  . exact⟨pr.2,(h pr hpr).2,hm,λY hY=>BJ.mpr ⟨pr,hpr,.inr hY⟩⟩
 have dp:∀X∈Em prs,X.depth<=8:=λX hX=>by
  obtain⟨p,kp,hm,_⟩:=one X hX;have:=(PF _ p (lR) X hm).1;have:=kp.dp
  lia
 have kd:∀X∈Em prs,Al X=true:=λX hX=>by
  obtain⟨p,kp,hm,_⟩:=one X hX;exact LF p kp.kd X hm
 refine⟨λX hX=>Qt (kd X hX) (dp X hX),kd,λx r hX q hq=>?_,λps hX=>?_,dp,?_⟩
 . obtain⟨p,kp,hm,hall⟩:=one _ hX;exact hall q ((PF _ p (lR) _ hm).2 x r rfl q hq)
 . obtain⟨p,kp,hm,_⟩:=one _ hX;exact kp.ar ps hm
 . have:=Lj h
   lia
end Iv
namespace Lk05
open Iv PySem
theorem Iw{k:Nat}(hz:O.ok (.list .zip)=true){prs:List (Iv.P×Iv.P)}{I:List Iv.P}(hp:∀pr∈prs,KG I pr.1/\KG I pr.2)(hl:prs.length<=50)(hI:I.length < 64)(hθ:Fits θ prs)(hs:∀X∈Em prs,sz θ X<=60):
 ∃σ,Fits σ prs/\(∀x v,Af σ x=some v->(∃i,x= .int i)/\x∈I/\Al v=true/\Ae θ v=Ae θ x)/\A0 fns mt A6 (k + 4) 5 [.lst (prs.map enc)]= .ok (.AJ σ) [sL (prs.map enc)]:=by
 have hU:=NC hp hl;have hin:∀pr∈prs,pr.1∈Em prs/\pr.2∈Em prs:=λpr hpr=>⟨BJ.mpr ⟨pr,hpr,.inl (CN _)⟩,BJ.mpr ⟨pr,hpr,.inr (CN _)⟩⟩
 obtain⟨A,L,hd,ej⟩:=(Gf (k:=k + 1) hz hU hin (by lia)).resolve_right λ⟨_,h,_⟩=>h θ hθ
 have hu:=hd.Uz θ hθ;have hko:∀{p},KG I p->RB I p:=λh=>⟨h.kd,by have:=h.len;lia,h.Ip⟩
 obtain⟨os,o1,o2,eo⟩:=Dm (k:=k) (prs:=prs) (I:=I) (λpr hpr=>⟨hko (hp pr hpr).1,hko (hp pr hpr).2⟩) hI;have osU:∀o∈os,o∈Em prs:=λo ho=>BJ.mpr ((o1 o).mp ho).2
 have Uos:∀i,Iv.P.int i∈Em prs->Iv.P.int i∈os:=λi hi=>(o1 _).mpr ⟨⟨i,rfl⟩,BJ.mp hi⟩
 obtain⟨A2,ord,g2,ho,el⟩:=(He (k:=k) hU hd.gr osU (by lia)).resolve_right λ⟨_,h,_⟩=>h θ hu
 have hol:ord.length<=2000:=by
  have:=CD ho.nd ho.Gz;have:=hU.len
  lia
 obtain⟨A3,K,g3,ks,hK,ek⟩:=Qq (k:=k) hU g2 ho hu hs hol;have hKo:∀o∈os,∃v,Af K (L o)=some v:=λo h=>⟨_,ks.ZJ _ (ho.Se _ (mem_map_of_mem h))⟩
 obtain⟨A4,σ,z6,z7,g4,hσ,ef⟩:=TU (k:=k + 2) (pc:=.lst (prs.map enc)) (y3:=some (.lst ord)) hU g3 osU hKo o2;refine⟨σ,λpr hpr=>MF hd ks ho hU Uos hσ _ pr.1 pr.2 (lR) (hin pr hpr).1 (hin pr hpr).2 (hd.one pr hpr),λx v hx=>?_,?_⟩
 . rw [hσ]at hx
   by_cases hc:x∈os/\L x≠x
   . rw[iP hc]at hx;cases hx;have hLo:=ho.Se _ (mem_map_of_mem (f:=L) hc.1);obtain⟨⟨i,rfl⟩,pr,hpr,hm⟩:=(o1 x).mp hc.1;refine⟨⟨i,rfl⟩,?_,(hK _ hLo).1,?_⟩
     . rcases hm with hm|hm
       . exact(hp pr hpr).1.Ip i hm
       . exact(hp pr hpr).2.Ip i hm
     . rw[(hK _ hLo).2,hu]
   . rw[iN hc]at hx;cases hx
 . have e0:∀ρ,ev (A0 fns mt A6 (k + 3)) mt (.AJ [] []) ρ= .ok (.AJ []) ρ:=λρ=>by
    show(den _ _ (.AJ [] [])).v _=_;unfold den;rfl
   have em:ev (A0 fns mt A6 (k + 3)) mt (.make 2 []) [sL (prs.map enc),none,none,none,none,none,none,none]= .ok (Ar []) [sL (prs.map enc),none,none,none,none,none,none,none]:=by
    have hm:mt.m 2 (Str.ofString "__init__")=some 17:=by kernel_rfl
    rw[JE,hm];have hi:=N6 (k:=k + 2);simp! [Hc,hi,A8,back,lend]
   have ejj:ev (A0 fns mt A6 (k + 3)) mt OH [sL (prs.map enc),some (Ar []),none,none,none,none,none,none]= .ok (.p (.bl true)) [sL (prs.map enc),some (Ar A),none,none,none,none,none,none]:=by
    unfold OH;rw[Hu _ rfl,DV rfl,Res.A5];exact FH (i:=1) (j:=0) rfl rfl rfl rfl (by decide) ej
   have eoo:ev (A0 fns mt A6 (k + 3)) mt (T.call 4 [T.var 0]) [sL (prs.map enc),some (Ar A),none,none,none,none,none,none]= .ok (.lst os) [sL (prs.map enc),some (Ar A),none,none,none,none,none,none]:=by
    rw[AW];show(An _ _ [T.var 0] _).bind _=_;rw[DV rfl,Res.A5];exact FG (i:=0) rfl rfl rfl (λc hc=>by cases hc) eo rfl
   have ell:ev (A0 fns mt A6 (k + 3)) mt (T.call 2 [T.var 1,T.var 2]) [sL (prs.map enc),some (Ar A),sL os,none,none,none,none,none]= .ok (.lst ord) [sL (prs.map enc),some (Ar A2),sL os,none,none,none,none,none]:=by
    rw[AW];show(An _ _ [T.var 1,T.var 2] _).bind _=_;have:An (A0 fns mt A6 (k + 3)) mt [T.var 1,T.var 2] [sL (prs.map enc),some (Ar A),sL os,none,none,none,none,none]= .ok [.slot 1,.slot 2] [sL (prs.map enc),some (Ar A),sL os,none,none,none,none,none]:=by simp! []
    rw[this,Res.A5];exact FH (i:=1) (j:=2) rfl rfl rfl rfl (by decide) el
   have ekk:ev (A0 fns mt A6 (k + 3)) mt (T.call 3 [T.var 1,T.var 3]) [sL (prs.map enc),some (Ar A2),sL os,sL ord,none,none,none,none]= .ok (.AJ K) [sL (prs.map enc),some (Ar A3),sL os,sL ord,none,none,none,none]:=by
    rw[AW];show(An _ _ [T.var 1,T.var 3] _).bind _=_;have:An (A0 fns mt A6 (k + 3)) mt [T.var 1,T.var 3] [sL (prs.map enc),some (Ar A2),sL os,sL ord,none,none,none,none]= .ok [.slot 1,.slot 3] [sL (prs.map enc),some (Ar A2),sL os,sL ord,none,none,none,none]:=by simp! []
    rw[this,Res.A5];exact FH (i:=1) (j:=3) rfl rfl rfl rfl (by decide) ek
   have has:BA UU=[7]:=by decide
   have e2:execs (A0 fns mt A6 (k + 3)) mt A6 Wu [sL (prs.map enc),none,none,none,none,none,none,none]= .ok (.ret (.AJ σ)) [sL (prs.map enc),some (Ar A4),sL os,sL ord,sD K,none,z6,z7]:=by
    unfold Wu;rw[B0 em]
    have tj:tv (A0 fns mt A6 (k + 3)) mt OH [sL (prs.map enc),some (Ar []),none,none,none,none,none,none]= .ok true [sL (prs.map enc),some (Ar A),none,none,none,none,none,none]:=by
     have:tv (A0 fns mt A6 (k + 3)) mt OH [sL (prs.map enc),some (Ar []),none,none,none,none,none,none]=(ev (A0 fns mt A6 (k + 3)) mt OH [sL (prs.map enc),some (Ar []),none,none,none,none,none,none]).bind λc ρ=>Res.of (D2 c) ρ:=Mz _ _ _ _
     rw[this,ejj];rfl
    have s2:exec (A0 fns mt A6 (k + 3)) mt A6 (S.ifs (T.not OH) [S.ret (some (T.cst P.AG))] []) [sL (prs.map enc),some (Ar []),none,none,none,none,none,none]= .ok .nx [sL (prs.map enc),some (Ar A),none,none,none,none,none,none]:=by
     simp! [tj]
    rw[set_cons_succ,set_cons_zero,Hs s2];unfold b9;rw[B0 eoo];rw[set_cons_succ,set_cons_succ,set_cons_zero,B0 ell]
    have s5:exec (A0 fns mt A6 (k + 3)) mt A6 (S.ifs (T.prim O.is [T.var 3,T.cst P.AG]) [S.ret (some (T.cst P.AG))] []) [sL (prs.map enc),some (Ar A2),sL os,sL ord,none,none,none,none]= .ok .nx [sL (prs.map enc),some (Ar A2),sL os,sL ord,none,none,none,none]:=by
     simp! [Aa,AK]
    rw[set_cons_succ,set_cons_succ,set_cons_succ,set_cons_zero,Hs s5];unfold bU;rw[B0 ekk];simp! [e0,Cf,IK.ok,E9,Ah,EF,A8,guards,has,Tg.slots,ef]
   rw[Aw f5 rfl e2];rfl
end Lk05
namespace Iv
open PySem
variable{cf:CF}{mt:MT}
theorem GG{f:Nat}{hs:List Hd}{cs:List C}{outs:List (Option C)}{ρ':Env}(ec:AB ρ hs=some cs)(nd:(Cp hs cs).Nodup)(hg:A8 hs cs=true)(e:cf f cs= .ok c outs)(eb:back (lend ρ hs cs) hs cs outs=some ρ'):B3 cf f hs ρ= .ok c ρ':=by
 unfold B3;rw[ec];dsimp only;rw[iP ⟨nd,hg⟩,e];dsimp only;rw[eb];rfl
variable{gs:List (Nat×C)}{cond:Env->Res Bool}{J:Env->Prop}
theorem L9{elt:Env->Res C}{Q:P->Prop}(hg:∀β,J β->holds gs β=true):∀(xs acc:List P) (β:Env),(∀x∈xs,∀β,J β->∃β1 y β',DF g x β=some β1/\cond β1= .ok true β1/\elt β1= .ok (.p y) β'/\Q y/\J β')->J β->∃ys β',J β'/\ys.length=xs.length/\(∀y∈ys,Q y)/\Cv g gs cond elt xs acc β= .ok (acc++ys) β'
 | [],acc,β,_,h=>⟨[],β,h,rfl,λy hy=>(by cases hy),by
   show(if holds gs β then _ else _)=_
   rw[hg β h,append_nil];rfl⟩
 | x ::xs,acc,β,hs,h=>by
   obtain⟨β1,y,β',e1,e2,e3,hq,h'⟩:=hs x mS β h;obtain⟨ys,β2,q1,q2,q3,q4⟩:=L9 hg xs (acc++[y]) β' (λz hz=>hs z (mC hz)) h';refine⟨y::ys,β2,q1,by rw[lC,lC,q2],λz hz=>?_,?_⟩
   . rcases mK hz with w|w
     . rw[w];exact hq
     . exact q3 z w
   . rw[Ek (hg β h) e1 e2 e3];rw[q4,append_assoc];rfl
theorem IE{elt:Env->Res C}{p:P->Bool}(hg:∀β,J β->holds gs β=true):∀(xs acc:List P) (β:Env),(∀x∈xs,∀β,J β->∃β1,DF g x β=some β1/\cond β1= .ok (p x) β1/\elt β1= .ok (.p x) β1/\J β1)->J β->∃β',J β'/\Cv g gs cond elt xs acc β= .ok (acc++xs.filter p) β'
 | [],acc,β,_,h=>⟨β,h,by
   show(if holds gs β then _ else _)=_
   rw[hg β h,List.filter_nil,append_nil];rfl⟩
 | x ::xs,acc,β,hs,h=>by
   obtain⟨β1,e1,e2,e3,h'⟩:=hs x mS β h
   have un:Cv g gs cond elt (x::xs) acc β=Cv g gs cond elt xs (if p x then acc++[x]else acc) β1:=by
    cases hp:p x with
    |true=>rw[hp]at e2;exact Ek (hg β h) e1 e2 e3
    | false=>
      rw[hp]at e2
      conv=>lhs;unfold Cv
      rw[iP (hg β h),e1,Res.Je,Res.A5,e2,Res.A5];rfl
   rw[un];obtain⟨β',q1,q2⟩:=IE hg xs (if p x then acc++[x]else acc) β1 (λz hz=>hs z (mC hz)) h';refine⟨β',q1,?_⟩;rw[q2];cases hp:p x with
   |false=>rw[List.filter_cons_of_neg (by rw[hp];exact Bool.false_ne_true)];rfl
   |true=>rw[List.filter_cons_of_pos hp,iP rfl,append_assoc];rfl
theorem G7(a b:Str):(a++b).length=a.length + b.length:=by
 show(a.cps++b.cps).size=_;simp[Str.length]
theorem Tz{x:Str}{i:Int}(hb:x.length<=big)(h0:0<=i)(h1:i < x.length):∃c,AN (.p (.str x)) (.p (.int i))=some (.p (sign c)):=by
 unfold AN C.nf;dsimp only;rw[iP hb];unfold FN;rw[iP h0,iP h1];have hl:x.cps.toList.length=x.length:=by simp[Str.length]
 have:i.toNat < x.cps.toList.length:=by rw[hl];lia
 exact⟨x.cps.toList[i.toNat],by show(x.cps.toList[i.toNat]?).map _=_;rw[List.getElem?_eq_getElem this];rfl⟩
end Iv
namespace Lk05
open Iv PySem
noncomputable def Jh:Str:={cps:=#[97,98,99,100,101,102,103,104,105,106,107,108,109,110,111,112,113,114,115,116,117,118,119,120,121,122]}
noncomputable def Zu:List S:=[S.asg (Tg.nm 2) (T.prim O.add [T.var 2,T.prim O.idx [T.var 1,T.prim O.mod [T.prim O.fdiv [T.var 0,T.prim O.add [T.cst (P.int 8),T.prim O.mul [T.cst (P.int 3),T.var 3]]],T.cst (P.int 26)]]])]
noncomputable def Zt:T:=T.prim O.add [T.prim O.add [T.prim (O.Gj false true) [T.var 5,T.var 2],T.prim O.idx [T.var 4,T.prim O.mod [T.prim O.add [T.prim O.fdiv [T.var 3,T.cst (P.int 512)],T.var 1],T.cst (P.int 26)]]],T.prim (O.Gj true false) [T.var 5,T.var 2]]
def aN:T:=T.comp (Tg.nm 1) IK.Et [T.cst (P.int 6)] [] Zt [none,none,some 4,some 0,some 1,some 2]
noncomputable def aL:List S:=[S.asg (Tg.nm 1) (T.cst (P.str Jh)),S.asg (Tg.nm 2) (T.cst (P.str {cps:=#[]})),
 S.CW (Tg.nm 3) IK.Et [T.prim O.mod [T.var 0,T.cst (P.int 8)]] Zu,
 S.asg (Tg.nm 4) (T.prim O.mod [T.prim O.fdiv [T.var 0,T.cst (P.int 64)],T.prim O.add [T.prim O.len [T.var 2],T.cst (P.int 1)]]),
 S.ret (some aN)]
theorem f7:fns[7]? =some ⟨1,5,aL⟩:=by kernel_rfl
variable{cf:CF}
theorem Wa{i:Int}(h0:0<=i)(h1:i < 26):∃c,AN (.p (.str Jh)) (.p (.int i))=some (.p (sign c)):=Tz (by show 26<=big;unfold big;lia) h0 h1
theorem T5{j:Int}{x:Str}{y4:Option C}(h0:0<=j)(h1:j < 8)(hx:x.length<=100):∃s,s.length=x.length + 1/\execs cf mt A6 Zu [sP (.int c),sP (.str Jh),sP (.str x),sP (.int j),y4]= .ok .nx [sP (.int c),sP (.str Jh),sP (.str s),sP (.int j),y4]:=by
 obtain⟨s,hs⟩:=Wa (i:=c / (8 + 3 * j) % 26) (Int.emod_nonneg _ (by lia)) (Int.emod_lt_of_pos _ (by lia));refine⟨x++⟨#[s]⟩,by rw[G7];rfl,?_⟩;have hm:Ha 3 j=some (3 * j):=by unfold Ha;rw[iP (.inl (by lia))]
 have hd:AY c (8 + 3 * j)=some (c / (8 + 3 * j)):=by unfold AY;rw[iP (by lia)]
 have hl:x.length + (⟨#[s]⟩:Str).length<=big:=by show x.length + 1<=big;unfold big;lia
 have hmm:mulC (.p (.int 3)) (.p (.int j))=some (.p (.int (3 * j))):=by
  unfold mulC;simp[AR,hm]
 have hadd:C7 (.p (.str x)) (.p (sign s))=some (.p (.str (x++⟨#[s]⟩))):=by
  unfold sign;show(if x.length + (⟨#[s]⟩:Str).length<=big then _ else _)=_;rw[iP hl]
 have ha8:C7 (.p (.int 8)) (.p (.int (3 * j)))=some (.p (.int (8 + 3 * j))):=rfl;unfold Zu;simp! [Aa,hmm,ha8,AR,hd,B2,hs,hadd]
theorem WA{x:Str}{i:Int}(hb:x.length<=big)(h0:0<=i)(h1:i<=x.length):∃y,y.length<=x.length/\Dw (.p (.str x)) none (some i)=some (.p (.str y)):=by
 refine⟨⟨(x.cps.toList.take i.toNat).toArray⟩,by simp[Str.length];lia,?_⟩;unfold Dw C.nf IY;dsimp only;rw[iP ⟨h0,h1,hb⟩];rfl
theorem WB{x:Str}{i:Int}(hb:x.length<=big)(h0:0<=i)(h1:i<=x.length):∃y,y.length<=x.length/\Dw (.p (.str x)) (some i) none=some (.p (.str y)):=by
 refine⟨⟨(x.cps.toList.drop i.toNat).toArray⟩,by simp[Str.length],?_⟩;unfold Dw C.nf IY;dsimp only;rw[iP ⟨h0,h1,hb⟩];rfl
theorem add_str{x y:Str}(h:x.length + y.length<=1000):C7 (.p (.str x)) (.p (.str y))=some (.p (.str (x++y))):=by
 show(if x.length + y.length<=big then _ else _)=_;rw[iP (by unfold big;lia)]
def RA:Iv.P->Prop:=λp=>∃s:Str,p= .str s
end Lk05
namespace Iv
open PySem
abbrev Tr:=List (Nat×Int)
def C2(q:Nat×Int):P:=.tup [.int (q.1:Nat),.int q.2]
def wt:Tr->Int
 |[]=>0
 |q::t=>1 - (q.1:Int) + wt t
def NO:Tr->Int
 |[]=>0
 |q::t=>(q.1:Int) + NO t
theorem DQ:∀(a b:Tr),wt (a++b)=wt a + wt b
 |[],b=>by show wt b=0 + wt b;lia
 | q::a,b=>by
   show 1 - (q.1:Int) + wt (a++b)=1 - (q.1:Int) + wt a + wt b;rw[DQ a b];lia
theorem Lq:∀(a:Tr),wt a=a.length - NO a
 |[]=>rfl
 | q::a=>by
   show 1 - (q.1:Int) + wt a=_;rw[Lq a,lC];show _=((a.length + 1:Nat):Int) - ((q.1:Int) + NO a)
   lia
theorem ME:∀(a b:Tr),NO (a++b)=NO a + NO b
 |[],b=>by show NO b=0 + NO b;lia
 | q::a,b=>by
   show(q.1:Int) + NO (a++b)=(q.1:Int) + NO a + NO b;rw[ME a b];lia
theorem Lp:∀(a:Tr),wt a.reverse=wt a
 |[]=>rfl
 | q::a=>by
   rw[reverse_cons,DQ,Lp a];show wt a + (1 - (q.1:Int) + 0)=1 - (q.1:Int) + wt a
   lia
structure TI(room:Int)(t:Tr)(l w:Int):Prop where
 l0:0<=l
 sum:NO t + l=room - 1
 wv:w=1 - wt t
 w0:0<=w
 pf:∀a b,t=a++b->b≠[]->wt a<=0
 m3:∀q∈t,q.1<=3
variable{room:Int}
theorem TI.nil(h:1<=room):TI room [] (room - 1) 1:=⟨by lia,by show 0 + (room - 1)=_;lia,rfl,by lia,λa b e hb=>by
 have:=List.append_eq_nil_iff.mp e.symm
 exact absurd this.2 hb,λq hq=>by cases hq⟩
theorem TI.step{m:Nat}{c:Int}(h:TI room t l w)(hw:0 < w)(hm:(m:Int)<=l)(h3:m<=3):TI room (t++[(m,c)]) (l - m) (w - 1 + m):=by
 refine⟨by lia,?_,?_,by lia,λa b e hb=>?_,λq hq=>?_⟩
 . rw[ME];have:=h.sum;show NO t + ((m:Int) + 0) + _=_;lia
 . rw[DQ,h.wv];show _=1 - (wt t + (1 - (m:Int) + 0));lia
 . rcases List.eq_nil_or_concat b with rfl|⟨b',z,rfl⟩
   . exact absurd rfl hb
   . rw[List.concat_eq_append,<-append_assoc]at e;have:=List.append_inj_left' e rfl
     by_cases hb':b'=[]
     . subst hb';rw[append_nil]at this;rw[<-this];have:=h.wv
       lia
     . exact h.pf a b' this hb'
 . rcases mem_append.mp hq with z|z
   . exact h.m3 q z
   . rw[mE z];exact h3
structure FI(t:Tr):Prop where
 sf:∀a b,t=a++b->b≠[]->1<=wt b
 one:wt t=1
theorem IT:∀{b:Tr},(∀q∈b,q.1=0)->wt b=b.length
 |[],_=>rfl
 | q::b,h=>by
   show 1 - (q.1:Int) + wt b=_;rw[IT λq hq=>h q (mC hq),h q mS,lC]
   lia
theorem TI.full{v:Tr}(h:TI room t l w)(hv:∀q∈v,q.1=0)(hl:(v.length:Int)=w):FI (t++v)/\((t++v).length:Int)<=room:=by
 have hwv:=IT hv;refine⟨⟨λa b e hb=>?_,?_⟩,?_⟩
 . rcases List.append_eq_append_iff.mp e with⟨a',e1,e2⟩|⟨c,e1,e2⟩
   . rw[IT λq hq=>hv q (by rw[e2];exact mR hq)];have:=length_pos_iff.mpr hb
     lia
   . by_cases hc:c=[]
     . subst hc;rw[nil_append]at e2;rw[e2,hwv];rw[e2]at hb;have:=length_pos_iff.mpr hb
       lia
     . have h1:=h.pf a c e1 hc;have h2:=h.wv;rw[e1,DQ]at h2;rw[e2,DQ,hwv]
       lia
 . rw[DQ,hwv,hl,h.wv];lia
 . rw[lA];have h1:=h.wv;have h2:=Lq t;have h3:=h.sum;have h4:=h.l0
   lia
structure KQ(p:P):Prop where
 kd:Al p=true
 ar:∀ps,P.tup ps∈pre p->ps.length<=4
 op:∀i,P.int i∈pre p->0<=i/\i < 9
theorem KQ.int{i:Int}(h:0<=i/\i < 9):KQ (.int i):=⟨by unfold Al;rfl,λps hm=>by unfold pre at hm;simp at hm,λj hm=>by
 unfold pre at hm;have:P.int j= .int i:=mE hm
 cases this;exact h⟩
theorem KQ.made{r:List P}(h:∀p∈r,KQ p)(hl:r.length<=3):KQ (.tup (.str x::r)):=by
 refine⟨DL (Ef λp hp=>(h p hp).kd),λps hm=>?_,λi hm=>?_⟩
 . rw[As]at hm;rcases mK hm with z|z
   . cases z;rw[lC];lia
   . obtain⟨p,hp,hm⟩:=BI.mp z;exact(h p hp).ar ps hm
 . rw[As]at hm;rcases mK hm with z|z
   . cases z
   . obtain⟨p,hp,hm⟩:=BI.mp z;exact(h p hp).op i hm
theorem Fi:∀l:List P,(AO l.reverse).length=(AO l).length
 |[]=>rfl
 | p::l=>by
   rw[reverse_cons,B6,lA,Fi l,Ag,Ag,AI,append_nil,lA]
   lia
end Iv
namespace Lk05
open Iv PySem
noncomputable def Wh:List S:=[S.ifs (T.prim O.gt [T.var 5,T.cst (P.int 0)])
 [S.asg (Tg.nm 7) (T.prim O.min [T.var 4,T.prim O.mod [T.prim O.mod [T.var 6,T.cst (P.int 5)],T.cst (P.int 4)]]),
  S.ifs (T.prim O.eq [T.prim O.mod [T.var 6,T.cst (P.int 7)],T.cst (P.int 6)]) [S.asg (Tg.nm 7) (T.cst (P.int 0))] [],
  S.expr (T.F4 MO.append (T.var 3) [T.tup [T.var 7,T.var 6]]),
  S.asg (Tg.nm 4) (T.prim O.sub [T.var 4,T.var 7]),
  S.asg (Tg.nm 5) (T.prim O.add [T.prim O.sub [T.var 5,T.cst (P.int 1)],T.var 7])] []]
noncomputable def Zx:T:=T.comp (Tg.nm 1) IK.Et [T.var 5] [] (T.tup [T.cst (P.int 0),T.prim O.add [T.cst (P.int 6),T.prim O.mul [T.cst (P.int 42),T.var 1]]]) [none,none]
def aU:T:=T.comp (Tg.nm 1) IK.Et [T.var 7] [] (T.F4 MO.pop (T.var 2) []) [none,none,some 8]
noncomputable def Zw:T:=T.prim (O.tuple IK.op) [T.prim O.add [T.lst [T.prim O.idx [T.var 1,T.prim O.add [T.prim O.mod [T.prim O.fdiv [T.var 6,T.cst (P.int 35)],T.cst (P.int 2)],T.prim O.mul [T.cst (P.int 2),T.prim O.min [T.var 7,T.cst (P.int 2)]]]]],T.var 9]]
noncomputable def Xi:List S:=[S.ifs (T.and (T.prim O.eq [T.var 7,T.cst (P.int 0)]) (T.prim O.gt [T.prim O.mod [T.var 6,T.cst (P.int 7)],T.cst (P.int 2)]))
 [S.expr (T.F4 MO.append (T.var 8) [T.prim O.mod [T.prim O.fdiv [T.var 6,T.cst (P.int 7)],T.cst (P.int 9)]])]
 [S.asg (Tg.nm 9) aU,S.expr (T.F4 MO.append (T.var 8) [Zw])]]
noncomputable def aT:List S:=[S.asg (Tg.nm 3) (T.lst []),S.asg (Tg.nm 4) (T.prim O.sub [T.var 2,T.cst (P.int 1)]),S.asg (Tg.nm 5) (T.cst (P.int 1)),
 S.CW (Tg.nm 6) IK.op [T.var 0] Wh,S.asg (Tg.nm 3) (T.prim O.add [T.var 3,Zx]),S.asg (Tg.nm 8) (T.lst []),
 S.CW (Tg.tup [7,6]) IK.rev [T.var 3] Xi,S.ret (some (T.prim O.idx [T.var 8,T.cst (P.int 0)]))]
theorem f8:fns[8]? =some ⟨3,10,aT⟩:=by kernel_rfl
variable{cf:CF}
variable{cc rc:C}{room:Int}
theorem ki_turn{nc:C}{t:Tr}{y7:Option C}(h:TI room t l w)(hl:t.length < 1000):∃t' l' w' z7,TI room t' l' w'/\t'.length<=t.length + 1/\execs cf mt A6 Wh [some cc,some nc,some rc,sL (t.map C2),sP (.int l),sP (.int w),sP (.int c),y7,none,none]= .ok .nx [some cc,some nc,some rc,sL (t'.map C2),sP (.int l'),sP (.int w'),sP (.int c),z7,none,none]:=by
 have hlb:t.length < big:=by unfold big;lia
 by_cases hw:0 < w
 . have hm5:0<=c % 5 % 4/\c % 5 % 4 < 4:=⟨Int.emod_nonneg _ (by lia),Int.emod_lt_of_pos _ (by lia)⟩;have h0:=h.l0;have hmin:Qd l (c % 5 % 4)=some (if c % 5 % 4 < l then c % 5 % 4 else l):=rfl;generalize hmv:(if c % 5 % 4 < l then c % 5 % 4 else l)=mv at hmin;have hmv0:0<=mv/\mv<=l/\mv<=3:=by rw[<-hmv];split<;>lia
   have hmo5:B2 c 5=some (c % 5):=by unfold B2;rw[iP (by lia)]
   have hmo4:B2 (c % 5) 4=some (c % 5 % 4):=by unfold B2;rw[iP (by lia)]
   have hmo7:B2 c 7=some (c % 7):=by unfold B2;rw[iP (by lia)]
   have heq:=eq_int (c % 7) 6
   by_cases h6:c % 7=6
   . rw[decide_eq_true h6]at heq;have st:=h.step (m:=0) (c:=c) hw (by lia) (by lia);refine⟨_,_,_,sP (.int 0),st,by rw[lA];simp,?_⟩;unfold Wh;simp! [Aa,AK,KH,hw,AR,hmo5,hmo4,hmin,hmo7,E7,heq,CL,Bh,hlb,IX,C7,C2]
   . rw[dF h6]at heq;obtain⟨m,rfl⟩:=Int.eq_ofNat_of_zero_le hmv0.1;have st:=h.step (m:=m) (c:=c) hw (by lia) (by lia);refine⟨_,_,_,sP (.int m),st,by rw[lA];simp,?_⟩;unfold Wh;simp! [Aa,AK,KH,hw,AR,hmo5,hmo4,hmin,hmo7,E7,heq,CL,Bh,hlb,IX,C7,C2]
 . refine⟨t,l,w,y7,h,by lia,?_⟩;unfold Wh;simp! [Aa,AK,KH,hw]
theorem Y7:∀(xs H2 H1 acc:List Iv.P) (y:Option C),H2.length=xs.length->∃y',Cv (.nm 1) [] (Ea cf mt []) (ev cf mt (T.F4 MO.pop (T.var 2) [])) xs acc [none,y,sL (H1++H2)]= .ok (acc++H2.reverse) [none,y',sL H1]
 | [],H2,H1,acc,y,h=>by
   have:H2=[]:=length_eq_zero_iff.mp h;subst this;exact⟨y,by rw[append_nil,List.reverse_nil,append_nil];rfl⟩
 | x ::xs,H2,H1,acc,y,h=>by
   rcases List.eq_nil_or_concat H2 with rfl|⟨H,z,rfl⟩
   . cases h
   . rw[List.concat_eq_append]at h ⊢;rw[lA,lS,lC]at h;obtain⟨y',e⟩:=Y7 xs H H1 (acc++[z]) (some (.p x)) (by lia);refine⟨y',?_⟩
     have ep:ev cf mt (T.F4 MO.pop (T.var 2) []) [none,sP x,sL (H1++(H++[z]))]= .ok (.p z) [none,sP x,sL (H1++H)]:=by
      rw[<-append_assoc];simp! [CL,Jn]
     rw[Ek rfl rfl (Cs _) ep];rw[e,append_assoc,List.reverse_append];rfl
structure HI(D:Tr)(H:List Iv.P):Prop where
 len:(H.length:Int)=wt D
 sz:(AO H).length=D.length
 kq:∀h∈H,KQ h
theorem Qv{names:List Iv.P}{tr:Tr}{y4 y5:Option C}{D:Tr}{m:Nat}{c:Int}{y9:Option C}(hn:names.length=6)(hns:∀p∈names,RA p)(h:HI D H)(hw:1<=wt D + 1 - m)(h3:m<=3)(hD:D.length < 1000):
 ∃H' z9,HI (D++[(m,c)]) H'/\execs cf mt A6 Xi [some cc,sL names,some rc,sL (tr.map C2),y4,y5,sP (.int c),sP (.int m),sL H,y9]= .ok .nx [some cc,sL names,some rc,sL (tr.map C2),y4,y5,sP (.int c),sP (.int m),sL H',z9]:=by
 have hHl:H.length<=D.length:=by have:=D7 H;have:=h.sz;lia
 have hHb:H.length < big:=by unfold big;lia
 have hmo7:B2 c 7=some (c % 7):=by unfold B2;rw[iP (by lia)]
 have hfd7:AY c 7=some (c / 7):=by unfold AY;rw[iP (by lia)]
 have hmo9:B2 (c / 7) 9=some (c / 7 % 9):=by unfold B2;rw[iP (by lia)]
 have heq:=eq_int m 0
 by_cases hc:m=0/\2 < c % 7
 . obtain⟨rfl,h2⟩:=hc;refine⟨H++[.int (c / 7 % 9)],y9,⟨?_,?_,λq hq=>?_⟩,?_⟩
   . rw[DQ,lA,lS];have:=h.len;show _=wt D + (1 - ((0:Nat):Int) + 0)
     lia
   . rw[B6,lA,h.sz,lA,Ag,AI,append_nil];unfold pre;rfl
   . rcases mem_append.mp hq with z|z
     . exact h.kq q z
     . rw[mE z];exact KQ.int ⟨Int.emod_nonneg _ (by lia),Int.emod_lt_of_pos _ (by lia)⟩
   . have h0:GC (.int ((0:Nat):Int)) (.int 0)=some true:=by rw[eq_int];rfl
     have h0':GC (.int 0) (.int 0)=some true:=by rw[eq_int];rfl
     unfold Xi;simp! [Aa,AK,E7,h0,h0',AR,hmo7,KH,h2,hfd7,hmo9,CL,Bh,hHb]
 . have hml:m<=H.length:=by have:=h.len;lia
   let H1:=H.take (H.length - m)
   let H2:=H.drop (H.length - m)
   have hH:H=H1++H2:=(List.take_append_drop _ _).symm;have hH2:H2.length=m:=by show(H.drop _).length=m;rw[length_drop];lia
   have hH1:H1.length=H.length - m:=by show(H.take _).length=_;rw[length_take];lia
   have hi0:0<=c / 35 % 2/\c / 35 % 2 < 2:=⟨Int.emod_nonneg _ (by lia),Int.emod_lt_of_pos _ (by lia)⟩;have hmin:Qd (m:Int) 2=some (if(2:Int) < m then(2:Int)else(m:Int)):=rfl;generalize hmv:(if(2:Int) < m then 2 else(m:Int))=mv at hmin;have hmv0:0<=mv/\mv<=2:=by rw[<-hmv];split<;>lia
   have hix:∃j,(c / 35 % 2 + 2 * mv)=((j:Nat):Int)/\j < 6:=by
    obtain⟨j,hj⟩:=Int.eq_ofNat_of_zero_le (show 0<=c / 35 % 2 + 2 * mv by lia);exact⟨j,hj,by lia⟩
   obtain⟨j,hj,hj6⟩:=hix;obtain⟨nm,hnm⟩:=hns names[j] (getElem_mem (by lia))
   have hidx:AN (.lst names) (.p (.int (c / 35 % 2 + 2 * mv)))=some (.p (.str nm)):=by
    rw[hj];unfold AN C.nf;dsimp only;unfold FN;rw[iP (by lia),iP (by lia)];show(names[((j:Nat):Int).toNat]?).map _=_;rw[show((j:Nat):Int).toNat=j by lia,List.getElem?_eq_getElem (by lia),hnm];rfl
   have hfd35:AY c 35=some (c / 35):=by unfold AY;rw[iP (by lia)]
   have hmo2:B2 (c / 35) 2=some (c / 35 % 2):=by unfold B2;rw[iP (by lia)]
   have hmul:mulC (.p (.int 2)) (.p (.int mv))=some (.p (.int (2 * mv))):=by
    have hm:Ha 2 mv=some (2 * mv):=by unfold Ha;rw[iP (.inl (by lia))]
    unfold mulC;simp[AR,hm]
   have hr:(Ad 0 (m:Int)).length=m:=by rw[B9];lia
   obtain⟨y',ep⟩:=Y7 (cf:=cf) (Ad 0 (m:Int)) H2 H1 [] none (by rw[hH2,hr]);rw[nil_append,<-hH]at ep
   have ec:ev cf mt aU [some cc,sL names,some rc,sL (tr.map C2),y4,y5,sP (.int c),sP (.int m),sL H,y9]= .ok (.lst H2.reverse) [some cc,sL names,some rc,sL (tr.map C2),y4,y5,sP (.int c),sP (.int m),sL H1,y9]:=by
    unfold aU;rw[CK];have hb:AD (BX [none,none,some 8] [some cc,sL names,some rc,sL (tr.map C2),y4,y5,sP (.int c),sP (.int m),sL H,y9]) [none,none,some 8] [none,y',sL H1]=[some cc,sL names,some rc,sL (tr.map C2),y4,y5,sP (.int c),sP (.int m),sL H1,y9]:=rfl;have hbig:(Ad 0 (m:Int)).length<=big:=by rw[hr];unfold big;lia
    have hna:m < 2305843009213693952:=by lia
    simp! [IK.ok,DP,Ah,hna,A8,BW,Bv,guards,hbig,Bd,ep,hb,Tg.slots]
   have hup:H2.reverse.length + 1<=big:=by rw[length_reverse,hH2];unfold big;lia
   have hup2:H2.length + 1<=big:=by rw[hH2];unfold big;lia
   have em:ev cf mt Zw [some cc,sL names,some rc,sL (tr.map C2),y4,y5,sP (.int c),sP (.int m),sL H1,sL H2.reverse]= .ok (.p (.tup (.str nm::H2.reverse))) [some cc,sL names,some rc,sL (tr.map C2),y4,y5,sP (.int c),sP (.int m),sL H1,sL H2.reverse]:=by
    have had:C7 (.p (.int (c / 35 % 2))) (.p (.int (2 * mv)))=some (.p (.int (c / 35 % 2 + 2 * mv))):=rfl
    have hal:C7 (.lst [.str nm]) (.lst H2.reverse)=some (.lst (.str nm::H2.reverse)):=by
     show(EE _).map _=_;unfold EE;rw[iP (by rw[lA,lS];lia)];rfl
    unfold Zw;simp! [Aa,AR,hfd35,hmo2,hmin,hmul,had,hidx,hal,E5]
   have hH1b:H1.length < big:=by lia
   refine⟨H1++[.tup (.str nm::H2.reverse)],sL H2.reverse,⟨?_,?_,λq hq=>?_⟩,?_⟩
   . rw[DQ,lA,lS];have:=h.len;show _=wt D + (1 - (m:Int) + 0)
     lia
   . rw[B6,lA,lA,Ag,AI,append_nil,As,lC];have h1:=h.sz;rw[hH,B6,lA]at h1;show(AO H1).length + ((AO H2.reverse).length + 1)=_;rw[Fi];show _=D.length + 1
     lia
   . rcases mem_append.mp hq with z|z
     . exact h.kq q (by rw[hH];exact mL z)
     . rw[mE z];exact KQ.made (λp hp=>h.kq p (by rw[hH];exact mR (mem_reverse.mp hp))) (by rw[length_reverse,hH2];exact h3)
   . have hh1:∀(v:Iv.Env->Res C) (ρ:Iv.Env),BV Zw v ρ=(v ρ).bind λc ρ=>.ok (.BG c) ρ:=λ_ _=>rfl
     unfold Xi
     by_cases hm0:m=0
     . subst hm0;have h2:¬2 < c % 7:=λz=>hc ⟨rfl,z⟩
       have h0':GC (.int 0) (.int 0)=some true:=by rw[eq_int];rfl
       have h0:GC (.int ((0:Nat):Int)) (.int 0)=some true:=by rw[eq_int];rfl
       simp only[Int.cast_ofNat_Int]at ec em ⊢;simp! [Aa,AK,E7,h0',h0,AR,hmo7,KH,h2,ec,hh1,em,CL,Bh,hH1b]
     . have h0:GC (.int (m:Int)) (.int 0)=some false:=by rw[eq_int];exact congrArg some (dF (by lia))
       simp! [Aa,AK,E7,h0,ec,hh1,em,CL,Bh,hH1b]
theorem Oc{k:Nat}(w:Nat)(h5:A9 ρ 5=some (.p (.int (w:Int))))(hw:w<=1000):∃v:Tr,(∀q∈v,q.1=0)/\v.length=w/\ev cf mt Zx ρ= .ok (.lst (v.map C2)) ρ:=by
 let F:Iv.P->Iv.P:=λq=>match q with
  | .int i=>.tup [.int 0,.int (6 + 42 * i)]
  |q=>q
 have he:∀q∈Ad 0 (w:Int),ev cf mt (T.tup [T.cst (P.int 0),T.prim O.add [T.cst (P.int 6),T.prim O.mul [T.cst (P.int 42),T.var 1]]]) [none,sP q]= .ok (.p (F q)) [none,sP q]:=λq hq=>by
  unfold Ad at hq;obtain⟨j,hj,rfl⟩:=mem_map.mp hq;generalize (0 + (j:Int))=i
  have hmul:mulC (.p (.int 42)) (.p (.int i))=some (.p (.int (42 * i))):=by
   have hm:Ha 42 i=some (42 * i):=by unfold Ha;rw[iP (.inl (by lia))]
   unfold mulC;simp[AR,hm]
  have had:C7 (.p (.int 6)) (.p (.int (42 * i)))=some (.p (.int (6 + 42 * i))):=rfl;show _=Res.ok (C.p (.tup [.int 0,.int (6 + 42 * i)])) _;simp! [Aa,hmul,had]
 obtain⟨β2,q1,q2⟩:=EA (g:=.nm 1) (cond:=Ea cf mt []) (elt:=ev cf mt (T.tup [T.cst (P.int 0),T.prim O.add [T.cst (P.int 6),T.prim O.mul [T.cst (P.int 42),T.var 1]]])) (F:=F) (β:=λq=>[none,sP q]) (β0:=[none,none]) (λ_=>rfl) (λ_ _=>rfl) Cs (Ad 0 (w:Int)) [] he [none,none] (.inl rfl);have hr:(Ad 0 (w:Int)).length=w:=by rw[B9];lia
 refine⟨(List.range w).map λ(j:Nat)=>(0,6 + 42 * (0 + (j:Int))),λq hq=>?_,by simp,?_⟩
 . obtain⟨j,_,rfl⟩:=mem_map.mp hq;rfl
 . have hm:(Ad 0 (w:Int)).map F=((List.range w).map λ(j:Nat)=>((0,6 + 42 * (0 + (j:Int))):Nat×Int)).map C2:=by
    unfold Ad;rw[map_map,map_map,show((w:Int) - 0).toNat=w by lia];rfl
   rw[nil_append,hm]at q2;have hbig:(Ad 0 (w:Int)).length<=big:=by rw[hr];unfold big;lia
   have hb:AD (BX [none,none] ρ) [none,none] β2=ρ:=by
    rcases q1 with rfl|⟨y,rfl⟩<;>rfl
   have hna:w < 2305843009213693952:=by lia
   unfold Zx;rw[CK];show(if IK.Et.ok=true then(An cf mt [T.var 5] ρ).bind _ else _)=_;rw[DV h5,Res.A5];have hco:AB ρ [.slot 5]=some [.p (.int (w:Int))]:=by show((A9 ρ 5).bind _)=_;rw[h5];rfl
   unfold DP;rw[hco]
   have hseq:Ah .Et [.p (.int (w:Int))]=some (Ad 0 (w:Int)):=by
    show(if(w:Int).natAbs < 2 ^ 61 then _ else _)=_;rw[iP (by lia)]
   dsimp only;rw[hseq];dsimp only
   have hg:(A8 [.slot 5] [.p (.int (w:Int))] && BW (.nm 1) [none,none] && decide ((Ad 0 (w:Int)).length<=big))=true:=by
    rw[decide_eq_true hbig];rfl
   rw[iP hg];have hbg:Bv [none,none] [.slot 5] [.p (.int (w:Int))]=[]:=rfl;have hbi:Bd [none,none] ρ=[none,none]:=rfl;rw[hbg,hbi,q2];show(if IK.Et.ok=true then Res.ok (C.lst _) (AD (BX [none,none] ρ) [none,none] β2)else _)=_;rw[hb];rfl
theorem N3{k:Nat}{cs:List Int}{names:List Iv.P}(hn:names.length=6)(hns:∀p∈names,RA p)(hr:1<=room)(hr2:room<=100)(hcs:cs.length<=100):
 ∃q,KQ q/\((pre q).length:Int)<=room/\A0 fns mt A6 (k + 1) 8 [.lst (cs.map .int),.lst names,.p (.int room)]= .ok (.p q) [sL (cs.map .int),sL names,sP (.int room)]:=by
 let J:List Iv.P->Iv.Env->Prop:=λd ρ=>∃t l w y6 y7,TI room t l w/\t.length<=d.length/\ρ=[sL (cs.map .int),sL names,sP (.int room),sL (t.map C2),sP (.int l),sP (.int w),y6,y7,none,none]
 obtain⟨ρ',⟨t,l,w,y6,y7,ht,htl,hρ⟩,e⟩:=Bx (g:=.nm 6) (gs:=[(0,.lst (cs.map .int))]) (b:=execs (A0 fns mt A6 k) mt A6 Wh) (J:=J) (all:=cs.map .int) (λd ρ ⟨t,l,w,y6,y7,_,_,hρ⟩=>by
  subst hρ;unfold holds A9;simp) (λd q r e ρ ⟨t,l,w,y6,y7,ht,htl,hρ⟩=>by
  subst hρ;have hq:q∈cs.map .int:=by rw[<-e];simp
  obtain⟨c,_,rfl⟩:=mem_map.mp hq
  have BV:d.length<=100:=by
   have:=congrArg List.length e;rw[lA,lM]at this
   lia
  obtain⟨t',l',w',z7,h1,h2,h3⟩:=ki_turn (cf:=A0 fns mt A6 k) (cc:=.lst (cs.map .int)) (nc:=.lst names) (rc:=.p (.int room)) (c:=c) (y7:=y7) ht (by lia)
  exact⟨_,_,.nx,rfl,h3,.inl rfl,t',l',w',_,_,h1,by rw[lA,lS];lia,rfl⟩) (cs.map .int) [] [sL (cs.map .int),sL names,sP (.int room),sL [],sP (.int (room - 1)),sP (.int 1),none,none,none,none] rfl ⟨[],room - 1,1,none,none,TI.nil hr,lR,rfl⟩
 subst hρ;obtain⟨wn,rfl⟩:=Int.eq_ofNat_of_zero_le ht.w0
 have hwn:wn<=1000:=by
  have h1:=ht.wv;have h2:=Lq t;have h3:=ht.sum;have h4:=ht.l0
  lia
 obtain⟨v,hv,hvl,ev1⟩:=Oc (k:=k) (cf:=A0 fns mt A6 k) wn (ρ:=[sL (cs.map .int),sL names,sP (.int room),sL (t.map C2),sP (.int l),sP (.int (wn:Int)),y6,y7,none,none]) rfl hwn;obtain⟨hf,hfl⟩:=ht.full hv (by lia)
 have hv3:∀q∈t++v,q.1<=3:=λq hq=>by
  rcases mem_append.mp hq with z|z
  . exact ht.m3 q z
  . rw[hv q z];lia
 generalize hfull:t++v=full at *
 let J2:List Iv.P->Iv.Env->Prop:=λd ρ=>∃D:Tr,∃H y6 y7 y9,d=D.map C2/\HI D H/\ρ=[sL (cs.map .int),sL names,sP (.int room),sL (full.map C2),sP (.int l),sP (.int (wn:Int)),y6,y7,sL H,y9]
 obtain ⟨ρ',⟨D,H,y6',y7',y9',hD,hH,hρ⟩,e'⟩:=Bx (g:=.tup [7,6]) (gs:=[(3,.lst (full.map C2))]) (b:=execs (A0 fns mt A6 k) mt A6 Xi) (J:=J2) (all:=(full.map C2).reverse) (λd ρ ⟨D,H,y6,y7,y9,_,_,hρ⟩=>by
  subst hρ;unfold holds A9;simp) (λd q r e ρ ⟨D,H,y6,y7,y9,hD,hH,hρ⟩=>by
  subst hρ;rw[<-List.map_reverse]at e
  have hsp:∃mc r',full.reverse=D++mc::r'/\q=C2 mc:=by
   rw[hD]at e;have:=e.symm;obtain⟨a,b,e1,e2,e3⟩:=List.map_eq_append_iff.mp this;obtain⟨mc,r',e4,e5,e6⟩:=List.map_eq_cons_iff.mp e3
   have hinj:∀{x y:Tr},x.map C2=y.map C2->x=y:=by
    intro x
    induction x with
    | nil=>
      intro y h;cases y with
      |nil=>rfl
      |cons _ _=>cases h
    | cons a x ih=>
      intro y h;cases y with
      |nil=>cases h
      | cons b y=>
        rw[map_cons,map_cons]at h;injection h with h1 h2
        have h1:Iv.P.tup [.int (a.1:Nat),.int a.2]= .tup [.int (b.1:Nat),.int b.2]:=h1;injection h1 with h1
        injection h1 with h3 h4
        injection h3 with h3
        injection h4 with h4 _
        injection h4 with h4
        rw[ih h2,show a=b from Prod.ext (by lia) h4]
   exact⟨mc,r',by rw[e1,e4,hinj e2],e5.symm⟩
  obtain⟨⟨m,c⟩,r',e1,rfl⟩:=hsp
  have hsuf:full=r'.reverse++(D++[(m,c)]).reverse:=by
   have:=congrArg List.reverse e1;rw[reverse_reverse]at this;rw[this];simp
  have hw:=hf.sf _ _ hsuf (by simp);rw[Lp,DQ]at hw;have hw:1<=wt D + (1 - (m:Int) + 0):=hw;have hm3:=hv3 (m,c) (by rw[hsuf];simp)
  have hDl:D.length < 1000:=by
   have:=congrArg List.length hsuf;rw[lA,length_reverse,length_reverse,lA]at this
   lia
  obtain⟨H',z9,h1,h2⟩:=Qv (cf:=A0 fns mt A6 k) (cc:=.lst (cs.map .int)) (rc:=.p (.int room)) (tr:=full) (y4:=some (.p (.int l))) (y5:=some (.p (.int (wn:Int)))) (c:=c) (y9:=y9) hn hns hH (by lia) hm3 hDl
  exact⟨_,_,.nx,rfl,h2,.inl rfl,D++[(m,c)],H',_,_,_,by rw[hD,map_append];rfl,h1,rfl⟩) (full.map C2).reverse [] [sL (cs.map .int),sL names,sP (.int room),sL (full.map C2),sP (.int l),sP (.int (wn:Int)),y6,y7,sL [],none] rfl ⟨[],[],y6,y7,none,rfl,⟨rfl,rfl,λh hh=>by cases hh⟩,rfl⟩
 subst hρ
 have hDw:wt D=1/\D.length=full.length:=by
  have h1:(full.map C2).reverse=D.map C2:=hD;have hl:=congrArg List.length h1;rw[length_reverse,lM,lM]at hl;refine⟨?_,hl.symm⟩;rw[<-List.map_reverse]at h1
  have hws:∀{x y:Tr},x.map C2=y.map C2->wt x=wt y:=by
   intro x
   induction x with
   | nil=>
     intro y h;cases y with
     |nil=>rfl
     |cons _ _=>cases h
   | cons a x ih=>
     intro y h;cases y with
     |nil=>cases h
     | cons b y=>
       rw[map_cons,map_cons]at h;injection h with h1 h2
       have h1:Iv.P.tup [.int (a.1:Nat),.int a.2]= .tup [.int (b.1:Nat),.int b.2]:=h1;injection h1 with h1
       injection h1 with h3 h4
       injection h3 with h3
       show 1 - (a.1:Int) + wt x=1 - (b.1:Int) + wt y;rw[ih h2]
       lia
  rw[<-hws h1,Lp];exact hf.one
 have hH1:H.length=1:=by have:=hH.len;lia
 obtain⟨q,rfl⟩:=List.length_eq_one_iff.mp hH1;have hsz:=hH.sz;rw[Ag,AI,append_nil]at hsz;refine⟨q,hH.kq q mS,by lia,?_⟩
 have hup:t.length + v.length<=big:=by
  have:=congrArg List.length hfull;rw[lA]at this;unfold big;lia
 have hadd:C7 (.lst (t.map C2)) (.lst (v.map C2))=some (.lst (full.map C2)):=by
  show(EE _).map _=_;unfold EE;rw[iP (by rw[lA,lM,lM];exact hup),<-map_append,hfull];rfl
 have hasA:BA Wh=[7,7,4,5]:=by decide
 have hasB:BA Xi=[9]:=by decide
 have hh:∀(v:Iv.Env->Res C) (ρ:Iv.Env),BV Zx v ρ=(v ρ).bind λc ρ=>.ok (.BG c) ρ:=λ_ _=>rfl
 have e2:execs (A0 fns mt A6 k) mt A6 aT [sL (cs.map .int),sL names,sP (.int room),none,none,none,none,none,none,none]= .ok (.ret (.p q)) [sL (cs.map .int),sL names,sP (.int room),sL (full.map C2),sP (.int l),sP (.int (wn:Int)),y6',y7',sL [q],y9']:=by
  unfold aT;simp! [Aa,AR,IX,Cf,IK.ok,E9,Ah,EF,A8,guards,hasA,hasB,Tg.slots,e,hh,ev1,hadd,e',AN,FN]
 rw[Aw f8 rfl e2];rfl
end Lk05
namespace Iv
open PySem
structure JY(θ:List (P×P)):Prop where
 ky:∀x∈θ.map (·.1),∃i:Int,x= .int i/\i < 30 + θ.length
 has:∀i:Int,0<=i->i < 9->P.int i∈θ.map (·.1)
 val:∀x v,Af θ x=some v->Al v=true/\(pre v).length<=32
 small:∀(i:Int) v,0<=i->i < 9->Af θ (.int i)=some v->(pre v).length<=4
 ge:9<=θ.length
def Ext(θ θ':List (P×P)):Prop:=∀x v,Af θ x=some v->Af θ' x=some v
theorem Ext.refl(θ:List (P×P)):Ext θ θ:=λ_ _ h=>h
theorem Ext.keys{a b:List (P×P)}(h:Ext a b){x:P}(hx:x∈a.map (·.1)):x∈b.map (·.1):=by
 obtain⟨v,hv⟩:=Option.isSome_iff_exists.mp (BY.mpr hx);rw[<-BY,h x v hv];rfl
theorem HA{l:List (P×P)}{k:P}(h:k∉l.map (·.1)):(dput l k v).length=l.length + 1:=by
 have:=congrArg List.length (Hy l k v);rw[iN h,lM,lA,lM]at this;exact this
theorem NX{θ:List (P×P)}:∀(n:Nat) (p:P),(pre p).length<=n->Al p=true->(∀i,P.int i∈pre p->Af θ' (.int i)=Af θ (.int i))->Ae θ' p=Ae θ p:=by
 intro n
 induction n with
 |zero=>intro p h;have:=Bu p;lia
 | succ n ih=>
   intro p hn hk ho;cases p with
   |int i=>rw[DG,DG,ho i (CN _)]
   | tup ps=>
     obtain⟨x,r,rfl,hr⟩:=Bj hk;rw[AM,AM,AL,AL]
     congr 2
     rw[As,lC]at hn;replace hn:(AO r).length + 1<=n + 1:=hn;refine map_congr_left λq hq=>ih q ?_ (Cj hr q hq) λi hi=>ho i ?_
     . have:=BM hq;lia
     . rw[As];exact mC (BI.mpr ⟨q,hq,hi⟩)
   |_=>unfold Al at hk;cases hk
theorem J9{θ:List (P×P)}(h:Ext θ θ')(hk:Al p=true)(ho:∀i,P.int i∈pre p->P.int i∈θ.map (·.1)):Ae θ' p=Ae θ p:=NX _ p (lR) hk λi hi=>by
 obtain⟨v,hv⟩:=Option.isSome_iff_exists.mp (BY.mpr (ho i hi));rw[hv,h _ v hv]
theorem Pt{m:Nat}(hm:1<=m):∀(n:Nat) (p:P),(pre p).length<=n->Al p=true->(∀i v,P.int i∈pre p->Af θ (.int i)=some v->Al v=true/\(pre v).length<=m)->Al (Ae θ p)=true/\(pre (Ae θ p)).length<=m * (pre p).length:=by
 intro n
 induction n with
 |zero=>intro p h;have:=Bu p;lia
 | succ n ih=>
   intro p hn hk ho;cases p with
   | int i=>
     rw[DG];have h1:(pre (.int i)).length=1:=by unfold pre;rfl
     cases hv:Af θ (.int i)with
     |none=>refine⟨hk,?_⟩;show(pre (.int i)).length<=_;rw[h1];lia
     |some v=>have:=ho i v (CN _) hv;refine⟨this.1,?_⟩;rw[h1];show(pre v).length<=_;lia
   | tup ps=>
     obtain⟨x,r,rfl,hr⟩:=Bj hk;rw[AM,AL];rw[As,lC]at hn;replace hn:(AO r).length + 1<=n + 1:=hn;have all:∀q∈r,Al (Ae θ q)=true/\(pre (Ae θ q)).length<=m * (pre q).length:=λq hq=>ih q (by have:=BM hq;lia) (Cj hr q hq) λi v hi=>ho i v (by rw[As];exact mC (BI.mpr ⟨q,hq,hi⟩))
     refine⟨DL (Ef λq hq=>?_),?_⟩
     . obtain⟨q',hq',rfl⟩:=mem_map.mp hq;exact(all q' hq').1
     . rw [As,As,lC,lC];show(AO (r.map (Ae θ))).length + 1<=m * ((AO r).length + 1)
       have key:∀l:List P,(∀q∈l,(pre (Ae θ q)).length<=m * (pre q).length)->(AO (l.map (Ae θ))).length<=m * (AO l).length:=by
        intro l
        induction l with
        |nil=>intro _;rw[map_nil,AI];exact Nat.zero_le _
        | cons q l ihl=>
          intro h;rw[map_cons,Ag,Ag,lA,lA,Nat.mul_add];have:=h q mS;have:=ihl λz hz=>h z (mC hz)
          lia
       have:=key r λq hq=>(all q hq).2
       rw[Nat.mul_add]
       lia
   |_=>unfold Al at hk;cases hk
theorem JY.put(h:JY θ)(hp:KQ p)(hl:(pre p).length<=8):Al (Ae θ p)=true/\(pre (Ae θ p)).length<=32:=by
 have:=Pt (θ:=θ) (m:=4) (by lia) _ p (lR) hp.kd λi v hi hv=>⟨(h.val _ v hv).1,h.small i v (hp.op i hi).1 (hp.op i hi).2 hv⟩
 exact⟨this.1,by have:=this.2;lia⟩
theorem JY.more{θ:List (P×P)}(h:JY θ)(hv:Al v=true)(hl:(pre v).length<=32):P.int (30 + θ.length)∉θ.map (·.1)/\JY (dput θ (.int (30 + θ.length)) v)/\Ext θ (dput θ (.int (30 + θ.length)) v):=by
 have hn:P.int (30 + θ.length)∉θ.map (·.1):=λz=>by
  obtain⟨i,e,hi⟩:=h.ky _ z;cases e
  lia
 have hlen:=HA (v:=v) hn;have hge:=h.ge;refine⟨hn,⟨λx hx=>?_,λi h0 h1=>C6.mpr (.inl (h.has i h0 h1)),λx w hw=>?_,λi w h0 h1 hw=>?_,by lia⟩,λx w hw=>?_⟩
 . rw[hlen];rcases C6.mp hx with z|z
   . obtain⟨i,e,hi⟩:=h.ky x z;exact⟨i,e,by lia⟩
   . exact⟨_,z,by lia⟩
 . rw[Am]at hw
   by_cases e:x= .int (30 + θ.length)
   . rw[iP e]at hw;cases hw;exact⟨hv,hl⟩
   . rw[iN e]at hw;exact h.val x w hw
 . rw[Am,iN (λz=>by injection z with z;lia)]at hw;exact h.small i w h0 h1 hw
 . rw[Am,iN (λz:x= .int (30 + θ.length)=>by
     rw[z]at hw
     exact hn (BY.mp (by rw[hw];rfl)))]
   exact hw
structure Cut(θ:List (P×P))(p q:P)(θ':List (P×P)):Prop where
 Xp:JY θ'
 ext:Ext θ θ'
 len:θ'.length<=θ.length + 1
 same:Ae θ' q=Ae θ' p
 kd:Al q=true
 dp:q.depth<=p.depth
 sz:(pre q).length<=(pre p).length
 ar:∀ps,P.tup ps∈pre q->ps.length<=4
 Ip:∀i,P.int i∈pre q->P.int i∈θ'.map (·.1)
theorem KQ.part{x:P}{r:List P}(h:KQ (.tup (x::r))){s:P}(hs:s∈r):KQ s:=by
 have hk:CP r=true:=by
  obtain⟨y,r',e,hr⟩:=Bj h.kd;injection e with e1 e2
  rw[e2];exact hr
 refine⟨Cj hk s hs,λps hm=>h.ar ps ?_,λi hm=>h.op i ?_⟩<;>
 . rw[As];exact mC (BI.mpr ⟨s,hs,hm⟩)
theorem Cut.within{a b:List P}{s:P}(hp:KQ (.tup (.str x::(a++s::b))))(h:Cut θ s t θ'):Cut θ (.tup (.str x::(a++s::b))) (.tup (.str x::(a++t::b))) θ':=by
 have part:∀q∈a++s::b,KQ q:=λq hq=>hp.part hq
 have sub:∀q,q∈a++t::b->q=t\/(q∈a++s::b):=λq hq=>by
  rcases mem_append.mp hq with z|z
  . exact .inr (mL z)
  . rcases mK z with z|z
    . exact .inl z
    . exact .inr (mR (mC z))
 have hsm:s∈a++s::b:=by simp
 refine⟨h.Xp,h.ext,h.len,?_,DL (Ef λq hq=>?_),?_,?_,λps hm=>?_,λi hm=>?_⟩
 . rw[AM,AM,AL,AL,map_append,map_append,map_cons,map_cons,h.same]
 . rcases sub q hq with z|z
   . rw[z];exact h.kd
   . exact(part q z).kd
 . rw[D1,D1,BD,BD]
   have:P.Ao (a++t::b)<=P.Ao (a++s::b):=DM λq hq=>by
    rcases sub q hq with z|z
    . rw[z];exact Nat.le_trans h.dp (De hsm)
    . exact De z
   lia
 . rw[As,As,lC,lC];show(AO (a++t::b)).length + 1<=(AO (a++s::b)).length + 1;rw[B6,B6,Ag,Ag,lA,lA,lA,lA];have:=h.sz
   lia
 . rw[As]at hm;rcases mK hm with z|z
   . cases z;have:=hp.ar _ (CN _);rw[lC,lA,lC]at this ⊢;exact this
   . obtain⟨q,hq,hm⟩:=BI.mp z;rcases sub q hq with z|z
     . rw[z]at hm;exact h.ar ps hm
     . exact(part q z).ar ps hm
 . rw [As]at hm;rcases mK hm with z|z
   . cases z
   . obtain⟨q,hq,hm⟩:=BI.mp z;rcases sub q hq with z|z
     . rw[z]at hm;exact h.Ip i hm
     . have:=(part q z).op i hm;exact h.Xp.has i this.1 this.2
theorem Cut.open{θ θ':List (P×P)}(hp:KQ p)(h:JY θ)(h':JY θ')(he:Ext θ θ')(hl:θ'.length<=θ.length + 1)(hi:Af θ' (.int i)=some (Ae θ p)):Cut θ p (.int i) θ':=by
 refine⟨h',he,hl,?_,by unfold Al;rfl,Nat.zero_le _,?_,λps hm=>?_,λj hm=>?_⟩
 . rw[DG,hi,J9 he hp.kd λj hj=>h.has j (hp.op j hj).1 (hp.op j hj).2];rfl
 . have:(pre (.int i)).length=1:=by unfold pre;rfl
   rw[this];exact Bu p
 . unfold pre at hm;simp at hm
 . unfold pre at hm;have:P.int j= .int i:=mE hm;rw[this,<-BY,hi];rfl
theorem HG{xs:List P}{i:Int}(h0:0<=i)(h1:i<=xs.length):cut xs none (some i)=xs.take i.toNat:=by
 unfold cut Mm;dsimp only;rw[iN (by lia)];show(xs.drop 0).take (min i.toNat xs.length - 0)=_;rw[List.drop_zero,show min i.toNat xs.length - 0=i.toNat by lia]
theorem L6{xs:List P}{i:Int}(h0:0<=i)(h1:i<=xs.length):cut xs (some i) none=xs.drop i.toNat:=by
 unfold cut Mm;dsimp only;rw[iN (by lia)];show(xs.drop (min i.toNat xs.length)).take (xs.length - min i.toNat xs.length)=_;rw[show min i.toNat xs.length=i.toNat by lia,List.take_of_length_le (by rw[length_drop];lia)]
theorem KU:∀(n:Nat) (p:P),(pre p).length<=n->n<=900->Al p=true->Lk05.FC p=true:=by
 intro n
 induction n with
 |zero=>intro p h;have:=Bu p;lia
 | succ n ih=>
   intro p hn h9 hk;cases p with
   |int i=>unfold Lk05.FC;rfl
   | tup ps=>
     obtain⟨x,r,rfl,hr⟩:=Bj hk;rw[As,lC]at hn;replace hn:(AO r).length + 1<=n + 1:=hn;have:=D7 r;unfold Lk05.FC;rw[decide_eq_true (by rw[lC];lia),Lk05.Dr]
     have all:∀l:List P,(∀q∈l,q∈r)->Lk05.EX l=true:=by
      intro l
      induction l with
      |nil=>intro _;unfold Lk05.EX;rfl
      | cons q l ihl=>
        intro h;rw[Lk05.Dr,ihl λz hz=>h z (mC hz),ih q (by have:=BM (h q mS);lia) (by lia) (Cj hr q (h q mS))];rfl
     rw[all r λq hq=>hq];unfold Lk05.FC;rfl
   |_=>unfold Al at hk;cases hk
end Iv
namespace Lk05
open Iv PySem
noncomputable def bf:T:=T.comp (Tg.nm 1) IK.op [T.var 2] [T.prim O.eq [T.prim O.idx [T.var 3,T.var 1],T.var 2]] (T.var 1) [none,none,some 3,some 2]
noncomputable def WC:T:=T.or (T.not (T.prim (O.Js Ty.tuple) [T.var 0])) (T.or (T.prim O.eq [T.prim O.len [T.var 0],T.cst (P.int 1)]) (T.prim O.eq [T.prim O.mod [T.var 1,T.cst (P.int 3)],T.cst (P.int 0)]))
noncomputable def Rc:List S:=[S.ifs (T.and (T.prim O.ne [T.var 4,T.lst []]) (T.prim O.eq [T.prim O.mod [T.prim O.fdiv [T.var 1,T.cst (P.int 3)],T.cst (P.int 2)],T.cst (P.int 1)]))
     [S.ret (some (T.prim O.idx [T.var 4,T.prim O.mod [T.prim O.fdiv [T.var 1,T.cst (P.int 6)],T.prim O.len [T.var 4]]]))] [],
    S.Dx (T.var 2) (T.prim O.add [T.cst (P.int 30),T.prim O.len [T.var 2]]) (T.var 3),
    S.ret (some (T.prim O.add [T.cst (P.int 29),T.prim O.len [T.var 2]]))]
def ZK:List S:=S.asg (Tg.nm 3) (T.call 9 [T.var 0,T.var 2])::S.asg (Tg.nm 4) bf::Rc
def bc:T:=T.call 10 [T.prim O.idx [T.var 0,T.var 5],T.prim O.fdiv [T.var 1,T.cst (P.int 9)],T.var 2]
noncomputable def ba:T:=T.prim O.add [T.prim O.add [T.prim (O.Gj false true) [T.var 0,T.var 5],T.tup [bc]],T.prim (O.Gj true false) [T.var 0,T.prim O.add [T.var 5,T.cst (P.int 1)]]]
noncomputable def YS:List S:=[S.ifs WC ZK [],S.asg (Tg.nm 5) (T.prim O.add [T.cst (P.int 1),T.prim O.mod [T.prim O.fdiv [T.var 1,T.cst (P.int 3)],T.prim O.sub [T.prim O.len [T.var 0],T.cst (P.int 1)]]]),S.ret (some ba)]
theorem YO:fns[10]? =some ⟨3,6,YS⟩:=by kernel_rfl
variable{cf:CF}
variable{y4 y5:Option C}
theorem U5{θ:List (Iv.P×Iv.P)}{due:Iv.P}(h:JY θ)(hd:Al due=true)(BV:(pre due).length<=32)(hl:θ.length<=100):ev cf mt bf [sP p,sP (.int c),sD θ,sP due,y4,y5]= .ok (.lst ((θ.map (·.1)).filter λx=>decide (Cz θ x=due))) [sP p,sP (.int c),sD θ,sP due,y4,y5]:=by
 obtain⟨β',⟨y,hβ⟩,e⟩:=IE (g:=.nm 1) (gs:=[(3,.AJ θ)]) (cond:=Ea cf mt [T.prim O.eq [T.prim O.idx [T.var 3,T.var 1],T.var 2]]) (elt:=ev cf mt (T.var 1)) (p:=λx=>decide (Cz θ x=due)) (J:=λβ=>∃y,β=[none,y,sP due,sD θ]) (λβ ⟨y,hβ⟩=>by subst hβ;unfold holds A9;simp) (θ.map (·.1)) [] [none,none,sP due,sD θ] (λx hx β ⟨y,hβ⟩=>by
  subst hβ;obtain⟨v,hv⟩:=Option.isSome_iff_exists.mp (BY.mpr hx);obtain⟨i,rfl,_⟩:=h.ky x hx;obtain⟨h1,h2⟩:=h.val _ v hv;have hkv:Cz θ (.int i)=v:=by unfold Cz;rw[hv];rfl
  have heq:GC v due=some (decide (v=due)):=R5 (Dn h1) (Dn hd) (by have:=CH v h1;lia) (by have:=CH due hd;lia);have hky:=DK i;refine⟨[none,sP (.int i),sP due,sD θ],rfl,?_,?_,_,rfl⟩
  . rw[hkv];have:Ea cf mt [T.prim O.eq [T.prim O.idx [T.var 3,T.var 1],T.var 2]]=tv cf mt (T.prim O.eq [T.prim O.idx [T.var 3,T.var 1],T.var 2]):=funext λρ=>by unfold Ea;rfl
    rw[this];simp! [Aa,AN,hky,hv,AK,E7,heq]
  . simp! []) ⟨none,rfl⟩
 subst hβ;rw[nil_append]at e;unfold bf;rw[CK];have hb:AD (BX [none,none,some 3,some 2] [sP p,sP (.int c),sD θ,sP due,y4,y5]) [none,none,some 3,some 2] [none,y,sP due,sD θ]=[sP p,sP (.int c),sD θ,sP due,y4,y5]:=rfl;have hi:inner [none,none,some 3,some 2] 2=some 3:=rfl;have hbig:θ.length<=big:=by unfold big;lia
 simp! [IK.ok,DP,Ah,EF,A8,BW,Bv,guards,hbig,Bd,e,hb,Tg.slots,hi]
theorem U4{n:Nat}{θ:List (Iv.P×Iv.P)}{p:Iv.P}{y3:Option C}(h:JY θ)(hp:KQ p)(hpl:(pre p).length<=8)(hn:p.depth < n)(hl:θ.length<=100):
 ∃q θ' z3 z4 z5,Cut θ p q θ'/\execs (A0 fns mt A6 n) mt A6 ZK [sP p,sP (.int c),sD θ,y3,y4,y5]= .ok (.ret (.p q)) [sP p,sP (.int c),sD θ',z3,z4,z5]:=by
 obtain⟨hd,BV⟩:=h.put hp hpl;have e10:=LC (d:=θ) n p hp.kd (KU _ p (lR) (by lia) hp.kd) hn
 have e1:ev (A0 fns mt A6 n) mt (T.call 9 [T.var 0,T.var 2]) [sP p,sP (.int c),sD θ,y3,y4,y5]= .ok (.p (Ae θ p)) [sP p,sP (.int c),sD θ,y3,y4,y5]:=by
  rw[AW];show(An _ _ [T.var 0,T.var 2] _).bind _=_;have:An (A0 fns mt A6 n) mt [T.var 0,T.var 2] [sP p,sP (.int c),sD θ,y3,y4,y5]= .ok [.slot 0,.slot 2] [sP p,sP (.int c),sD θ,y3,y4,y5]:=by simp! []
  rw[this,Res.A5];exact JP (i:=0) (j:=2) rfl rfl rfl rfl e10
 have e2:=U5 (cf:=A0 fns mt A6 n) (p:=p) (c:=c) (y4:=y4) (y5:=y5) h hd BV hl
 have hal:∀x,x∈(θ.map (·.1)).filter (λx=>decide (Cz θ x=Ae θ p))->∃i:Int,x= .int i/\Af θ (.int i)=some (Ae θ p):=λx hx=>by
  obtain⟨h1,h2⟩:=mem_filter.mp hx;obtain⟨i,rfl,_⟩:=h.ky x h1;refine⟨i,rfl,?_⟩;obtain⟨v,hv⟩:=Option.isSome_iff_exists.mp (BY.mpr h1);have h2:=of_decide_eq_true h2;unfold Cz at h2;rw[hv]at h2 ⊢;exact congrArg some h2
 generalize hfl:(θ.map (·.1)).filter (λx=>decide (Cz θ x=Ae θ p))=al at *
 have hunf:execs (A0 fns mt A6 n) mt A6 ZK [sP p,sP (.int c),sD θ,y3,y4,y5]=execs (A0 fns mt A6 n) mt A6 Rc [sP p,sP (.int c),sD θ,sP (Ae θ p),sL al,y5]:=by
  unfold ZK;rw[B0 e1];exact B0 e2
 have hfd3:AY c 3=some (c / 3):=by unfold AY;rw[iP (by lia)]
 have hmo2:B2 (c / 3) 2=some (c / 3 % 2):=by unfold B2;rw[iP (by lia)]
 have heq1:=eq_int (c / 3 % 2) 1
 have hallen:al.length<=100:=by
  rw[<-hfl];have:=List.length_filter_le (λx=>decide (Cz θ x=Ae θ p)) (θ.map (·.1));rw[lM]at this
  lia
 by_cases hc:al≠[]/\c / 3 % 2=1
 . obtain⟨hne,h1⟩:=hc;have hpos:0 < al.length:=length_pos_iff.mpr hne;have hx0:0<=c / 6 % (al.length:Int)/\c / 6 % (al.length:Int) < al.length:=⟨Int.emod_nonneg _ (by lia),Int.emod_lt_of_pos _ (by lia)⟩;obtain⟨j,hj⟩:=Int.eq_ofNat_of_zero_le hx0.1;have hjl:j < al.length:=by lia
   obtain⟨i,hi,hdi⟩:=hal al[j] (getElem_mem hjl);refine⟨.int i,θ,sP (Ae θ p),sL al,y5,Cut.open hp h h (Ext.refl θ) (by lia) hdi,?_⟩
   . rw[hunf];have hfd6:AY c 6=some (c / 6):=by unfold AY;rw[iP (by lia)]
     have hmoL:B2 (c / 6) (al.length:Int)=some (j:Int):=by unfold B2;rw[iP (by lia),hj]
     have hnl:JF al []=some false:=by
      unfold JF;have hcm:BK al []=true:=by cases al<;>(unfold BK;rfl)
      have hdz:Iv.P.Ao al<=60:=DM λq hq=>by obtain⟨i,rfl,_⟩:=hal q hq;unfold Iv.P.depth;lia
      have hdz2:Iv.P.Ao []<=60:=by unfold Iv.P.Ao;lia
      rw[hcm,decide_eq_true hdz,decide_eq_true hdz2,dF hne];rfl
     rw[decide_eq_true h1]at heq1
     have hix:AN (.lst al) (.p (.int (j:Int)))=some (.p (.int i)):=by
      unfold AN C.nf;dsimp only;unfold FN;rw[iP (by lia),iP (by lia)];show(al[((j:Nat):Int).toNat]?).map _=_;rw[show((j:Nat):Int).toNat=j by lia,List.getElem?_eq_getElem hjl,hi];rfl
     unfold Rc;simp! [Aa,AK,E7,hnl,AR,hfd3,hmo2,heq1,hfd6,DJ,hmoL,hix]
 . obtain⟨hnk,him,hex⟩:=h.more hd BV;have hlen:=HA (v:=Ae θ p) hnk;refine⟨.int (30 + θ.length),dput θ (.int (30 + θ.length)) (Ae θ p),sP (Ae θ p),sL al,y5,Cut.open hp h him hex (by lia) (by rw[Am,iP rfl]),?_⟩;rw[hunf];have hky:=DK (30 + (θ.length:Int));have hlb:θ.length < big:=by unfold big;lia
   have had:C7 (.p (.int 30)) (.p (.int (θ.length:Int)))=some (.p (.int (30 + (θ.length:Int)))):=rfl
   have had2:C7 (.p (.int 29)) (.p (.int ((dput θ (.int (30 + θ.length)) (Ae θ p)).length:Int)))=some (.p (.int (30 + (θ.length:Int)))):=by
    rw[hlen];show some (C.p (.int (29 + ((θ.length + 1:Nat):Int))))=_;rw[show(29:Int) + ((θ.length + 1:Nat):Int)=30 + (θ.length:Int)by lia]
   by_cases hne:al=[]
   . subst hne
     have hnl:JF [] []=some true:=by
      unfold JF BK Iv.P.Ao;rfl
     unfold Rc;simp! [Aa,AK,E7,hnl,DJ,had,AV,BS,Dz,BH,Dy,hky,hlb,had2]
   . have h1:¬c / 3 % 2=1:=λz=>hc ⟨hne,z⟩
     have hnl:JF al []=some false:=by
      unfold JF;have hcm:BK al []=true:=by cases al<;>(unfold BK;rfl)
      have hdz:Iv.P.Ao al<=60:=DM λq hq=>by obtain⟨i,rfl,_⟩:=hal q hq;unfold Iv.P.depth;lia
      have hdz2:Iv.P.Ao []<=60:=by unfold Iv.P.Ao;lia
      rw[hcm,decide_eq_true hdz,decide_eq_true hdz2,dF hne];rfl
     rw[dF h1]at heq1;unfold Rc;simp! [Aa,AK,E7,hnl,AR,hfd3,hmo2,heq1,DJ,had,AV,BS,Dz,BH,Dy,hky,hlb,had2]
theorem Rb:∀(n:Nat) (θ:List (Iv.P×Iv.P)) (p:Iv.P) (c:Int),JY θ->KQ p->(pre p).length<=8->p.depth + 1 < n->θ.length<=100->∃q θ',Cut θ p q θ'/\A0 fns mt A6 n 10 [.p p,.p (.int c),.AJ θ]= .ok (.p q) [sP p,sP (.int c),sD θ']
 |0,θ,p,c,_,_,_,h,_=>by lia
 | n + 1, θ, p,c,h,hp,hpl,hn,hl=>by
   have hmo3:B2 c 3=some (c % 3):=by unfold B2;rw[iP (by lia)]
   have leaf:tv (A0 fns mt A6 n) mt WC [sP p,sP (.int c),sD θ,none,none,none]= .ok true [sP p,sP (.int c),sD θ,none,none,none]->∃q θ',Cut θ p q θ'/\A0 fns mt A6 (n + 1) 10 [.p p,.p (.int c),.AJ θ]= .ok (.p q) [sP p,sP (.int c),sD θ']:=λht=>by
    obtain⟨q,θ',z3,z4,z5,hc,e⟩:=U4 (n:=n) (c:=c) (y3:=none) (y4:=none) (y5:=none) h hp hpl (by lia) hl;refine⟨q,θ',hc,?_⟩
    have e2:execs (A0 fns mt A6 n) mt A6 YS [sP p,sP (.int c),sD θ,none,none,none]= .ok (.ret (.p q)) [sP p,sP (.int c),sD θ',z3,z4,z5]:=by
     unfold YS;simp! [ht,e]
    rw[Aw YO rfl e2];rfl
   rcases Fx hp.kd with⟨i,rfl⟩|⟨x,r,rfl,hr⟩
   . refine leaf ?_;unfold WC;simp! [Aa,Cm]
   . by_cases hr0:r=[]
     . subst hr0;refine leaf ?_;have h1:GC (.int 1) (.int 1)=some true:=by rw[eq_int];rfl
       unfold WC;simp! [Aa,Cm,DJ,AK,E7,h1]
     . have hpos:0 < r.length:=length_pos_iff.mpr hr0;have hl1:GC (.int ((r.length:Int) + 1)) (.int 1)=some false:=by rw[eq_int];exact congrArg some (dF (by lia))
       have h30:=eq_int (c % 3) 0
       by_cases hc3:c % 3=0
       . refine leaf ?_;rw[decide_eq_true hc3]at h30;unfold WC;simp! [Aa,Cm,DJ,AK,E7,hl1,AR,hmo3,h30]
       . rw [dF hc3]at h30;have hx0:0<=c / 3 % (r.length:Int)/\c / 3 % (r.length:Int) < r.length:=⟨Int.emod_nonneg _ (by lia),Int.emod_lt_of_pos _ (by lia)⟩;obtain⟨j,hj⟩:=Int.eq_ofNat_of_zero_le hx0.1;have hjl:j < r.length:=by lia
         have hrj:r=r.take j++r[j]::r.drop (j + 1):=by rw[List.getElem_cons_drop,List.take_append_drop]
         have hsm:r[j]∈r:=getElem_mem hjl
         have hdp:(r[j]).depth + 1<=(Iv.P.tup (.str x::r)).depth:=by
          rw[D1,BD];have:=De hsm
          lia
         have hsz:(pre r[j]).length<=8:=by
          have:=BM hsm;rw[As,lC]at hpl;replace hpl:(AO r).length + 1<=8:=hpl
          lia
         obtain⟨t,θ',hcut,et⟩:=Rb n θ r[j] (c / 9) h (hp.part hsm) hsz (by lia) hl
         have hcw:Cut θ (.tup (.str x::r)) (.tup (.str x::(r.take j++t::r.drop (j + 1)))) θ':=by
          have hp':=hp;rw[hrj]at hp';have:=Cut.within hp' hcut;rw[<-hrj]at this;exact this
         refine⟨_,θ',hcw,?_⟩;have hfd3:AY c 3=some (c / 3):=by unfold AY;rw[iP (by lia)]
         have hfd9:AY c 9=some (c / 9):=by unfold AY;rw[iP (by lia)]
         have hmoL:B2 (c / 3) (r.length:Int)=some (j:Int):=by unfold B2;rw[iP (by lia),hj]
         have hsub:IX ((r.length:Int) + 1) 1=some (r.length:Int):=by unfold IX;rw[show(r.length:Int) + 1 - 1=r.length by lia]
         have had:C7 (.p (.int 1)) (.p (.int (j:Int)))=some (.p (.int (1 + (j:Int)))):=rfl;have had2:C7 (.p (.int (1 + (j:Int)))) (.p (.int 1))=some (.p (.int (1 + (j:Int) + 1))):=rfl
         have hix:AN (.p (.tup (.str x::r))) (.p (.int (1 + (j:Int))))=some (.p r[j]):=by
          unfold AN C.nf;dsimp only;unfold FN;rw[iP (by lia),iP (by rw[lC];lia)];show((Iv.P.str x::r)[(1 + (j:Int)).toNat]?).map _=_;rw[show(1 + (j:Int)).toNat=j + 1 by lia,List.getElem?_cons_succ,List.getElem?_eq_getElem hjl];rfl
         have hs1:Dw (.p (.tup (.str x::r))) none (some (1 + (j:Int)))=some (.p (.tup (.str x::r.take j))):=by
          unfold Dw C.nf;dsimp only;rw[HG (by lia) (by rw[lC];lia),show(1 + (j:Int)).toNat=j + 1 by lia];rfl
         have hs2:Dw (.p (.tup (.str x::r))) (some (1 + (j:Int) + 1)) none=some (.p (.tup (r.drop (j + 1)))):=by
          unfold Dw C.nf;dsimp only;rw[L6 (by lia) (by rw[lC];lia),show(1 + (j:Int) + 1).toNat=j + 1 + 1 by lia];rfl
         have hrl:r.length<=8:=by
          have:=D7 r;rw[As,lC]at hpl;replace hpl:(AO r).length + 1<=8:=hpl
          lia
         have ha1:C7 (.p (.tup (.str x::r.take j))) (.p (.tup [t]))=some (.p (.tup (.str x::r.take j++[t]))):=by
          show(if(Iv.P.str x::r.take j).isEmpty then none else(EE _).map _)=_;unfold EE;rw[iN (by simp),iP (by rw[lA,lC,length_take];simp;unfold big;lia)];rfl
         have ha2:C7 (.p (.tup (.str x::(r.take j++[t])))) (.p (.tup (r.drop (j + 1))))=some (.p (.tup (.str x::(r.take j++t::r.drop (j + 1))))):=by
          show(if(Iv.P.str x::(r.take j++[t])).isEmpty then none else(EE _).map _)=_;unfold EE;rw[iN (by simp),iP (by rw[lA,lC,lA,length_take,length_drop];simp;unfold big;lia)];simp
         have ec:ev (A0 fns mt A6 n) mt bc [sP (.tup (.str x::r)),sP (.int c),sD θ,none,none,sP (.int (1 + (j:Int)))]= .ok (.p t) [sP (.tup (.str x::r)),sP (.int c),sD θ',none,none,sP (.int (1 + (j:Int)))]:=by
          unfold bc;rw[AW];show(An _ _ [T.prim O.idx [T.var 0,T.var 5],T.prim O.fdiv [T.var 1,T.cst (P.int 9)],T.var 2] _).bind _=_
          have hd:An (A0 fns mt A6 n) mt [T.prim O.idx [T.var 0,T.var 5],T.prim O.fdiv [T.var 1,T.cst (P.int 9)],T.var 2] [sP (.tup (.str x::r)),sP (.int c),sD θ,none,none,sP (.int (1 + (j:Int)))]= .ok [.BG (.p r[j]),.BG (.p (.int (c / 9))),.slot 2] [sP (.tup (.str x::r)),sP (.int c),sD θ,none,none,sP (.int (1 + (j:Int)))]:=by
           simp! [Aa,hix,AR,hfd9]
          rw[hd,Res.A5];exact GG (cs:=[.p r[j],.p (.int (c / 9)),.AJ θ]) rfl (by show[2].Nodup;simp) rfl et rfl
         have er:ev (A0 fns mt A6 n) mt ba [sP (.tup (.str x::r)),sP (.int c),sD θ,none,none,sP (.int (1 + (j:Int)))]= .ok (.p (.tup (.str x::(r.take j++t::r.drop (j + 1))))) [sP (.tup (.str x::r)),sP (.int c),sD θ',none,none,sP (.int (1 + (j:Int)))]:=by
          unfold ba;simp! [Aa,DI,hs1,ec,ha1,had2,hs2,ha2]
         have ht:tv (A0 fns mt A6 n) mt WC [sP (.tup (.str x::r)),sP (.int c),sD θ,none,none,none]= .ok false [sP (.tup (.str x::r)),sP (.int c),sD θ,none,none,none]:=by
          unfold WC;simp! [Aa,Cm,DJ,AK,E7,hl1,AR,hmo3,h30]
         have e2:execs (A0 fns mt A6 n) mt A6 YS [sP (.tup (.str x::r)),sP (.int c),sD θ,none,none,none]= .ok (.ret (.p (.tup (.str x::(r.take j++t::r.drop (j + 1)))))) [sP (.tup (.str x::r)),sP (.int c),sD θ',none,none,sP (.int (1 + (j:Int)))]:=by
          unfold YS;simp! [ht,Aa,DJ,AR,hfd3,hsub,hmoL,had,er]
         rw[Aw YO rfl e2];rfl
end Lk05
namespace Iv
open PySem
theorem Pu{S:List (P×P)}(hS:∀x v,Af S x=some v->∃i,v= .int i)(hp:Al p=true):Al (Ae S p)=true/\(pre (Ae S p)).length<=(pre p).length:=by
 have:=Pt (θ:=S) (m:=1) (by lia) _ p (lR) hp λi v hi hv=>by
  obtain⟨j,rfl⟩:=hS _ v hv;exact⟨by unfold Al;rfl,by unfold pre;exact lR⟩
 rw[Nat.one_mul]at this;exact this
end Iv
namespace Lk05
open Iv PySem
def ZA:List S:=[S.Dx (T.var 2) (T.var 3) (T.prim O.add [T.cst (P.int 200),T.var 3])]
noncomputable def aZ:T:=T.call 8 [T.lst [T.call 6 [T.var 0,T.prim O.sub [T.cst (P.int 50),T.var 3]],T.call 6 [T.var 0,T.prim O.add [T.prim O.mul [T.cst (P.int 3),T.var 3],T.cst (P.int 1)]]],T.var 1,T.cst (P.int 4)]
def ZC:List S:=[S.asg (Tg.nm 5) aZ,S.Dx (T.var 4) (T.var 3) (T.call 9 [T.var 5,T.var 2])]
noncomputable def aY:List S:=[S.asg (Tg.nm 2) (T.AJ [] []),S.CW (Tg.nm 3) IK.Et [T.cst (P.int 9)] ZA,S.asg (Tg.nm 4) (T.AJ [] []),S.CW (Tg.nm 3) IK.Et [T.cst (P.int 9)] ZC,S.ret (some (T.var 4))]
theorem ZH:fns[11]? =some ⟨2,6,aY⟩:=by kernel_rfl
variable{cf:CF}
variable{j:Nat}{ns:List Int}
theorem JM{k i:Nat}{t:T}(h:A9 ρ i=some (.b (.ro (ns.map .int))))(ht:An (A0 fns mt A6 (k + 1)) mt [t] ρ= .ok [.BG (.p (.int (j:Int)))] ρ):ev (A0 fns mt A6 (k + 1)) mt (T.call 6 [T.var i,t]) ρ= .ok (.p (.int (cellAt ns j))) ρ:=by
 rw[AW];show(An _ _ (T.var i::[t]) ρ).bind _=_
 have hd:An (A0 fns mt A6 (k + 1)) mt [T.var i,t] ρ= .ok [.slot i,.BG (.p (.int (j:Int)))] ρ:=by
  rw[BO,GB,h,Option.isSome_some,iP rfl,Res.A5];dsimp only;rw[ht];rfl
 rw[hd,Res.A5]
 exact HL (cs:=[.b (.ro (ns.map .int)),.p (.int (j:Int))]) (by show((A9 ρ i).bind _)=_;rw[h];rfl) (λc hc=>by
  rcases mK hc with z|z
  . rw[z];rfl
  . rw[mE z];rfl) DZ rfl
theorem LB{x:Iv.P}(h:x∈Ad 0 9):∃j:Nat,x= .int (j:Int)/\j < 9:=by
 unfold Ad at h;obtain⟨j,hj,rfl⟩:=mem_map.mp h;have:=mem_range.mp hj;exact⟨j,by rw[Int.zero_add],by lia⟩
theorem NW:(Ad 0 9).Nodup:=by
 unfold Ad;refine List.Pairwise.map _ (λa b h=>?_) List.nodup_range;intro z;injection z with z
 lia
theorem Tx{k:Nat}(hk:9<=k){names:List Iv.P}{Sh M:List (Iv.P×Iv.P)}{y5:Option C}(hn:names.length=6)(hns:∀p∈names,RA p)(hS:∀x v,Af Sh x=some v->∃i,v= .int i)(hj:j < 9)(hM:M.length<=100):
 ∃v z5,Al v=true/\(pre v).length<=4/\execs (A0 fns mt A6 (k + 1)) mt A6 ZC [some (.b (.ro (ns.map .int))),sL names,sD Sh,sP (.int (j:Int)),sD M,y5]= .ok .nx [some (.b (.ro (ns.map .int))),sL names,sD Sh,sP (.int (j:Int)),sD (dput M (.int (j:Int)) v),z5]:=by
 have c1:=JM (k:=k) (i:=0) (j:=50 - j) (ns:=ns) (t:=T.prim O.sub [T.cst (P.int 50),T.var 3]) (ρ:=[some (.b (.ro (ns.map .int))),sL names,sD Sh,sP (.int (j:Int)),sD M,y5]) rfl (by
  have hs:IX 50 (j:Int)=some ((50 - j:Nat):Int):=by unfold IX;rw[show(50:Int) - (j:Int)=((50 - j:Nat):Int)by lia]
  simp! [Aa,AR,hs])
 have c2:=JM (k:=k) (i:=0) (j:=3 * j + 1) (ns:=ns) (t:=T.prim O.add [T.prim O.mul [T.cst (P.int 3),T.var 3],T.cst (P.int 1)]) (ρ:=[some (.b (.ro (ns.map .int))),sL names,sD Sh,sP (.int (j:Int)),sD M,y5]) rfl (by
  have hmul:mulC (.p (.int 3)) (.p (.int (j:Int)))=some (.p (.int (3 * (j:Int)))):=by
   have hm:Ha 3 (j:Int)=some (3 * (j:Int)):=by unfold Ha;rw[iP (.inl (by lia))]
   unfold mulC;simp[AR,hm]
  have had:C7 (.p (.int (3 * (j:Int)))) (.p (.int 1))=some (.p (.int ((3 * j + 1:Nat):Int))):=rfl
  simp! [Aa,hmul,had])
 obtain⟨q,hq,hql,ek⟩:=N3 (k:=k) (cs:=[cellAt ns (50 - j),cellAt ns (3 * j + 1)]) (names:=names) (room:=4) hn hns (by lia) (by lia) (by simp)
 have e1:ev (A0 fns mt A6 (k + 1)) mt aZ [some (.b (.ro (ns.map .int))),sL names,sD Sh,sP (.int (j:Int)),sD M,y5]= .ok (.p q) [some (.b (.ro (ns.map .int))),sL names,sD Sh,sP (.int (j:Int)),sD M,y5]:=by
  unfold aZ;rw[AW];show(An _ _ [T.lst [T.call 6 [T.var 0,T.prim O.sub [T.cst (P.int 50),T.var 3]],T.call 6 [T.var 0,T.prim O.add [T.prim O.mul [T.cst (P.int 3),T.var 3],T.cst (P.int 1)]]],T.var 1,T.cst (P.int 4)] _).bind _=_
  have hd:An (A0 fns mt A6 (k + 1)) mt [T.lst [T.call 6 [T.var 0,T.prim O.sub [T.cst (P.int 50),T.var 3]],T.call 6 [T.var 0,T.prim O.add [T.prim O.mul [T.cst (P.int 3),T.var 3],T.cst (P.int 1)]]],T.var 1,T.cst (P.int 4)] [some (.b (.ro (ns.map .int))),sL names,sD Sh,sP (.int (j:Int)),sD M,y5]= .ok [.BG (.lst [.int (cellAt ns (50 - j)),.int (cellAt ns (3 * j + 1))]),.slot 1,.BG (.p (.int 4))] [some (.b (.ro (ns.map .int))),sL names,sD Sh,sP (.int (j:Int)),sD M,y5]:=by
   generalize ha:T.call 6 [T.var 0,T.prim O.sub [T.cst (P.int 50),T.var 3]]=ta at *;generalize hb:T.call 6 [T.var 0,T.prim O.add [T.prim O.mul [T.cst (P.int 3),T.var 3],T.cst (P.int 1)]]=tb at *;simp! [c1,c2]
  rw[hd,Res.A5];exact GG (cs:=[.lst [.int (cellAt ns (50 - j)),.int (cellAt ns (3 * j + 1))],.lst names,.p (.int 4)]) rfl (by show[1].Nodup;simp) rfl ek rfl
 have hql':(pre q).length<=4:=by lia
 obtain⟨p1,p2⟩:=Pu hS hq.kd;refine⟨Ae Sh q,sP q,p1,by lia,?_⟩;have e10:=LC (d:=Sh) (k + 1) q hq.kd (KU _ q (lR) (by lia) hq.kd) (by have:=CH q hq.kd;lia)
 have e2:ev (A0 fns mt A6 (k + 1)) mt (T.call 9 [T.var 5,T.var 2]) [some (.b (.ro (ns.map .int))),sL names,sD Sh,sP (.int (j:Int)),sD M,sP q]= .ok (.p (Ae Sh q)) [some (.b (.ro (ns.map .int))),sL names,sD Sh,sP (.int (j:Int)),sD M,sP q]:=by
  rw[AW];show(An _ _ [T.var 5,T.var 2] _).bind _=_;have:An (A0 fns mt A6 (k + 1)) mt [T.var 5,T.var 2] [some (.b (.ro (ns.map .int))),sL names,sD Sh,sP (.int (j:Int)),sD M,sP q]= .ok [.slot 5,.slot 2] [some (.b (.ro (ns.map .int))),sL names,sD Sh,sP (.int (j:Int)),sD M,sP q]:=by simp! []
  rw[this,Res.A5];exact JP (i:=5) (j:=2) rfl rfl rfl rfl e10
 have hky:=DK (j:Int);have hlb:M.length < big:=by unfold big;lia
 unfold ZC;rw[B0 e1];simp! [e2,AV,BS,Dz,BH,Dy,hky,hlb]
theorem QA{k:Nat}(hk:9<=k){names:List Iv.P}(hn:names.length=6)(hns:∀p∈names,RA p):
 ∃θ,JY θ/\θ.length=9/\A0 fns mt A6 (k + 2) 11 [.b (.ro (ns.map .int)),.lst names]= .ok (.AJ θ) [some (.b (.ro (ns.map .int))),sL names]:=by
 have hrl:(Ad 0 9).length=9:=by rw[B9];rfl
 obtain⟨ρ',⟨Sh,y3,s1,s2,hρ⟩,e⟩:=Bx (g:=.nm 3) (gs:=[]) (b:=execs (A0 fns mt A6 (k + 1)) mt A6 ZA) (J:=λd ρ=>∃Sh y3,(∀x v,Af Sh x=some v->∃i,v=Iv.P.int i)/\Sh.length<=d.length/\ρ=[some (.b (.ro (ns.map .int))),sL names,sD Sh,y3,none,none]) (all:=Ad 0 9) (λ_ _ _=>rfl) (λd x r e ρ ⟨Sh,y3,s1,s2,hρ⟩=>by
  subst hρ;obtain⟨j,rfl,hj⟩:=LB (show x∈Ad 0 9 by rw[<-e];simp);have BV:d.length<=9:=by have:=congrArg List.length e;rw[lA,hrl]at this;lia
  refine⟨_,[some (.b (.ro (ns.map .int))),sL names,sD (dput Sh (.int (j:Int)) (.int (200 + (j:Int)))),sP (.int (j:Int)),none,none],.nx,rfl,?_,.inl rfl,_,_,λx v hv=>?_,?_,rfl⟩
  . show execs _ mt A6 ZA [some (.b (.ro (ns.map .int))),sL names,sD Sh,sP (.int (j:Int)),none,none]=_;have hky:=DK (j:Int);have hlb:Sh.length < big:=by unfold big;lia
    have had:C7 (.p (.int 200)) (.p (.int (j:Int)))=some (.p (.int (200 + (j:Int)))):=rfl;unfold ZA;simp! [Aa,had,AV,BS,Dz,BH,Dy,hky,hlb]
  . rw[Am]at hv
    by_cases z:x= .int (j:Int)
    . rw[iP z]at hv;cases hv;exact⟨_,rfl⟩
    . rw[iN z]at hv;exact s1 x v hv
  . have:=Cr Sh (.int (j:Int)) (.int (200 + (j:Int)));rw[lA,lS]
    lia) (Ad 0 9) [] [some (.b (.ro (ns.map .int))),sL names,sD [],none,none,none] rfl ⟨[],none,λx v h=>(by cases h),lR,rfl⟩
 subst hρ
 obtain⟨ρ',⟨M,y3',y5,m1,m2,m3,hρ⟩,e'⟩:=Bx (g:=.nm 3) (gs:=[]) (b:=execs (A0 fns mt A6 (k + 1)) mt A6 ZC) (J:=λd ρ=>∃M y3 y5,(M.map (·.1)).Nodup/\(∀x,x∈M.map (·.1)↔x∈d)/\(∀x v,Af M x=some v->Al v=true/\(pre v).length<=4)/\ρ=[some (.b (.ro (ns.map .int))),sL names,sD Sh,y3,sD M,y5]) (all:=Ad 0 9) (λ_ _ _=>rfl) (λd x r e ρ ⟨M,y3,y5,m1,m2,m3,hρ⟩=>by
  subst hρ;obtain⟨j,rfl,hj⟩:=LB (show x∈Ad 0 9 by rw[<-e];simp)
  have hMl:M.length<=100:=by
   have h1:=CD m1 λx hx=>(m2 x).mp hx
   have h2:=congrArg List.length e;rw[lA,hrl]at h2;rw[lM]at h1
   lia
  obtain⟨v,z5,h1,h2,h3⟩:=Tx (k:=k) hk (ns:=ns) (y5:=y5) hn hns s1 hj hMl;refine⟨_,_,.nx,rfl,h3,.inl rfl,_,_,_,FF m1,λx=>?_,λx w hw=>?_,rfl⟩
  . rw[C6,m2 x];simp
  . rw[Am]at hw
    by_cases z:x= .int (j:Int)
    . rw[iP z]at hw;cases hw;exact⟨h1,h2⟩
    . rw[iN z]at hw;exact m3 x w hw) (Ad 0 9) [] [some (.b (.ro (ns.map .int))),sL names,sD Sh,y3,sD [],none] rfl ⟨[],y3,none,nodup_nil,λx=>by simp,λx v h=>(by cases h),rfl⟩
 subst hρ
 have hlen:M.length=9:=by
  have h1:=CD m1 λx hx=>(m2 x).mp hx
  have h2:=CD NW λx hx=>(m2 x).mpr hx
  rw[lM,hrl]at h1;rw[lM,hrl]at h2
  lia
 refine⟨M,⟨λx hx=>?_,λi h0 h1=>(m2 _).mpr ?_,λx v hv=>?_,λi v h0 h1 hv=>(m3 _ v hv).2,by lia⟩,hlen,?_⟩
 . obtain⟨j,rfl,hj⟩:=LB ((m2 x).mp hx);exact⟨j,rfl,by lia⟩
 . unfold Ad;refine mem_map.mpr ⟨i.toNat,mem_range.mpr (by lia),?_⟩;show Iv.P.int (0 + (i.toNat:Int))= .int i;rw[show(0:Int) + (i.toNat:Int)=i by lia]
 . have:=m3 x v hv;exact⟨this.1,by lia⟩
 . have e0:∀ρ,ev (A0 fns mt A6 (k + 1)) mt (.AJ [] []) ρ= .ok (.AJ []) ρ:=λρ=>by
    show(den _ _ (.AJ [] [])).v _=_;unfold den;rfl
   have e2:execs (A0 fns mt A6 (k + 1)) mt A6 aY [some (.b (.ro (ns.map .int))),sL names,none,none,none,none]= .ok (.ret (.AJ M)) [some (.b (.ro (ns.map .int))),sL names,sD Sh,y3',none,y5]:=by
    unfold aY;simp! [e0,Cf,IK.ok,E9,Ah,A8,guards,e,e']
   exact(Aw (args:=[.b (.ro (ns.map .int)),.lst names]) ZH rfl e2).trans rfl
end Lk05
namespace Iv
open PySem
theorem KG.mono{I':List P}(h:KG I p)(hs:∀x∈I,x∈I'):KG I' p:=⟨h.kd,h.len,h.dp,h.ar,λi hi=>hs _ (h.Ip i hi)⟩
def PI(θ:List (P×P))(prs:List (P×P)):Prop:=∀pr∈prs,KG (θ.map (·.1)) pr.1/\KG (θ.map (·.1)) pr.2/\Ae θ pr.1=Ae θ pr.2/\(pre (Ae θ pr.1)).length<=32
variable{prs:List (P×P)}
theorem PI.ext(h:PI θ prs)(he:Ext θ θ'):PI θ' prs:=λpr hp=>by
 obtain⟨h1,h2,h3,h4⟩:=h pr hp;have e1:=J9 he h1.kd h1.Ip;have e2:=J9 he h2.kd h2.Ip;exact⟨h1.mono λx hx=>he.keys hx,h2.mono λx hx=>he.keys hx,by rw[e1,e2,h3],by rw[e1];exact h4⟩
theorem PI.snoc{θ:List (P×P)}(h:PI θ prs)(ha:KG (θ.map (·.1)) a)(hb:KG (θ.map (·.1)) b)(e:Ae θ a=Ae θ b)(hl:(pre (Ae θ a)).length<=32):PI θ (prs++[(a,b)]):=λpr hp=>by
 rcases mem_append.mp hp with z|z
 . exact h pr z
 . rw[mE z];exact⟨ha,hb,e,hl⟩
theorem KQ.kg{θ:List (P×P)}(hi:JY θ)(h:KQ p)(hl:(pre p).length<=8):KG (θ.map (·.1)) p:=⟨h.kd,by lia,by have:=CH p h.kd;lia,λps hm=>by have:=h.ar ps hm;lia,λi hm=>hi.has i (h.op i hm).1 (h.op i hm).2⟩
theorem Cut.kg{θ':List (P×P)}(h:Cut θ p q θ')(hp:Al p=true)(hl:(pre p).length<=8):KG (θ'.map (·.1)) q:=⟨h.kd,by have:=h.sz;lia,by have:=h.dp;have:=CH p hp;lia,λps hm=>by have:=h.ar ps hm;lia,h.Ip⟩
end Iv
namespace Lk05
open Iv PySem
noncomputable def aC:T:=T.comp (Tg.nm 1) IK.Et [T.cst (P.int 8)] [] (T.call 6 [T.var 3,T.prim O.add [T.var 2,T.var 1]]) [none,none,some 4,some 0]
def aB:T:=T.call 8 [T.prim (O.Gj false true) [T.var 5,T.cst (P.int 6)],T.var 1,T.cst (P.int 8)]
def aA:T:=T.call 10 [T.var 6,T.prim O.idx [T.var 5,T.cst (P.int 6)],T.var 2]
noncomputable def Zr:S:=S.expr (T.F4 MO.append (T.var 3) [T.prim O.idx [T.lst [T.tup [T.var 6,T.var 7],T.tup [T.var 7,T.var 6]],T.prim O.mod [T.prim O.idx [T.var 5,T.cst (P.int 7)],T.cst (P.int 2)]]])
def Xd:List S:=[S.asg (Tg.nm 5) aC,S.asg (Tg.nm 6) aB,S.asg (Tg.nm 7) aA,Zr]
noncomputable def Ye:List T:=[T.cst (P.int 1),T.prim O.add [T.cst (P.int 2),T.prim O.min [T.prim O.len [T.var 0],T.cst (P.int 48)]],T.cst (P.int 8)]
def az:List S:=[S.asg (Tg.nm 3) (T.lst []),S.CW (Tg.nm 4) IK.Et Ye Xd,S.ret (some (T.var 3))]
theorem ZF:fns[12]? =some ⟨3,8,az⟩:=by kernel_rfl
variable{ns:List Int}
theorem Q2{k a:Nat}{c1 c2 c3 c5 c6 c7:Option C}:∃cs:List Int,cs.length=8/\ev (A0 fns mt A6 (k + 1)) mt aC [some (.b (.ro (ns.map .int))),c1,c2,c3,sP (.int (a:Int)),c5,c6,c7]= .ok (.lst (cs.map .int)) [some (.b (.ro (ns.map .int))),c1,c2,c3,sP (.int (a:Int)),c5,c6,c7]:=by
 have hr8:(Ad 0 8).length=8:=by rw[B9];rfl
 obtain⟨ys,β',⟨y,hβ⟩,n1,n2,n3⟩:=L9 (g:=.nm 1) (gs:=[]) (cond:=Ea (A0 fns mt A6 (k + 1)) mt []) (elt:=ev (A0 fns mt A6 (k + 1)) mt (T.call 6 [T.var 3,T.prim O.add [T.var 2,T.var 1]])) (Q:=λp=>∃i,p=Iv.P.int i) (J:=λβ=>∃y,β=[none,y,sP (.int (a:Int)),some (.b (.ro (ns.map .int)))]) (λ_ _=>rfl) (Ad 0 8) [] [none,none,sP (.int (a:Int)),some (.b (.ro (ns.map .int)))] (λq hq β ⟨y,hβ⟩=>by
  subst hβ;unfold Ad at hq;obtain⟨j,hj,rfl⟩:=mem_map.mp hq;have hz:(0:Int) + (j:Int)=(j:Int):=by lia
  rw[hz]
  have:=JM (k:=k) (i:=3) (j:=a + j) (ns:=ns) (t:=T.prim O.add [T.var 2,T.var 1]) (ρ:=[none,sP (.int (j:Int)),sP (.int (a:Int)),some (.b (.ro (ns.map .int)))]) rfl (by
   have had:C7 (.p (.int (a:Int))) (.p (.int (j:Int)))=some (.p (.int ((a + j:Nat):Int))):=rfl
   simp! [Aa,had])
  exact⟨_,_,_,rfl,Cs _,this,⟨_,rfl⟩,_,rfl⟩) ⟨none,rfl⟩
 subst hβ;obtain⟨cs,e1,_⟩:=Ju n2;subst e1;rw[lM,hr8]at n1;rw[nil_append]at n3;refine⟨cs,n1,?_⟩;unfold aC;rw[CK];have hb:AD (BX [none,none,some 4,some 0] [some (.b (.ro (ns.map .int))),c1,c2,c3,sP (.int (a:Int)),c5,c6,c7]) [none,none,some 4,some 0] [none,y,sP (.int (a:Int)),some (.b (.ro (ns.map .int)))]=[some (.b (.ro (ns.map .int))),c1,c2,c3,sP (.int (a:Int)),c5,c6,c7]:=rfl;have hbig:(Ad 0 8).length<=big:=by rw[hr8];unfold big;lia
 simp! [IK.ok,DP,Ah,A8,BW,Bv,guards,hbig,Bd,n3,hb,Tg.slots]
theorem SW{k a:Nat}(hk:9<=k){names:List Iv.P}{θ prs:List (Iv.P×Iv.P)}{y5 y6 y7:Option C}(hn:names.length=6)(hns:∀p∈names,RA p)(hi:JY θ)(hl:θ.length<=100)(hp:PI θ prs)(hpl:prs.length<=100):
 ∃θ' pr z5 z6 z7,JY θ'/\Ext θ θ'/\θ'.length<=θ.length + 1/\PI θ' (prs++[pr])/\execs (A0 fns mt A6 (k + 1)) mt A6 Xd [some (.b (.ro (ns.map .int))),sL names,sD θ,sL (prs.map enc),sP (.int (a:Int)),y5,y6,y7]= .ok .nx [some (.b (.ro (ns.map .int))),sL names,sD θ',sL ((prs++[pr]).map enc),sP (.int (a:Int)),z5,z6,z7]:=by
 obtain⟨cs,hcl,ec⟩:=Q2 (k:=k) (a:=a) (ns:=ns) (c1:=some (.lst names)) (c2:=some (.AJ θ)) (c3:=some (.lst (prs.map enc))) (c5:=y5) (c6:=y6) (c7:=y7);obtain⟨q,hq,hql,ek⟩:=N3 (k:=k) (cs:=cs.take 6) (names:=names) (room:=8) hn hns (by lia) (by lia) (by rw[length_take];lia);have hql':(pre q).length<=8:=by lia
 obtain⟨o,θ',hcut,eu⟩:=Rb (k + 1) θ q cs[6] hi hq hql' (by have:=CH q hq.kd;lia) hl
 have e6:ev (A0 fns mt A6 (k + 1)) mt aB [some (.b (.ro (ns.map .int))),sL names,sD θ,sL (prs.map enc),sP (.int (a:Int)),sL (cs.map .int),y6,y7]= .ok (.p q) [some (.b (.ro (ns.map .int))),sL names,sD θ,sL (prs.map enc),sP (.int (a:Int)),sL (cs.map .int),y6,y7]:=by
  have hcu:cut (cs.map Iv.P.int) none (some 6)=(cs.take 6).map .int:=by
   rw[HG (by lia) (by rw[lM];lia),map_take];rfl
  unfold aB;rw[AW];show(An _ _ [T.prim (O.Gj false true) [T.var 5,T.cst (P.int 6)],T.var 1,T.cst (P.int 8)] _).bind _=_
  have hd:An (A0 fns mt A6 (k + 1)) mt [T.prim (O.Gj false true) [T.var 5,T.cst (P.int 6)],T.var 1,T.cst (P.int 8)] [some (.b (.ro (ns.map .int))),sL names,sD θ,sL (prs.map enc),sP (.int (a:Int)),sL (cs.map .int),y6,y7]= .ok [.BG (.lst ((cs.take 6).map .int)),.slot 1,.BG (.p (.int 8))] [some (.b (.ro (ns.map .int))),sL names,sD θ,sL (prs.map enc),sP (.int (a:Int)),sL (cs.map .int),y6,y7]:=by
   simp! [Aa,DI,Dw,hcu]
  rw[hd,Res.A5];exact GG (cs:=[.lst ((cs.take 6).map .int),.lst names,.p (.int 8)]) rfl (by show[1].Nodup;simp) rfl ek rfl
 have hix:∀(j:Nat) (hj:j < cs.length),AN (.lst (cs.map .int)) (.p (.int (j:Int)))=some (.p (.int cs[j])):=λj hj=>by
  unfold AN C.nf;dsimp only;unfold FN;rw[iP (by lia),iP (by rw[lM];lia)];show((cs.map Iv.P.int)[((j:Nat):Int).toNat]?).map _=_;rw[show((j:Nat):Int).toNat=j by lia,List.getElem?_map,List.getElem?_eq_getElem hj];rfl
 have hi6:AN (.lst (cs.map .int)) (.p (.int 6))=some (.p (.int cs[6])):=hix 6 (by lia);have hi7:AN (.lst (cs.map .int)) (.p (.int 7))=some (.p (.int cs[7])):=hix 7 (by lia)
 have e7:ev (A0 fns mt A6 (k + 1)) mt aA [some (.b (.ro (ns.map .int))),sL names,sD θ,sL (prs.map enc),sP (.int (a:Int)),sL (cs.map .int),sP q,y7]= .ok (.p o) [some (.b (.ro (ns.map .int))),sL names,sD θ',sL (prs.map enc),sP (.int (a:Int)),sL (cs.map .int),sP q,y7]:=by
  unfold aA;rw[AW];show(An _ _ [T.var 6,T.prim O.idx [T.var 5,T.cst (P.int 6)],T.var 2] _).bind _=_
  have hd:An (A0 fns mt A6 (k + 1)) mt [T.var 6,T.prim O.idx [T.var 5,T.cst (P.int 6)],T.var 2] [some (.b (.ro (ns.map .int))),sL names,sD θ,sL (prs.map enc),sP (.int (a:Int)),sL (cs.map .int),sP q,y7]= .ok [.slot 6,.BG (.p (.int cs[6])),.slot 2] [some (.b (.ro (ns.map .int))),sL names,sD θ,sL (prs.map enc),sP (.int (a:Int)),sL (cs.map .int),sP q,y7]:=by
   simp! [Aa,hi6]
  rw[hd,Res.A5];exact GG (cs:=[.p q,.p (.int cs[6]),.AJ θ]) rfl (by show[2].Nodup;simp) rfl eu rfl
 have hunf:execs (A0 fns mt A6 (k + 1)) mt A6 Xd [some (.b (.ro (ns.map .int))),sL names,sD θ,sL (prs.map enc),sP (.int (a:Int)),y5,y6,y7]=execs (A0 fns mt A6 (k + 1)) mt A6 [Zr] [some (.b (.ro (ns.map .int))),sL names,sD θ',sL (prs.map enc),sP (.int (a:Int)),sL (cs.map .int),sP q,sP o]:=by
  unfold Xd;rw[B0 ec];show execs _ _ _ _ [some (.b (.ro (ns.map .int))),sL names,sD θ,sL (prs.map enc),sP (.int (a:Int)),sL (cs.map .int),y6,y7]=_;rw[B0 e6];show execs _ _ _ _ [some (.b (.ro (ns.map .int))),sL names,sD θ,sL (prs.map enc),sP (.int (a:Int)),sL (cs.map .int),sP q,y7]=_;rw[B0 e7];rfl
 have kq:=hq.kg hcut.Xp hql';have ko:=hcut.kg hq.kd hql';have hsz:=(hcut.Xp.put hq hql').2;have hlb:prs.length < big:=by unfold big;lia
 have hmo:B2 cs[7] 2=some (cs[7] % 2):=by unfold B2;rw[iP (by lia)]
 have hm2:cs[7] % 2=0\/cs[7] % 2=1:=by lia
 rcases hm2 with hm|hm
 . refine⟨θ',(q,o),sL (cs.map .int),sP q,sP o,hcut.Xp,hcut.ext,hcut.len,(hp.ext hcut.ext).snoc kq ko hcut.same.symm hsz,?_⟩;rw[hunf];rw[hm]at hmo;have hx:AN (.lst [.tup [q,o],.tup [o,q]]) (.p (.int 0))=some (.p (.tup [q,o])):=rfl;unfold Zr;simp! [Aa,hi7,AR,hmo,hx,CL,Bh,hlb,enc]
 . refine⟨θ',(o,q),sL (cs.map .int),sP q,sP o,hcut.Xp,hcut.ext,hcut.len,(hp.ext hcut.ext).snoc ko kq hcut.same (by rw[hcut.same];exact hsz),?_⟩;rw[hunf];rw[hm]at hmo;have hx:AN (.lst [.tup [q,o],.tup [o,q]]) (.p (.int 1))=some (.p (.tup [o,q])):=rfl;unfold Zr;simp! [Aa,hi7,AR,hmo,hx,CL,Bh,hlb,enc]
theorem Q1{k:Nat}(hk:9<=k){names:List Iv.P}{θ:List (Iv.P×Iv.P)}(hn:names.length=6)(hns:∀p∈names,RA p)(hi:JY θ)(hl:θ.length=9):
 ∃θ' prs,JY θ'/\PI θ' prs/\θ'.length<=16/\prs.length<=7/\A0 fns mt A6 (k + 2) 12 [.b (.ro (ns.map .int)),.lst names,.AJ θ]= .ok (.lst (prs.map enc)) [some (.b (.ro (ns.map .int))),sL names,sD θ']:=by
 have hmin:Qd (ns.length:Int) 48=some (if(48:Int) < ns.length then(48:Int)else(ns.length:Int)):=rfl;generalize hmv:(if(48:Int) < ns.length then(48:Int)else(ns.length:Int))=mv at hmin;have hmv0:0<=mv/\mv<=48:=by rw[<-hmv];split<;>lia
 have hcnt:((2 + mv - 1 + 8 - 1) / 8).toNat<=7:=by lia
 have hsq:Ah .Et [.p (.int 1),.p (.int (2 + mv)),.p (.int 8)]=some ((List.range ((2 + mv - 1 + 8 - 1) / 8).toNat).map λ(k:Nat)=>Iv.P.int (1 + 8 * (k:Int))):=by
  show(if(0:Int) < 8/\(8:Int) < 1000000/\(1:Int).natAbs < 2 ^ 61/\(2 + mv).natAbs < 2 ^ 61 then _ else _)=_;rw[iP ⟨by lia,by lia,by lia,by lia⟩]
 generalize hxs:(List.range ((2 + mv - 1 + 8 - 1) / 8).toNat).map (λ(k:Nat)=>Iv.P.int (1 + 8 * (k:Int)))=xs at hsq;have hxl:xs.length<=7:=by rw[<-hxs,lM,length_range];exact hcnt
 have hxi:∀x∈xs,∃a:Nat,x= .int (a:Int):=λx hx=>by
  rw[<-hxs]at hx;obtain⟨j,_,rfl⟩:=mem_map.mp hx;exact⟨1 + 8 * j,rfl⟩
 obtain⟨ρ',⟨θ',prs,y4,y5,y6,y7,j1,j2,j3,j4,hρ⟩,e⟩:=Bx (g:=.nm 4) (gs:=[]) (b:=execs (A0 fns mt A6 (k + 1)) mt A6 Xd) (J:=λd ρ=>∃θ' prs y4 y5 y6 y7,JY θ'/\PI θ' prs/\θ'.length<=9 + d.length/\prs.length=d.length/\ρ=[some (.b (.ro (ns.map .int))),sL names,sD θ',sL (prs.map enc),y4,y5,y6,y7]) (all:=xs) (λ_ _ _=>rfl) (λd x r e ρ ⟨θ',prs,y4,y5,y6,y7,j1,j2,j3,j4,hρ⟩=>by
  subst hρ;obtain⟨a,rfl⟩:=hxi x (by rw[<-e];simp);have BV:d.length<=7:=by rw[<-e,lA]at hxl;lia
  obtain⟨θ2,pr,z5,z6,z7,h1,h2,h3,h4,h5⟩:=SW (k:=k) (a:=a) hk (ns:=ns) (y5:=y5) (y6:=y6) (y7:=y7) hn hns j1 (by lia) j2 (by lia)
  exact⟨_,_,.nx,rfl,h5,.inl rfl,θ2,prs++[pr],_,_,_,_,h1,h4,by rw[lA,lS];lia,by rw[lA,lA,j4];rfl,rfl⟩) xs [] [some (.b (.ro (ns.map .int))),sL names,sD θ,sL [],none,none,none,none] rfl ⟨θ,[],none,none,none,none,hi,λpr hp=>(by cases hp),by rw[hl];exact lR,rfl,rfl⟩
 subst hρ;refine⟨θ',prs,j1,j2,by lia,by lia,?_⟩;have had:C7 (.p (.int 2)) (.p (.int mv))=some (.p (.int (2 + mv))):=rfl
 have hd:An (A0 fns mt A6 (k + 1)) mt Ye [some (.b (.ro (ns.map .int))),sL names,sD θ,sL [],none,none,none,none]= .ok [.BG (.p (.int 1)),.BG (.p (.int (2 + mv))),.BG (.p (.int 8))] [some (.b (.ro (ns.map .int))),sL names,sD θ,sL [],none,none,none,none]:=by
  unfold Ye;simp! [Aa,DJ,AR,hmin,had]
 have hfor:exec (A0 fns mt A6 (k + 1)) mt A6 (S.CW (Tg.nm 4) IK.Et Ye Xd) [some (.b (.ro (ns.map .int))),sL names,sD θ,sL [],none,none,none,none]= .ok .nx [some (.b (.ro (ns.map .int))),sL names,sD θ',sL (prs.map enc),y4,y5,y6,y7]:=by
  rw[Cf];show(if IK.Et.ok=true then(An _ _ Ye _).bind _ else _)=_;rw[hd,Res.A5];unfold E9;have hco:AB [some (.b (.ro (ns.map .int))),sL names,sD θ,sL [],none,none,none,none] [.BG (.p (.int 1)),.BG (.p (.int (2 + mv))),.BG (.p (.int 8))]=some [.p (.int 1),.p (.int (2 + mv)),.p (.int 8)]:=rfl;rw[hco];dsimp only;rw[hsq];exact e
 have e2:execs (A0 fns mt A6 (k + 1)) mt A6 az [some (.b (.ro (ns.map .int))),sL names,sD θ,none,none,none,none,none]= .ok (.ret (.lst (prs.map enc))) [some (.b (.ro (ns.map .int))),sL names,sD θ',none,y4,y5,y6,y7]:=by
  unfold az;simp! [hfor]
 exact(Aw (args:=[.b (.ro (ns.map .int)),.lst names,.AJ θ]) ZF rfl e2).trans rfl
end Lk05
namespace Iv
open PySem
theorem P5(θ:Sub):∀(n:Nat) (p:P),(pre p).length<=n->∀X∈pre p,(pre (Ae θ X)).length<=(pre (Ae θ p)).length:=by
 intro n
 induction n with
 |zero=>intro p h;have:=Bu p;lia
 | succ n ih=>
   intro p hn X hX;cases p with
   | tup ps=>
     cases ps with
     | nil=>
       rw[As]at hX;have hX:X∈[P.tup []]:=by simpa[AI]using hX
       rw[mE hX];exact lR
     | cons x r=>
       rw[As]at hX hn;rcases mK hX with z|z
       . rw[z];exact lR
       . obtain⟨q,hq,hm⟩:=BI.mp z;have hq:q∈r:=hq;rw[lC]at hn;replace hn:(AO r).length + 1<=n + 1:=hn;have h1:=ih q (by have:=BM hq;lia) X hm;rw[AM,As,AL,lC];have h2:=BM (mem_map_of_mem (f:=Ae θ) hq);show _<=(AO (r.map (Ae θ))).length + 1
         lia
   | _=>
     unfold pre at hX;rw[mE hX];exact lR
theorem IC(F:P->P)(p:P->Bool)(x:P):∀os:List P,Af ((os.filter p).map λx=>(x,F x)) x=if x∈os/\p x=true then some (F x)else none
 |[]=>by simp[Ei]
 | o ::os=>by
   have ih:=IC F p x os
   by_cases ho:p o=true
   . rw[List.filter_cons_of_pos ho,map_cons,By,ih]
     by_cases e:o=x
     . subst e;simp[ho]
     . have:¬x=o:=λz=>e z.symm
       simp[e,this]
   . rw[List.filter_cons_of_neg ho,ih]
     by_cases e:x=o
     . subst e;simp[ho]
     . simp[e]
theorem Q4{ord os:List P}{prs:List (P×P)}{L:P->P}(hd:Done U prs A L)(ho:Ord L ord U (os.map L))(hU:HP U)(hos:∀i,P.int i∈U->P.int i∈os)(hin:∀pr∈prs,pr.1∈U/\pr.2∈U):∃σ,Fits σ prs:=by
 obtain⟨K,ks⟩:=KS.all ho ord [] [] rfl (KS.nil L);refine⟨(os.filter λx=>decide (L x≠x)).map λx=>(x,Cz K (L x)),λpr hpr=>MF hd ks ho hU hos (λx=>?_) _ pr.1 pr.2 (lR) (hin pr hpr).1 (hin pr hpr).2 (hd.one pr hpr)⟩;rw[IC (λx=>Cz K (L x))];simp
structure KN(I:List P)(n d:Nat)(l:List P):Prop where
 kd:CP l=true
 len:(AO l).length<=n
 dp:∀p∈l,p.depth<=d
 ar:∀ps,P.tup ps∈AO l->ps.length<=10
 Ip:∀i,P.int i∈AO l->P.int i∈I
variable{I:List P}{n m d:Nat}{l r:List P}{p:P}
theorem KN.nil:KN I 0 d []:=⟨rfl,by rw[AI];exact lR,nofun,by rw[AI];nofun,by rw[AI];nofun⟩
theorem KN.cons(h:KN I n d [p])(k:KN I m d l):KN I (n + m) d (p::l):=by
 have hl:=h.len;have kl:=k.len;have hk:=h.kd;have ha:=h.ar;have hi:=h.Ip;rw[Ag,AI,append_nil]at hl ha hi;rw[Bb,bA]at hk;refine⟨by rw[Bb,hk.1,k.kd];rfl,by rw[Ag,lA];lia,λq hq=>?_,λps hm=>?_,λi hm=>?_⟩
 . rcases mK hq with z|z
   . exact h.dp q (by rw[z];exact List.mem_singleton_self _)
   . exact k.dp q z
 all_goals
  rw[Ag]at hm;rcases mem_append.mp hm with z|z
 . exact ha ps z
 . exact k.ar ps z
 . exact hi i z
 . exact k.Ip i z
theorem KN.int(h:P.int i∈I):KN I 1 d [.int i]:=by
 have e:AO [P.int i]=[.int i]:=by rw[Ag,AI];unfold pre;rfl
 refine⟨by rw[Bb];unfold Al CP;rfl,by rw[e];exact lR,λp hp=>?_,λps hm=>?_,λj hm=>?_⟩
 . rw[mE hp];unfold P.depth;lia
 . rw[e]at hm;simp at hm
 . rw[e]at hm;rw[mE hm];exact h
theorem KN.tup(h:KN I n d r)(hr:r.length<=9):KN I (n + 1) (d + 1) [.tup (.str x::r)]:=by
 have e:AO [P.tup (.str x::r)]= .tup (.str x::r)::AO r:=by rw[Ag,AI,As,append_nil,tail_cons]
 refine⟨by rw[Bb,DL h.kd];rfl,by rw[e,lC];have:=h.len;lia,λp hp=>?_,λps hm=>?_,λi hm=>?_⟩
 . rw[mE hp,D1,BD];have:=DM h.dp;have h0:(P.str x).depth=0:=by unfold P.depth;rfl
   lia
 all_goals
  rw[e]at hm;rcases mK hm with z|z
 . injection z with z
   rw[z,lC];lia
 . exact h.ar ps z
 . cases z
 . exact h.Ip i z
theorem KN.mono{n' d':Nat}(h:KN I n d l)(hn:n<=n')(hd:d<=d'):KN I n' d' l:=⟨h.kd,Nat.le_trans h.len hn,λp hp=>Nat.le_trans (h.dp p hp) hd,h.ar,h.Ip⟩
theorem KN.kg(h:KN I 20 8 [p]):KG I p:=by
 have e:AO [p]=pre p:=by rw[Ag,AI,append_nil]
 have hk:=h.kd;rw[Bb,bA]at hk;exact⟨hk.1,e▸h.len,h.dp p (List.mem_singleton_self _),e▸h.ar,e▸h.Ip⟩
def X0:List P:=([300,301,302,303,304,305,306,310,311,320,321,322,323,330,331]:List Int).map .int
structure Xb(prs:List (P×P)):Prop where
 len:prs.length<=4
 no:∀θ,¬Fits θ prs
 kg:∀pr∈prs,KG X0 pr.1/\KG X0 pr.2
end Iv
namespace Lk05
open Iv PySem
theorem Iy{k:Nat}(hz:O.ok (.list .zip)=true){prs:List (Iv.P×Iv.P)}{I:List Iv.P}(hp:∀pr∈prs,KG I pr.1/\KG I pr.2)(hl:prs.length<=50)(hI:I.length < 64)(hno:∀θ,¬Fits θ prs):
 A0 fns mt A6 (k + 4) 5 [.lst (prs.map enc)]= .ok (.p .AG) [sL (prs.map enc)]:=by
 have hU:=NC hp hl;have hin:∀pr∈prs,pr.1∈Em prs/\pr.2∈Em prs:=λpr hpr=>⟨BJ.mpr ⟨pr,hpr,.inl (CN _)⟩,BJ.mpr ⟨pr,hpr,.inr (CN _)⟩⟩
 have em:ev (A0 fns mt A6 (k + 3)) mt (.make 2 []) [sL (prs.map enc),none,none,none,none,none,none,none]= .ok (Ar []) [sL (prs.map enc),none,none,none,none,none,none,none]:=by
  have hm:mt.m 2 (Str.ofString "__init__")=some 17:=by kernel_rfl
  rw[JE,hm];have hi:=N6 (k:=k + 2);simp! [Hc,hi,A8,back,lend]
 have ejj:∀{b A},A0 fns mt A6 (k + 3) 20 [Ar [],.lst (prs.map enc)]= .ok (.p (.bl b)) [some (Ar A),sL (prs.map enc)]->tv (A0 fns mt A6 (k + 3)) mt OH [sL (prs.map enc),some (Ar []),none,none,none,none,none,none]= .ok b [sL (prs.map enc),some (Ar A),none,none,none,none,none,none]:=λ{b A} ej=>by
  rw[show tv (A0 fns mt A6 (k + 3)) mt OH _=(ev (A0 fns mt A6 (k + 3)) mt OH _).bind λc ρ=>Res.of (D2 c) ρ from Mz _ _ _ _];unfold OH;rw[Hu _ rfl,DV rfl,Res.A5,FH (i:=1) (j:=0) rfl rfl rfl rfl (by decide) ej];rfl
 rcases Gf (k:=k + 1) hz hU hin (by lia)with⟨A,L,hd,ej⟩|⟨A,_,ej⟩
 . have hko:∀{p},KG I p->RB I p:=λh=>⟨h.kd,by have:=h.len;lia,h.Ip⟩
   obtain⟨os,o1,o2,eo⟩:=Dm (k:=k) (prs:=prs) (I:=I) (λpr hpr=>⟨hko (hp pr hpr).1,hko (hp pr hpr).2⟩) hI;rcases He (k:=k) hU hd.gr (λo ho=>BJ.mpr ((o1 o).mp ho).2) (by lia)with⟨A2,ord,g2,ho,el⟩|⟨A2,_,el⟩
   . obtain⟨σ,hσ⟩:=Q4 hd ho hU (λi hi=>(o1 _).mpr ⟨⟨i,rfl⟩,BJ.mp hi⟩) hin;exact absurd hσ (hno σ)
   . have tj:=ejj ej
     have e2:execs (A0 fns mt A6 (k + 3)) mt A6 Wu [sL (prs.map enc),none,none,none,none,none,none,none]= .ok (.ret (.p .AG)) [sL (prs.map enc),some (Ar A2),sL os,sP .AG,none,none,none,none]:=by
      unfold Wu;rw[B0 em]
      have s2:exec (A0 fns mt A6 (k + 3)) mt A6 (S.ifs (T.not OH) [S.ret (some (T.cst P.AG))] []) [sL (prs.map enc),some (Ar []),none,none,none,none,none,none]= .ok .nx [sL (prs.map enc),some (Ar A),none,none,none,none,none,none]:=by
       simp! [tj]
      rw[set_cons_succ,set_cons_zero,Hs s2];unfold b9;unfold Ar at el ⊢;simp! [AW,B3,eo,el,A8,back,lend,Aa,AK]
     rw[Aw f5 rfl e2];rfl
 . have tj:=ejj ej
   have e2:execs (A0 fns mt A6 (k + 3)) mt A6 Wu [sL (prs.map enc),none,none,none,none,none,none,none]= .ok (.ret (.p .AG)) [sL (prs.map enc),some (Ar A),none,none,none,none,none,none]:=by
    unfold Wu;rw[B0 em];simp! [tj]
   rw[Aw f5 rfl e2];rfl
theorem Yx{i:Int}(h0:0<=i)(h1:i < 26):AN (.p (.str Jh)) (.p (.int i))=some (.p (sign (97 + i.toNat))):=by
 have hl:∀n:Fin 26,Jh.cps.toList[n.val]? =some (97 + n.val):=by decide
 have hx:Jh.length=26:=rfl;unfold AN C.nf;dsimp only;rw[iP (by rw[hx];unfold big;lia)];unfold FN;rw[iP h0,iP (by rw[hx];exact h1)];show(Jh.cps.toList[i.toNat]?).map _=_;rw[hl ⟨i.toNat,by lia⟩];rfl
noncomputable def aM(y1 y2:Str)(m:Int):Iv.P->Iv.P
 | .int j=>.str (y1++⟨#[97 + ((m + j) % 26).toNat]⟩++y2)
 |p=>p
theorem W9{y1 y2:Str}{a b:Nat}(h:y1++⟨#[a]⟩++y2=y1++⟨#[b]⟩++y2):a=b:=by
 have h:=congrArg Str.cps h;have h:y1.cps++ #[a]++y2.cps=y1.cps++ #[b]++y2.cps:=h;have h:=congrArg Array.toList h;simp at h;exact h
structure Ru(names:List Iv.P)(n:Nat->Str):Prop where
 eq:names=[.str (n 0),.str (n 1),.str (n 2),.str (n 3),.str (n 4),.str (n 5)]
 ne:∀i j,i < 6->j < 6->i≠j->n i≠n j
theorem Ru.len{names:List Iv.P}{n:Nat->Str}(h:Ru names n):names.length=6:=by rw[h.eq];rfl
theorem Ru.RA{names:List Iv.P}{n:Nat->Str}(h:Ru names n):∀p∈names,RA p:=λp hp=>by
 rw[h.eq]at hp;simp only[mem_cons,not_mem_nil,or_false]at hp;rcases hp with h|h|h|h|h|h<;>exact⟨_,h⟩
theorem O8{k:Nat} :∃ns n,Ru ns n/\A0 fns mt A6 (k + 1) 7 [.p (.int c)]= .ok (.lst ns) [sP (.int c)]:=by
 have hm8:0<=c % 8/\c % 8 < 8:=⟨Int.emod_nonneg _ (by lia),Int.emod_lt_of_pos _ (by lia)⟩
 let J:List Iv.P->Iv.Env->Prop:=λd ρ=>∃x y3,Str.length x=d.length/\ρ=[sP (.int c),sP (.str Jh),sP (.str x),y3,none]
 have hrl:(Ad 0 (c % 8)).length<=8:=by rw[B9];lia
 obtain⟨ρ',⟨x,y3,hx,hρ⟩,e⟩:=Bx (g:=.nm 3) (gs:=[]) (b:=execs (A0 fns mt A6 k) mt A6 Zu) (J:=J) (all:=Ad 0 (c % 8)) (λ_ _ _=>rfl) (λd q r e ρ ⟨x,y3,hx,hρ⟩=>by
  subst hρ;have hq:q∈Ad 0 (c % 8):=by rw[<-e];simp
  unfold Ad at hq;obtain⟨j,hj,rfl⟩:=mem_map.mp hq;have hj:=mem_range.mp hj;have BV:d.length<=8:=by rw[<-e,lA]at hrl;lia
  obtain⟨s,hs,es⟩:=T5 (cf:=A0 fns mt A6 k) (c:=c) (j:=0 + (j:Int)) (x:=x) (y4:=none) (by lia) (by lia) (by lia)
  exact⟨_,_,.nx,rfl,es,.inl rfl,s,_,by rw[hs,hx,lA];rfl,rfl⟩) (Ad 0 (c % 8)) [] [sP (.int c),sP (.str Jh),sP (.str {cps:=#[]}),none,none] rfl ⟨{cps:=#[]},none,rfl,rfl⟩
 subst hρ;have hxl:Str.length x<=8:=by lia
 have hx1:(0:Int) < (x.length:Int) + 1:=by lia
 obtain⟨y1,hy1,e1⟩:=WA (x:=x) (i:=c / 64 % ((x.length:Int) + 1)) (by unfold big;lia) (Int.emod_nonneg _ (by lia)) (by have:=Int.emod_lt_of_pos (c / 64) hx1;lia);obtain⟨y2,hy2,e2⟩:=WB (x:=x) (i:=c / 64 % ((x.length:Int) + 1)) (by unfold big;lia) (Int.emod_nonneg _ (by lia)) (by have:=Int.emod_lt_of_pos (c / 64) hx1;lia);generalize hat:c / 64 % ((x.length:Int) + 1)=at0 at *
 obtain⟨β',⟨y,hβ⟩,n3⟩:=EB (g:=.nm 1) (cond:=Ea (A0 fns mt A6 k) mt []) (elt:=ev (A0 fns mt A6 k) mt Zt) (F:=aM y1 y2 (c / 512)) (J:=λβ=>∃y,β=[none,y,sP (.int at0),sP (.int c),sP (.str Jh),sP (.str x)]) (Ad 0 6) [] [none,none,sP (.int at0),sP (.int c),sP (.str Jh),sP (.str x)] (λq hq β ⟨y,hβ⟩=>by
  subst hβ;unfold Ad at hq;obtain⟨j,hj,rfl⟩:=mem_map.mp hq;have hs:=Yx (i:=(c / 512 + (0 + (j:Int))) % 26) (Int.emod_nonneg _ (by lia)) (Int.emod_lt_of_pos _ (by lia));have a1:∀s:Nat,C7 (.p (.str y1)) (.p (sign s))=some (.p (.str (y1++⟨#[s]⟩))):=λs=>add_str (by show y1.length + 1<=1000;lia)
  have a2:∀s:Nat,C7 (.p (.str (y1++⟨#[s]⟩))) (.p (.str y2))=some (.p (.str (y1++⟨#[s]⟩++y2))):=λs=>add_str (by rw[G7];show y1.length + 1 + y2.length<=1000;lia)
  refine⟨_,_,rfl,Cs _,?_,sP (.int (0 + (j:Int))),rfl⟩;show ev (A0 fns mt A6 k) mt Zt [none,sP (.int (0 + (j:Int))),sP (.int at0),sP (.int c),sP (.str Jh),sP (.str x)]=_;have had:C7 (.p (.int (c / 512))) (.p (.int (0 + (j:Int))))=some (.p (.int (c / 512 + (0 + (j:Int))))):=rfl;have hd:AY c 512=some (c / 512):=by unfold AY;rw[iP (by lia)]
  generalize (0 + (j:Int))=jj at *;unfold Zt aM
  simp! [Aa,DI,e1,e2,AR,hd,had,B2,hs,a1,a2]) ⟨none,rfl⟩
 subst hβ;generalize hns:(Ad 0 6).map (aM y1 y2 (c / 512))=ns at n3;have hrl6:(Ad 0 6).length=6:=by rw[B9];rfl
 refine⟨ns,λi=>y1++⟨#[97 + ((c / 512 + (i:Int)) % 26).toNat]⟩++y2,⟨by rw[<-hns];rfl,λi j hi hj hij h=>?_⟩,?_⟩
 . have:=W9 h
   lia
 rw[nil_append]at n3
 have ec:ev (A0 fns mt A6 k) mt aN [sP (.int c),sP (.str Jh),sP (.str x),y3,sP (.int at0)]= .ok (.lst ns) [sP (.int c),sP (.str Jh),sP (.str x),y3,sP (.int at0)]:=by
  unfold aN;rw[CK];have hb:AD (BX [none,none,some 4,some 0,some 1,some 2] [sP (.int c),sP (.str Jh),sP (.str x),y3,sP (.int at0)]) [none,none,some 4,some 0,some 1,some 2] [none,y,sP (.int at0),sP (.int c),sP (.str Jh),sP (.str x)]=[sP (.int c),sP (.str Jh),sP (.str x),y3,sP (.int at0)]:=rfl;have hbig:(Ad 0 6).length<=big:=by rw[hrl6];unfold big;lia
  simp! [IK.ok,DP,Ah,A8,BW,Bv,guards,hbig,Bd,n3,hb,Tg.slots]
 have e2':execs (A0 fns mt A6 k) mt A6 aL [sP (.int c),none,none,none,none]= .ok (.ret (.lst ns)) [sP (.int c),sP (.str Jh),sP (.str x),y3,sP (.int at0)]:=by
  have hd:AY c 64=some (c / 64):=by unfold AY;rw[iP (by lia)]
  have hmo:B2 (c / 64) ((x.length:Int) + 1)=some at0:=by unfold B2;rw[iP hx1,hat]
  have hna:(c % 8).natAbs < 2 ^ 61:=by lia
  have hna2:(c % 8).natAbs < 2305843009213693952:=by lia
  have hm8':B2 c 8=some (c % 8):=by unfold B2;rw[iP (by lia)]
  have hxb:x.length<=big:=by unfold big;lia
  have had:C7 (.p (.int (x.length:Int))) (.p (.int 1))=some (.p (.int ((x.length:Int) + 1))):=rfl;unfold aL;simp! [Cf,IK.ok,E9,Ah,A8,guards,Aa,AR,hm8',hna,hna2,e,hd,DJ,hxb,had,hmo,ec]
 rw[Aw f7 rfl e2'];rfl
end Lk05
namespace Iv
open PySem
theorem b6{i:Int}(h0:0<=i)(h1:i < 2)(a b:P):AN (.lst [a,b]) (.p (.int i))=some (.p (if i=0 then a else b)):=by
 rcases(by lia:i=0\/i=1)with rfl|rfl<;>rfl
theorem Wr{i:Int}(h0:0<=i)(h1:i < 3)(a b c:P):AN (.lst [a,b,c]) (.p (.int i))=some (.p (if i=0 then a else if i=1 then b else c)):=by
 rcases(by lia:i=0\/i=1\/i=2)with rfl|rfl|rfl<;>rfl
theorem b5{i:Int}(h0:0<=i)(h1:i < 5)(a b c d e:P):AN (.lst [a,b,c,d,e]) (.p (.int i))=some (.p (if i=0 then a else if i=1 then b else if i=2 then c else if i=3 then d else e)):=by
 rcases(by lia:i=0\/i=1\/i=2\/i=3\/i=4)with rfl|rfl|rfl|rfl|rfl<;>rfl
theorem add_int(i j:Int):C7 (.p (.int i)) (.p (.int j))=some (.p (.int (i + j))):=rfl
theorem Iz{a b:P}{l:List (P×P)}:Fits θ ((a,b)::l)↔Ae θ a=Ae θ b/\Fits θ l:=by unfold Fits;simp
end Iv
namespace Lk05
open Iv PySem
variable{n:Nat->Str}{c:Int}{names:List Iv.P}{θ:Sub}
theorem Ru.at(h:Ru names n):∀i:Nat,i < 6->AN (.lst names) (.p (.int (i:Int)))=some (.p (.str (n i)))
 |0,_|1,_|2,_|3,_|4,_|5,_=>by rw[h.eq];rfl
 |i + 6,hi=>by lia
noncomputable def bG:T:=T.prim O.idx [T.lst [T.tup [T.prim O.idx [T.var 1,T.cst (P.int 2)],T.var 0],T.tup [T.prim O.idx [T.var 1,T.cst (P.int 4)],T.var 0,T.cst (P.int 300)],T.tup [T.prim O.idx [T.var 1,T.cst (P.int 5)],T.cst (P.int 301),T.cst (P.int 302),T.var 0]],T.prim O.mod [T.prim O.fdiv [T.prim O.fdiv [T.var 2,T.cst (P.int 4)],T.prim O.add [T.var 3,T.cst (P.int 1)]],T.cst (P.int 3)]]
def ZV:List S:=[S.asg (Tg.nm 0) bG]
theorem cM:fns[13]? =some ⟨3,4,[S.CW (Tg.nm 3) IK.Et [T.prim O.mod [T.var 2,T.cst (P.int 4)]] ZV,S.ret (some (T.var 0))]⟩:=by kernel_rfl
noncomputable def V4(n:Nat->Str)(i:Int)(q:Iv.P):Iv.P:=if i=0 then .tup [.str (n 2),q]else if i=1 then .tup [.str (n 4),q,.int 300]else .tup [.str (n 5),.int 301,.int 302,q]
def Rz(n:Nat->Str)(c:Int)(q:Iv.P):Iv.P->Iv.P
 | .int j=>V4 n (c / 4 / (j + 1) % 3) q
 |_=>q
def wr(n:Nat->Str)(c:Int)(q:Iv.P):Iv.P:=(Ad 0 (c % 4)).foldl (Rz n c) q
theorem Lr{k:Nat}(h:Ru names n)(q:Iv.P):A0 fns mt A6 (k + 1) 13 [.p q,.lst names,.p (.int c)]= .ok (.p (wr n c q)) [none,sL names,sP (.int c)]:=by
 obtain⟨ρ',⟨y,hρ⟩,e⟩:=Bx (g:=.nm 3) (gs:=[]) (b:=execs (A0 fns mt A6 k) mt A6 ZV) (J:=λd ρ=>∃y,ρ=[sP (d.foldl (Rz n c) q),sL names,sP (.int c),y]) (all:=Ad 0 (c % 4)) (λ_ _ _=>rfl) (λd x r e ρ ⟨y,hρ⟩=>by
  subst hρ;have hx:x∈Ad 0 (c % 4):=by rw[<-e];simp
  unfold Ad at hx;obtain⟨j,hjr,rfl⟩:=mem_map.mp hx;have hjr:=mem_range.mp hjr;rw[foldl_append];refine⟨_,_,.nx,rfl,?_,.inl rfl,sP (.int (0 + (j:Int))),rfl⟩;show execs _ mt A6 _ [sP (d.foldl (Rz n c) q),sL names,sP (.int c),sP (.int (0 + (j:Int)))]=_;have h2:AN (.lst names) (.p (.int 2))=_:=h.at 2 (by lia);have h4:AN (.lst names) (.p (.int 4))=_:=h.at 4 (by lia);have h5:AN (.lst names) (.p (.int 5))=_:=h.at 5 (by lia);have hj:(0:Int) < 0 + (j:Int) + 1:=by lia
  have hj2:0 + (j:Int) + 1 < 1073741824:=by lia
  generalize (0 + (j:Int))=jj at *;have hi:=Wr (i:=c / 4 / (jj + 1) % 3) (by lia) (by lia);unfold ZV bG
  simp! [Aa,h2,h4,h5,AR,AY,add_int,hj,hj2,B2,hi,Rz,V4]) (Ad 0 (c % 4)) [] [sP q,sL names,sP (.int c),none] rfl ⟨none,rfl⟩
 subst hρ;have hna:(c % 4).natAbs < 2 ^ 61:=by lia
 have hna2:(c % 4).natAbs < 2305843009213693952:=by lia
 rw[Aw (c:=.p (wr n c q)) (ρ:=[sP (wr n c q),sL names,sP (.int c),y]) cM rfl (by
   show execs (A0 fns mt A6 k) mt A6 _ [sP q,sL names,sP (.int c),none]=_
   simp! [Cf,IK.ok,E9,Ah,A8,guards,Aa,AR,B2,hna,hna2,e,wr])]
 rfl
theorem RN(h:Ae θ (V4 n i a)=Ae θ (V4 n i b)):Ae θ a=Ae θ b:=by
 unfold V4 at h;split at h
 . simpa[AM,CC,CY]using h
 . split at h<;>simpa[AM,CC,CY]using h
theorem OM:∀{l:List Iv.P} {a b:Iv.P},Ae θ (l.foldl (Rz n c) a)=Ae θ (l.foldl (Rz n c) b)->Ae θ a=Ae θ b
 |[],a,b,h=>h
 | x::l,a,b,h=>by
   have h:=OM (l:=l) h;unfold Rz at h;split at h
   . exact RN h
   . exact h
theorem V3{a:Iv.P}{m d:Nat}(h:KN X0 m d [a]):KN X0 (m + 3) (d + 1) [V4 n i a]:=by
 have hx:∀i:Int,300<=i/\i<=302->KN X0 1 d [.int i]:=λi hi=>KN.int (by rcases(by lia:i=300\/i=301\/i=302)with rfl|rfl|rfl<;>simp[X0])
 unfold V4;split
 . exact(KN.tup (h.cons .nil) (by simp)).mono (by lia) (by lia)
 . split
   . exact(KN.tup (h.cons ((hx 300 (by lia)).cons .nil)) (by simp)).mono (by lia) (by lia)
   . exact(KN.tup ((hx 301 (by lia)).cons ((hx 302 (by lia)).cons (h.cons .nil))) (by simp)).mono (by lia) (by lia)
theorem ON:∀{l:List Iv.P} {a:Iv.P} {m d:Nat},KN X0 m d [a]->KN X0 (m + 3 * l.length) (d + l.length) [l.foldl (Rz n c) a]
 |[],a,m,d,h=>h
 | x ::l,a,m,d,h=>by
   have h1:KN X0 (m + 3) (d + 1) [Rz n c a x]:=by
    unfold Rz;split
    . exact V3 h
    . exact h.mono (by lia) (by lia)
   exact(ON (l:=l) h1).mono (by rw[lC];lia) (by rw[lC];lia)
theorem Uy{a:Iv.P}(h:KN X0 3 1 [a]):KG X0 (wr n c a):=by
 have hl:(Ad 0 (c % 4)).length<=3:=by rw[B9];lia
 exact((ON (l:=Ad 0 (c % 4)) h).mono (by lia) (by lia)).kg
noncomputable def ZN:T:=T.prim O.idx [T.lst [T.tup [T.prim O.idx [T.var 0,T.cst (P.int 0)]],T.tup [T.prim O.idx [T.var 0,T.cst (P.int 2)],T.cst (P.int 303)],T.tup [T.prim O.idx [T.var 0,T.cst (P.int 4)],T.cst (P.int 304),T.cst (P.int 305)]],T.prim O.mod [T.var 1,T.cst (P.int 3)]]
noncomputable def ZM:T:=T.prim O.idx [T.lst [T.tup [T.prim O.idx [T.var 0,T.cst (P.int 1)]],T.tup [T.prim O.idx [T.var 0,T.cst (P.int 3)],T.cst (P.int 303)],T.tup [T.prim O.idx [T.var 0,T.cst (P.int 4)],T.cst (P.int 304)],T.tup [T.prim O.idx [T.var 0,T.cst (P.int 0)],T.cst (P.int 306)],T.tup [T.prim O.idx [T.var 0,T.cst (P.int 5)],T.cst (P.int 304),T.cst (P.int 305)]],T.prim O.mod [T.prim O.fdiv [T.var 1,T.cst (P.int 3)],T.cst (P.int 5)]]
def Ze(i:Nat):T:=T.call 13 [T.var i,T.var 0,T.prim O.fdiv [T.var 1,T.cst (P.int 15)]]
noncomputable def Zf(i:Int):T:=T.prim O.eq [T.prim O.mod [T.prim O.fdiv [T.var 1,T.cst (P.int 1000)],T.cst (P.int 3)],T.cst (P.int i)]
noncomputable def Zd:List S:=[S.asg (Tg.nm 2) ZN,S.asg (Tg.nm 3) ZM,S.asg (Tg.nm 4) (Ze 2),S.asg (Tg.nm 5) (Ze 3),S.ifs (Zf 0) [S.ret (some (T.lst [T.tup [T.var 4,T.var 5]]))] [],
 S.ifs (Zf 1) [S.ret (some (T.lst [T.tup [T.cst (P.int 310),T.var 4],T.tup [T.cst (P.int 311),T.var 5],T.tup [T.cst (P.int 310),T.cst (P.int 311)]]))] [],
 S.ret (some (T.lst [T.tup [T.var 4,T.cst (P.int 310)],T.tup [T.cst (P.int 311),T.cst (P.int 310)],T.tup [T.var 5,T.cst (P.int 311)]]))]
theorem cL:fns[14]? =some ⟨2,6,Zd⟩:=by kernel_rfl
noncomputable def one(n:Nat->Str)(i:Int):Iv.P:=if i=0 then .tup [.str (n 0)]else if i=1 then .tup [.str (n 2),.int 303]else .tup [.str (n 4),.int 304,.int 305]
noncomputable def two(n:Nat->Str)(i:Int):Iv.P:=if i=0 then .tup [.str (n 1)]else if i=1 then .tup [.str (n 3),.int 303]else if i=2 then .tup [.str (n 4),.int 304]else if i=3 then .tup [.str (n 0),.int 306]else .tup [.str (n 5),.int 304,.int 305]
theorem Yg(h:Ru names n)(e:Ae θ (one n i)=Ae θ (two n j)):False:=by
 have h1:=h.ne 0 1 (by lia) (by lia) (by lia);have h2:=h.ne 2 3 (by lia) (by lia) (by lia);have h3:=h.ne 2 4 (by lia) (by lia) (by lia);have h4:=h.ne 2 0 (by lia) (by lia) (by lia);have h5:=h.ne 4 5 (by lia) (by lia) (by lia);unfold one two at e
 repeat' split at e
 all_goals simp[AM,CC,CY,h1,h2,h3,h4,h5]at e
theorem Lo{i:Int}{d:Nat}(h:303<=i/\i<=306):KN X0 1 d [.int i]:=KN.int (by rcases(by lia:i=303\/i=304\/i=305\/i=306)with rfl|rfl|rfl|rfl<;>simp[X0])
theorem Yh(i j:Int):KN X0 3 1 [one n i]/\KN X0 3 1 [two n j]:=by
 have k0:∀x:Str,KN X0 3 1 [.tup [.str x]]:=λx=>(KN.tup (d:=0) .nil (by simp)).mono (by lia) (by lia)
 have k1:∀(x:Str) (i:Int),303<=i/\i<=306->KN X0 3 1 [.tup [.str x,.int i]]:=λx i hi=>(KN.tup (d:=0) ((Lo hi).cons .nil) (by simp)).mono (by lia) (by lia)
 have k2:∀(x:Str),KN X0 3 1 [.tup [.str x,.int 304,.int 305]]:=λx=>(KN.tup (d:=0) ((Lo (by lia)).cons ((Lo (by lia)).cons .nil)) (by simp)).mono (by lia) (by lia)
 constructor
 . unfold one
   repeat' split
   all_goals first|exact k0 _|exact k1 _ _ (by lia)|exact k2 _
 . unfold two
   repeat' split
   all_goals first|exact k0 _|exact k1 _ _ (by lia)|exact k2 _
theorem Qr(h:Iv.P.int i∈X0):KG X0 (.int i):=((KN.int (d:=0) h).mono (by lia) (by lia)).kg
theorem Mq{k:Nat}(h:Ru names n):∃prs,Xb prs/\A0 fns mt A6 (k + 2) 14 [.lst names,.p (.int c)]= .ok (.lst (prs.map enc)) [sL names,sP (.int c)]:=by
 have w:=λq=>Lr (k:=k) (c:=c / 15) h q
 have h0:AN (.lst names) (.p (.int 0))=_:=h.at 0 (by lia);have h1:AN (.lst names) (.p (.int 1))=_:=h.at 1 (by lia);have h2:AN (.lst names) (.p (.int 2))=_:=h.at 2 (by lia);have h3:AN (.lst names) (.p (.int 3))=_:=h.at 3 (by lia);have h4:AN (.lst names) (.p (.int 4))=_:=h.at 4 (by lia);have h5:AN (.lst names) (.p (.int 5))=_:=h.at 5 (by lia);have i3:=Wr (i:=c % 3) (by lia) (by lia);have i5:=b5 (i:=c / 3 % 5) (by lia) (by lia);obtain⟨ka,kb⟩:=Yh (n:=n) (c % 3) (c / 3 % 5);have ga:=Uy (n:=n) (c:=c / 15) ka;have gb:=Uy (n:=n) (c:=c / 15) kb;have no:∀θ,Ae θ (wr n (c / 15) (one n (c % 3)))≠Ae θ (wr n (c / 15) (two n (c / 3 % 5))):=λθ e=>Yg h (OM e)
 have ea:∀{c2 c3 c4 c5:Option C},ev (A0 fns mt A6 (k + 1)) mt ZN [sL names,sP (.int c),c2,c3,c4,c5]= .ok (.p (one n (c % 3))) [sL names,sP (.int c),c2,c3,c4,c5]:=by
  intros
  unfold ZN one;simp! [Aa,h0,h2,h4,AR,B2,i3]
 have eb:∀{c2 c3 c4 c5:Option C},ev (A0 fns mt A6 (k + 1)) mt ZM [sL names,sP (.int c),c2,c3,c4,c5]= .ok (.p (two n (c / 3 % 5))) [sL names,sP (.int c),c2,c3,c4,c5]:=by
  intros
  unfold ZM two;simp! [Aa,h0,h1,h3,h4,h5,AR,B2,AY,i5]
 generalize one n (c % 3)=a at *;generalize two n (c / 3 % 5)=b at *
 have go:∀{r:List Iv.P},execs (A0 fns mt A6 (k + 1)) mt A6 (Zd.drop 4) [sL names,sP (.int c),sP a,sP b,sP (wr n (c / 15) a),sP (wr n (c / 15) b)]= .ok (.ret (.lst r)) [sL names,sP (.int c),sP a,sP b,sP (wr n (c / 15) a),sP (wr n (c / 15) b)]->A0 fns mt A6 (k + 2) 14 [.lst names,.p (.int c)]= .ok (.lst r) [sL names,sP (.int c)]:=λ{r} e=>by
  refine(Aw (args:=[.lst names,.p (.int c)]) (ρ:=[sL names,sP (.int c),sP a,sP b,sP (wr n (c / 15) a),sP (wr n (c / 15) b)]) cL rfl ?_).trans rfl;show execs _ mt A6 (S.asg (Tg.nm 2) ZN::S.asg (Tg.nm 3) ZM::S.asg (Tg.nm 4) (Ze 2)::S.asg (Tg.nm 5) (Ze 3)::Zd.drop 4) [sL names,sP (.int c),none,none,none,none]=_;generalize Zd.drop 4=rest at *;unfold Ze;simp! [ea,eb,AW,B3,A8,back,lend,Aa,AR,AY,w,e]
 generalize wr n (c / 15) a=a' at *;generalize wr n (c / 15) b=b' at *;have k310:KG X0 (.int 310):=Qr (by simp[X0]);have k311:KG X0 (.int 311):=Qr (by simp[X0])
 have sh:Zd.drop 4=[S.ifs (Zf 0) [S.ret (some (T.lst [T.tup [T.var 4,T.var 5]]))] [],
  S.ifs (Zf 1) [S.ret (some (T.lst [T.tup [T.cst (P.int 310),T.var 4],T.tup [T.cst (P.int 311),T.var 5],T.tup [T.cst (P.int 310),T.cst (P.int 311)]]))] [],
  S.ret (some (T.lst [T.tup [T.var 4,T.cst (P.int 310)],T.tup [T.cst (P.int 311),T.cst (P.int 310)],T.tup [T.var 5,T.cst (P.int 311)]]))]:=rfl
 rw[sh]at go;unfold Zf at go;rcases(by lia:c / 1000 % 3=0\/c / 1000 % 3=1\/c / 1000 % 3=2)with z|z|z
 . refine⟨[(a',b')],⟨by simp,λθ f=>no θ (Hq.mp f),?_⟩,go ?_⟩
   . simp[ga,gb]
   . simp! [Aa,AR,AY,B2,z,AK,E7,eq_int,enc]
 . refine⟨[(.int 310,a'),(.int 311,b'),(.int 310,.int 311)],⟨by simp,λθ f=>?_,?_⟩,go ?_⟩
   . simp only[Iz]at f;exact no θ (by rw[<-f.1,<-f.2.1,f.2.2.1])
   . simp[ga,gb,k310,k311]
   . simp! [Aa,AR,AY,B2,z,AK,E7,eq_int,enc]
 . refine⟨[(a',.int 310),(.int 311,.int 310),(b',.int 311)],⟨by simp,λθ f=>?_,?_⟩,go ?_⟩
   . simp only[Iz]at f;exact no θ (by rw[f.1,f.2.2.1,f.2.1])
   . simp[ga,gb,k310,k311]
   . simp! [Aa,AR,AY,B2,z,AK,E7,eq_int,enc]
noncomputable def bh:T:=T.prim O.idx [T.lst [T.tup [T.prim O.idx [T.var 0,T.cst (P.int 2)],T.var 5],T.tup [T.prim O.idx [T.var 0,T.cst (P.int 4)],T.cst (P.int 330),T.var 5],T.tup [T.prim O.idx [T.var 0,T.cst (P.int 5)],T.var 5,T.var 5,T.cst (P.int 331)]],T.prim O.mod [T.prim O.fdiv [T.var 1,T.cst (P.int 32)],T.cst (P.int 3)]]
noncomputable def bo:List S:=[S.asg (Tg.nm 5) (T.prim O.add [T.cst (P.int 320),T.prim O.mod [T.prim O.add [T.var 4,T.cst (P.int 1)],T.var 2]]),S.asg (Tg.nm 6) (T.var 5),
 S.ifs (T.or (T.prim O.eq [T.var 4,T.prim O.mod [T.prim O.fdiv [T.var 1,T.cst (P.int 4)],T.var 2]]) (T.prim O.eq [T.prim O.mod [T.prim O.fdiv [T.var 1,T.cst (P.int 16)],T.cst (P.int 2)],T.cst (P.int 1)])) [S.asg (Tg.nm 6) bh] [],
 S.expr (T.F4 MO.append (T.var 3) [T.prim O.idx [T.lst [T.tup [T.prim O.add [T.cst (P.int 320),T.var 4],T.var 6],T.tup [T.var 6,T.prim O.add [T.cst (P.int 320),T.var 4]]],T.prim O.mod [T.prim O.fdiv [T.var 1,T.cst (P.int 96)],T.cst (P.int 2)]]])]
noncomputable def bg:List S:=[S.asg (Tg.nm 2) (T.prim O.add [T.cst (P.int 1),T.prim O.mod [T.var 1,T.cst (P.int 4)]]),S.asg (Tg.nm 3) (T.lst []),S.CW (Tg.nm 4) IK.Et [T.var 2] bo,S.ret (some (T.var 3))]
theorem cK:fns[15]? =some ⟨2,7,bg⟩:=by kernel_rfl
noncomputable def UX(n:Nat->Str)(x i:Int):Iv.P:=if i=0 then .tup [.str (n 2),.int x]else if i=1 then .tup [.str (n 4),.int 330,.int x]else .tup [.str (n 5),.int x,.int x,.int 331]
noncomputable def Rh(n:Nat->Str)(c m j:Int):Iv.P:=if j=c / 4 % m\/c / 16 % 2=1 then UX n (320 + (j + 1) % m) (c / 32 % 3)else .int (320 + (j + 1) % m)
noncomputable def OJ(n:Nat->Str)(c m:Int):Iv.P->Iv.P×Iv.P
 | .int j=>if c / 96 % 2=0 then(.int (320 + j),Rh n c m j)else(Rh n c m j,.int (320 + j))
 |p=>(p,p)
theorem YW :(pre (Ae θ (.int x))).length < (pre (Ae θ (UX n x i))).length:=by
 unfold UX
 repeat' split
 all_goals
  simp only[AM,CC,CY,As,tail_cons,Ag,AI,lC,lA]
  lia
theorem YV{m j:Int}(h0:0<=j)(h1:j < m)(hm:m<=4):KG X0 (.int (320 + j))/\KG X0 (Rh n c m j):=by
 have kx:∀{i:Int} {d:Nat},320<=i/\i<=323->KN X0 1 d [.int i]:=λ{i d} h=>KN.int (by rcases(by lia:i=320\/i=321\/i=322\/i=323)with rfl|rfl|rfl|rfl<;>simp[X0])
 have hx:0<=(j + 1) % m/\(j + 1) % m < m:=⟨Int.emod_nonneg _ (by lia),Int.emod_lt_of_pos _ (by lia)⟩;refine⟨((kx (d:=0) (by lia)).mono (by lia) (by lia)).kg,?_⟩;have k1:=kx (i:=320 + (j + 1) % m) (d:=0) (by lia);have k330:KN X0 1 0 [.int 330]:=KN.int (by simp[X0]);have k331:KN X0 1 0 [.int 331]:=KN.int (by simp[X0]);unfold Rh UX
 repeat' split
 . exact((KN.tup (k1.cons .nil) (by simp)).mono (by lia) (by lia)).kg
 . exact((KN.tup (k330.cons (k1.cons .nil)) (by simp)).mono (by lia) (by lia)).kg
 . exact((KN.tup (k1.cons (k1.cons (k331.cons .nil))) (by simp)).mono (by lia) (by lia)).kg
 . exact(k1.mono (by lia) (by lia)).kg
theorem YU(e:Ae θ (OJ n c m (.int j)).1=Ae θ (OJ n c m (.int j)).2):(pre (Ae θ (.int (320 + (j + 1) % m)))).length<=(pre (Ae θ (.int (320 + j)))).length/\(j=c / 4 % m->(pre (Ae θ (.int (320 + (j + 1) % m)))).length < (pre (Ae θ (.int (320 + j)))).length):=by
 have e:Ae θ (.int (320 + j))=Ae θ (Rh n c m j):=by
  by_cases z:c / 96 % 2=0<;>simp only[OJ,z,if_true,if_false]at e
  . exact e
  . exact e.symm
 unfold Rh at e;rw[e];split
 . have:=YW (n:=n) (θ:=θ) (x:=320 + (j + 1) % m) (i:=c / 32 % 3);exact⟨by lia,λ_=>this⟩
 . rename_i h;exact⟨lR,λz=>absurd (.inl z) h⟩
theorem YT{m:Int}(h0:1<=m)(h1:m<=4)(f:Fits θ ((Ad 0 m).map (OJ n c m))):False:=by
 have H:∀j:Int,0<=j->j < m->_:=λj hj hm=>YU (n:=n) (c:=c) (m:=m) (j:=j) (f _ (mem_map.mpr ⟨.int j,by
  unfold Ad
  exact mem_map.mpr ⟨j.toNat,mem_range.mpr (by lia),by rw[show(0:Int) + (j.toNat:Int)=j by lia]⟩,rfl⟩))
 have hs:0<=c / 4 % m/\c / 4 % m < m:=⟨Int.emod_nonneg _ (by lia),Int.emod_lt_of_pos _ (by lia)⟩;generalize c / 4 % m=st at *;rcases(by lia:m=1\/m=2\/m=3\/m=4)with rfl|rfl|rfl|rfl
 . have a:=H 0 (by lia) (by lia);simp at a
   lia
 . have a:=H 0 (by lia) (by lia);have b:=H 1 (by lia) (by lia);simp at a b
   lia
 . have a:=H 0 (by lia) (by lia);have b:=H 1 (by lia) (by lia);have d:=H 2 (by lia) (by lia);simp at a b d
   lia
 . have a:=H 0 (by lia) (by lia);have b:=H 1 (by lia) (by lia);have d:=H 2 (by lia) (by lia);have e:=H 3 (by lia) (by lia);simp at a b d e
   lia
theorem Oy{k:Nat}(h:Ru names n):∃prs,Xb prs/\A0 fns mt A6 (k + 1) 15 [.lst names,.p (.int c)]= .ok (.lst (prs.map enc)) [sL names,sP (.int c)]:=by
 have h2:AN (.lst names) (.p (.int 2))=_:=h.at 2 (by lia);have h4:AN (.lst names) (.p (.int 4))=_:=h.at 4 (by lia);have h5:AN (.lst names) (.p (.int 5))=_:=h.at 5 (by lia);have i3:=Wr (i:=c / 32 % 3) (by lia) (by lia);have i2:=b6 (i:=c / 96 % 2) (by lia) (by lia);have hm:1<=1 + c % 4/\1 + c % 4<=4:=by lia
 have e0:C7 (.p (.int 1)) (.p (.int (c % 4)))=some (.p (.int (1 + c % 4))):=rfl;generalize 1 + c % 4=m at hm e0;have hrl:(Ad 0 m).length<=4:=by rw[B9];lia
 obtain⟨ρ',⟨y4,y5,y6,hρ⟩,e⟩:=Bx (g:=.nm 4) (gs:=[]) (b:=execs (A0 fns mt A6 k) mt A6 bo) (J:=λd ρ=>∃y4 y5 y6,ρ=[sL names,sP (.int c),sP (.int m),sL ((d.map (OJ n c m)).map enc),y4,y5,y6]) (all:=Ad 0 m) (λ_ _ _=>rfl) (λd x r e ρ ⟨y4,y5,y6,hρ⟩=>by
  subst hρ;have hx:x∈Ad 0 m:=by rw[<-e];simp
  unfold Ad at hx;obtain⟨j,hj,rfl⟩:=mem_map.mp hx;have BV:d.length < big:=by rw[<-e,lA,lC]at hrl;unfold big;lia
  have hm0:0 < m:=by lia
  rw[map_append,map_append];refine⟨_,_,.nx,rfl,?_,.inl rfl,sP (.int (0 + (j:Int))),sP (.int (320 + (0 + (j:Int) + 1) % m)),sP (Rh n c m (0 + (j:Int))),rfl⟩;show execs _ mt A6 _ [sL names,sP (.int c),sP (.int m),sL ((d.map (OJ n c m)).map enc),sP (.int (0 + (j:Int))),y5,y6]=_;generalize (0 + (j:Int))=jj at *
  have hq:enc (OJ n c m (.int jj))=if c / 96 % 2=0 then .tup [.int (320 + jj),Rh n c m jj]else .tup [Rh n c m jj,.int (320 + jj)]:=by
   by_cases z:c / 96 % 2=0<;>simp[OJ,enc,z]
  have hdl2:((d.map (OJ n c m)).map enc).length < big:=by rw[lM,lM];exact BV
  generalize (d.map (OJ n c m)).map enc=ps at *
  have ek:∀{y6:Option C},ev (A0 fns mt A6 k) mt bh [sL names,sP (.int c),sP (.int m),sL ps,sP (.int jj),sP (.int (320 + (jj + 1) % m)),y6]= .ok (.p (UX n (320 + (jj + 1) % m) (c / 32 % 3))) [sL names,sP (.int c),sP (.int m),sL ps,sP (.int jj),sP (.int (320 + (jj + 1) % m)),y6]:=by
   intros
   unfold bh UX;simp! [Aa,h2,h4,h5,AR,B2,AY,i3]
  have hD:Rh n c m jj=if jj=c / 4 % m\/c / 16 % 2=1 then UX n (320 + (jj + 1) % m) (c / 32 % 3)else .int (320 + (jj + 1) % m):=rfl
  generalize UX n (320 + (jj + 1) % m) (c / 32 % 3)=f at *;generalize Rh n c m jj=dd at *;unfold bo
  by_cases z1:jj=c / 4 % m
  . rw[iP (.inl z1)]at hD;subst hD;have z3:GC (.int jj) (.int (c / 4 % m))=some true:=by rw[eq_int,decide_eq_true z1]
    simp! [Aa,add_int,AR,B2,AY,hm0,AK,E7,z3,ek,i2,CL,Bh,hdl2,hq]
  . by_cases z2:c / 16 % 2=1
    . rw[iP (.inr z2)]at hD;subst hD;simp! [Aa,add_int,AR,B2,AY,hm0,AK,E7,eq_int,z1,z2,ek,i2,CL,Bh,hdl2,hq]
    . rw[iN (λz=>z.elim z1 z2)]at hD;subst hD
      simp! [Aa,add_int,AR,B2,AY,hm0,AK,E7,eq_int,z1,z2,i2,CL,Bh,hdl2,hq]) (Ad 0 m) [] [sL names,sP (.int c),sP (.int m),sL [],none,none,none] rfl ⟨none,none,none,rfl⟩
 subst hρ;refine⟨(Ad 0 m).map (OJ n c m),⟨by rw[lM];exact hrl,λθ f=>YT hm.1 hm.2 f,λpr hpr=>?_⟩,?_⟩
 . obtain⟨x,hx,rfl⟩:=mem_map.mp hpr;unfold Ad at hx;obtain⟨j,hj,rfl⟩:=mem_map.mp hx;have hj:=mem_range.mp hj;obtain⟨k1,k2⟩:=YV (n:=n) (c:=c) (m:=m) (j:=0 + (j:Int)) (by lia) (by lia) hm.2
   by_cases z:c / 96 % 2=0<;>simp only[OJ,z,if_true,if_false]
   . exact⟨k1,k2⟩
   . exact⟨k2,k1⟩
 . have hna:m.natAbs < 2 ^ 61:=by lia
   have hna2:m.natAbs < 2305843009213693952:=by lia
   refine(Aw (args:=[.lst names,.p (.int c)]) (ρ:=[sL names,sP (.int c),sP (.int m),none,y4,y5,y6]) cK rfl ?_).trans rfl;show execs _ mt A6 bg [sL names,sP (.int c),none,none,none,none,none]=_;unfold bg;simp! [Aa,AR,B2,e0,Cf,IK.ok,E9,Ah,A8,guards,hna,hna2,e]
end Lk05
namespace Iv
open PySem
theorem Xb.rev{prs:List (P×P)}(h:Xb prs):Xb prs.reverse:=⟨by rw[length_reverse];exact h.len,λθ f=>h.no θ λpr hpr=>f pr (mem_reverse.mpr hpr),λpr hpr=>h.kg pr (mem_reverse.mp hpr)⟩
theorem R8(h:∀x v,Af σ x≠some v):σ=[]:=by
 cases σ with
 |nil=>rfl
 |cons q l=>exact absurd (by rw[By,iP rfl]) (h q.1 q.2)
end Iv
namespace Lk05
open Iv PySem
noncomputable def Zv:T:=T.prim O.add [T.prim O.add [T.prim (O.Gj false true) [T.var 3,T.var 6],T.var 5],T.prim (O.Gj true false) [T.var 3,T.var 6]]
noncomputable def l6:S:=S.ifs (T.prim O.eq [T.prim O.mod [T.var 4,T.cst (P.int 2)],T.cst (P.int 1)]) [S.asg (Tg.nm 5) (T.call 15 [T.var 1,T.prim O.fdiv [T.var 4,T.cst (P.int 2)]])] []
noncomputable def l7:S:=S.ifs (T.prim O.eq [T.prim O.mod [T.call 6 [T.var 0,T.cst (P.int 58)],T.cst (P.int 2)],T.cst (P.int 1)]) [S.expr (T.F4 MO.reverse (T.var 5) [])] []
noncomputable def l8:T:=T.prim O.mod [T.prim O.fdiv [T.call 6 [T.var 0,T.cst (P.int 58)],T.cst (P.int 2)],T.prim O.add [T.prim O.len [T.var 3],T.cst (P.int 1)]]
noncomputable def l9:List S:=[S.ifs (T.or (T.not (T.prim (O.Js Ty.dict) [T.call 5 [T.var 3]])) (T.prim O.YE [T.call 5 [Zv],T.cst P.AG])) [S.ret (some (T.cst (P.bl false)))] [],
 S.ret (some (T.and (T.prim O.is [T.call 5 [T.var 5],T.cst P.AG]) (T.and (T.prim (O.Js Ty.dict) [T.call 5 [T.var 3]]) (T.prim O.eq [T.call 5 [T.lst []],T.AJ [] []]))))]
noncomputable def aS:List S:=S.asg (Tg.nm 1) (T.call 7 [T.call 6 [T.var 0,T.cst (P.int 0)]])::S.asg (Tg.nm 2) (T.call 11 [T.var 0,T.var 1])::S.asg (Tg.nm 3) (T.call 12 [T.var 0,T.var 1,T.var 2])::S.asg (Tg.nm 4) (T.call 6 [T.var 0,T.cst (P.int 57)])::S.asg (Tg.nm 5) (T.call 14 [T.var 1,T.prim O.fdiv [T.var 4,T.cst (P.int 2)]])::l6::l7::S.asg (Tg.nm 6) l8::l9
theorem cJ:fns[16]? =some ⟨1,7,aS⟩:=by kernel_rfl
theorem Wg{k:Nat}(hk:66<=k)(hz:O.ok (.list .zip)=true)(ns:List Int):∃outs,A0 fns mt A6 (k + 2) 16 [.b (.ro (ns.map .int))]= .ok (.p (.bl true)) outs:=by
 obtain⟨names,n,nm,en⟩:=O8 (k:=k) (c:=cellAt ns 0);obtain⟨θ0,i0,t0,ei⟩:=QA (k:=k - 1) (by lia) (ns:=ns) nm.len nm.RA;obtain⟨θ,prs,hi,hp,hl,hpl,ep⟩:=Q1 (k:=k - 1) (by lia) (ns:=ns) nm.len nm.RA i0 t0;obtain⟨b1,hb1,e1⟩:=Mq (k:=k - 1) (c:=cellAt ns 57 / 2) nm;obtain⟨b2,hb2,e2⟩:=Oy (k:=k) (c:=cellAt ns 57 / 2) nm;rw[show k - 1 + 2=k + 1 by lia]at ei ep e1;have c0:=DZ (k:=0) (j:=k) (ns:=ns);have c57:=DZ (k:=57) (j:=k) (ns:=ns);have c58:=DZ (k:=58) (j:=k) (ns:=ns);rw[show((0:Nat):Int)=0 from rfl]at c0;rw[show((57:Nat):Int)=57 from rfl]at c57;rw[show((58:Nat):Int)=58 from rfl]at c58
 obtain⟨b3,hb3,s6⟩:∃b3,Xb b3/\exec (A0 fns mt A6 (k + 1)) mt A6 l6 [some (.b (.ro (ns.map .int))),sL names,sD θ,sL (prs.map enc),sP (.int (cellAt ns 57)),sL (b1.map enc),none]= .ok .nx [some (.b (.ro (ns.map .int))),sL names,sD θ,sL (prs.map enc),sP (.int (cellAt ns 57)),sL (b3.map enc),none]:=by
  unfold l6
  by_cases z:cellAt ns 57 % 2=1
  . exact⟨b2,hb2,by simp! [Aa,AR,B2,AY,AK,E7,eq_int,z,AW,B3,A8,back,lend,e2]⟩
  . exact⟨b1,hb1,by simp! [Aa,AR,B2,AY,AK,E7,eq_int,z]⟩
 obtain⟨b4,hb4,s7⟩:∃b4,Xb b4/\exec (A0 fns mt A6 (k + 1)) mt A6 l7 [some (.b (.ro (ns.map .int))),sL names,sD θ,sL (prs.map enc),sP (.int (cellAt ns 57)),sL (b3.map enc),none]= .ok .nx [some (.b (.ro (ns.map .int))),sL names,sD θ,sL (prs.map enc),sP (.int (cellAt ns 57)),sL (b4.map enc),none]:=by
  unfold l7
  by_cases z:cellAt ns 58 % 2=1
  . exact⟨b3.reverse,hb3.rev,by simp! [Aa,AR,B2,AY,AK,E7,eq_int,z,AW,B3,A8,back,lend,c58,CL,Fq]⟩
  . exact⟨b3,hb3,by simp! [Aa,AR,B2,AY,AK,E7,eq_int,z,AW,B3,A8,back,lend,c58]⟩
 have hs:∀X∈Em prs,sz θ X<=60:=λX hX=>by
  obtain⟨pr,hpr,hm⟩:=BJ.mp hX;obtain⟨h1,h2,h3,h4⟩:=hp pr hpr;unfold sz;rcases hm with hm|hm
  . have:=P5 θ _ pr.1 (lR) X hm;lia
  . have:=P5 θ _ pr.2 (lR) X hm;rw[<-h3]at this;lia
 obtain⟨σ,_,_,f1⟩:=Iw (k:=k - 3) hz (I:=θ.map (·.1)) (θ:=θ) (λpr hpr=>⟨(hp pr hpr).1,(hp pr hpr).2.1⟩) (by lia) (by rw[lM];lia) (λpr hpr=>(hp pr hpr).2.2.1) hs;obtain⟨σ0,_,g0,f0⟩:=Iw (k:=k - 3) hz (prs:=[]) (I:=[]) (θ:=[]) nofun (by simp) (by simp) nofun nofun;have hσ0:σ0=[]:=R8 λx v h=>nomatch (g0 x v h).2.1
 subst hσ0;have hat:0<=cellAt ns 58 / 2 % ((prs.length:Int) + 1)/\cellAt ns 58 / 2 % ((prs.length:Int) + 1) < (prs.length:Int) + 1:=⟨Int.emod_nonneg _ (by lia),Int.emod_lt_of_pos _ (by lia)⟩;have hmo:B2 (cellAt ns 58 / 2) ((prs.length:Int) + 1)=some (cellAt ns 58 / 2 % ((prs.length:Int) + 1)):=by unfold B2;rw[iP (by lia)]
 generalize cellAt ns 58 / 2 % ((prs.length:Int) + 1)=at0 at hat hmo
 have f2 :=Iy (k:=k - 3) hz (prs:=prs.take at0.toNat++b4++prs.drop at0.toNat) (I:=θ.map (·.1)++X0) (λpr hpr=>by
  rcases mem_append.mp hpr with z|z
  . rcases mem_append.mp z with z|z
    . have:=hp pr (List.mem_of_mem_take z);exact⟨this.1.mono λx hx=>mL hx,this.2.1.mono λx hx=>mL hx⟩
    . have:=hb4.kg pr z;exact⟨this.1.mono λx hx=>mR hx,this.2.mono λx hx=>mR hx⟩
  . have:=hp pr (List.mem_of_mem_drop z)
    exact⟨this.1.mono λx hx=>mL hx,this.2.1.mono λx hx=>mL hx⟩)
  (by have:=hb4.len;rw[lA,lA,length_take,length_drop];lia)
  (by rw[lA,lM];show θ.length + 15 < 64;lia)
  (λθ f=>hb4.no θ λpr hpr=>f pr (mL (mR hpr)))
 have f3:=Iy (k:=k - 3) hz (prs:=b4) (I:=X0) hb4.kg (by have:=hb4.len;lia) (by show 15 < 64;lia) hb4.no;rw[show k - 3 + 4=k + 1 by lia]at f0 f1 f2 f3;rw[map_nil]at f0
 have ht:Dw (.lst (prs.map enc)) none (some at0)=some (.lst ((prs.take at0.toNat).map enc)):=by
  show some (C.lst (cut _ _ _))=_;rw[HG (by lia) (by rw[lM];lia),map_take]
 have hd:Dw (.lst (prs.map enc)) (some at0) none=some (.lst ((prs.drop at0.toNat).map enc)):=by
  show some (C.lst (cut _ _ _))=_;rw[L6 (by lia) (by rw[lM];lia),List.map_drop]
 have ha:∀a b:List (Iv.P×Iv.P),a.length + b.length<=100->C7 (.lst (a.map enc)) (.lst (b.map enc))=some (.lst ((a++b).map enc)):=λa b h=>by
  show(EE _).map _=_;unfold EE;rw[iP (by rw[lA,lM,lM];unfold big;lia),map_append];rfl
 have ha1:=ha (prs.take at0.toNat) b4 (by have:=hb4.len;rw[length_take];lia);have ha2:=ha (prs.take at0.toNat++b4) (prs.drop at0.toNat) (by have:=hb4.len;rw[lA,length_take,length_drop];lia)
 have hA:ev (A0 fns mt A6 (k + 1)) mt Zv [some (.b (.ro (ns.map .int))),sL names,sD θ,sL (prs.map enc),sP (.int (cellAt ns 57)),sL (b4.map enc),sP (.int at0)]= .ok (.lst ((prs.take at0.toNat++b4++prs.drop at0.toNat).map enc)) [some (.b (.ro (ns.map .int))),sL names,sD θ,sL (prs.map enc),sP (.int (cellAt ns 57)),sL (b4.map enc),sP (.int at0)]:=by
  generalize (prs.take at0.toNat++b4++prs.drop at0.toNat).map enc=q at *;generalize (prs.take at0.toNat++b4).map enc=q1 at *;generalize (prs.take at0.toNat).map enc=q2 at *;generalize (prs.drop at0.toNat).map enc=q3 at *;unfold Zv;simp! [Aa,DI,ht,hd,ha1,ha2]
 generalize (prs.take at0.toNat++b4++prs.drop at0.toNat).map enc=q at *;have hlen:DJ (.lst (prs.map enc))=some (.p (.int (prs.length:Int))):=by show some (C.p (.int ((prs.map enc).length:Int)))=_;rw[lM]
 have hh:∀(v:Iv.Env->Res C) (ρ:Iv.Env),BV Zv v ρ=(v ρ).bind λc ρ=>.ok (.BG c) ρ:=λ_ _=>rfl
 have e0:∀ρ,ev (A0 fns mt A6 (k + 1)) mt (.AJ [] []) ρ= .ok (.AJ []) ρ:=λρ=>by
  show(den _ _ (.AJ [] [])).v _=_;unfold den;rfl
 have e8:ev (A0 fns mt A6 (k + 1)) mt l8 [some (.b (.ro (ns.map .int))),sL names,sD θ,sL (prs.map enc),sP (.int (cellAt ns 57)),sL (b4.map enc),none]= .ok (.p (.int at0)) [some (.b (.ro (ns.map .int))),sL names,sD θ,sL (prs.map enc),sP (.int (cellAt ns 57)),sL (b4.map enc),none]:=by
  unfold l8;simp! [Aa,AR,AY,hmo,hlen,add_int,AW,B3,A8,back,lend,c58]
 generalize prs.map enc=ps at *;generalize b4.map enc=bs at *
 have e9:execs (A0 fns mt A6 (k + 1)) mt A6 l9 [some (.b (.ro (ns.map .int))),sL names,sD θ,sL ps,sP (.int (cellAt ns 57)),sL bs,sP (.int at0)]= .ok (.ret (.p (.bl true))) [some (.b (.ro (ns.map .int))),sL names,sD θ,sL ps,sP (.int (cellAt ns 57)),sL bs,sP (.int at0)]:=by
  unfold l9;simp! [Aa,Cm,AK,E7,AW,B3,A8,back,lend,f0,f1,f2,f3,hh,hA,e0]
 refine⟨_,Aw (args:=[.b (.ro (ns.map .int))]) (c:=.p (.bl true)) (ρ:=[some (.b (.ro (ns.map .int))),sL names,sD θ,sL ps,sP (.int (cellAt ns 57)),sL bs,sP (.int at0)]) cJ rfl (show execs (A0 fns mt A6 (k + 1)) mt A6 aS [some (.b (.ro (ns.map .int))),none,none,none,none,none,none]=_ from ?_)⟩;unfold aS;generalize l9=l9' at *;generalize l8=l8' at *;simp! [AW,B3,A8,back,lend,c0,c57,en,ei,ep,e1,Aa,AR,AY,s6,s7,e8,e9]
theorem Qo(hz:O.ok (.list .zip)=true)(ns:List Int)(_:ns.length<=63):∃outs,A0 fns mt A6 100 16 [.b (.ro (ns.map .int))]= .ok (.p (.bl true)) outs:=Wg (k:=98) (by lia) hz ns
theorem Tf(ns:List Int)(h:ns.length<=63):∃outs,A0 fns mt A6 100 16 [.b (.ro (ns.map .int))]= .ok (.p (.bl true)) outs:=Qo rfl ns h
end Lk05
open PySem PySem.W PyProof.Rows
set_option maxRecDepth 100000 in
set_option maxHeartbeats 0 in
theorem PySem.Challenge.cw_kinddeeds_k05_no_fit_holds : PySem.Challenge.rw_kinddeeds_k05_no_fit.Holds := by
  w_on; o_law; k_head; (case hw => w_witness2)
  k_fill
  refine Iv.walk (l := PySem.Challenge.rw_kinddeeds_k05_no_fit) 63 200 rfl (by decide) rfl ⟨rfl, by decide, by decide⟩ (fun w h Y => PySem.W.kIn_of Y) ?F
  case F =>
    intro w mg fa h KX G hmg
    refine' Lk05.all_mk Lk05.Tf KX G hmg ?_ ?_ ?_ ?_ ?_ ?_ ?_ ?_ ?_ ?_ ?_ ?_ ?_ ?_ ?_ ?_ ?_ ?_ ?_ ?_ ?_ ?_ ?_ ?_ ?_ ?_ ?_ ?_ ?_ ?_ ?_ ?_ ?_ ?_ ?_ ?_ ?_ ?_ ?_ ?_ ?_ ?_ ?_ ?_ ?_ ?_ ?_ ?_ ?_ ?_ ?_ ?_ ?_ ?_ ?_ ?_ ?_ ?_
    all_goals first
      | k_is
      | exact ⟨⟨_, _, _, _, _, _, _, _, _, rfl, by k_is, by k_is⟩, by k_is⟩
      | exact ⟨by k_is, by k_is, by k_is, by k_is⟩
      | (repeat first | exact .nil | refine .cons (by k_is) ?_)
