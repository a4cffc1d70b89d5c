import PyProof.Rows.All
import Wide.All
import OpenK.AllK
import Wide.FinOn
import Lean
import PyProof.EqAt
import PyProof.EqKinds
import PyProof.TupleCall
import PySem.Challenge.RW_kinddeeds_k03_fitted_fits
set_option Elab.async false
set_option linter.all false
set_option compiler.extract_closed false
set_option genSizeOf false
set_option maxRecDepth 100000
set_option maxHeartbeats 4000000
noncomputable section
namespace PySem.W.Fast
theorem tw5203903096487038717:1=1:=rfl
theorem tw5575282881861989636:1=1:=rfl
theorem tw9943300012657874314:1=1:=rfl
theorem tw1307600919048131160:1=1:=rfl
theorem tw1611792089861188790:1=1:=rfl
theorem tw52370772771221589:1=1:=rfl
theorem tw1307415900484973531:1=1:=rfl
theorem tw15473980688607573476:1=1:=rfl
theorem tw11678917901732253474:1=1:=rfl
theorem tw8220155679414083143:1=1:=rfl
theorem tw2481592844651909691:1=1:=rfl
theorem tw10429063035683097350:1=1:=rfl
theorem tw1379818823551570037:1=1:=rfl
theorem tw17888680063155554624:1=1:=rfl
theorem tw13727356852917723455:1=1:=rfl
theorem tw14020317037619997771:1=1:=rfl
theorem tw6407620059115320653:1=1:=rfl
theorem tw14580136195103135844:1=1:=rfl
theorem tw12654267328449658758:1=1:=rfl
theorem tw11142644455232632633:1=1:=rfl
theorem tw14630513981862535680:1=1:=rfl
theorem tw10564638463072091805:1=1:=rfl
theorem tw263285062510720600:1=1:=rfl
theorem tw8096507717527003426:1=1:=rfl
theorem tw6232753405878205799:1=1:=rfl
theorem tw15157893427432757971:1=1:=rfl
theorem tw1517908606700957856:1=1:=rfl
theorem tw11134742748567577404:1=1:=rfl
theorem tw8901051442011813626:1=1:=rfl
theorem tw5037659726674608219:1=1:=rfl
theorem tw17932381045039685532:1=1:=rfl
theorem tw87401441959892009:1=1:=rfl
theorem tw17467457427360437776:1=1:=rfl
theorem tw2578262494634055861:1=1:=rfl
theorem tw17963198383283380962:1=1:=rfl
theorem tw17319312302824799336:1=1:=rfl
theorem tw12676468601358377600:1=1:=rfl
theorem tw9774041297933362160:1=1:=rfl
theorem tw13139980689388577503:1=1:=rfl
theorem tw15902583241408938494:1=1:=rfl
theorem tw12693391338245975749:1=1:=rfl
theorem tw11022134246070102189:1=1:=rfl
theorem tw3411856107581434398:1=1:=rfl
theorem tw9335785592765760745:1=1:=rfl
theorem tw17179058227011451927:1=1:=rfl
theorem tw12591698887354064:1=1:=rfl
theorem tw12404336477524440817:1=1:=rfl
theorem tw11754295631682661153:1=1:=rfl
theorem tw4926590675430251714:1=1:=rfl
theorem tw6712385914103409939:1=1:=rfl
theorem tw13252978093789913423:1=1:=rfl
theorem tw676671282814657135:1=1:=rfl
theorem tw17620076478112332179:1=1:=rfl
theorem tw4818220455391287178:1=1:=rfl
theorem tw2368254036100516540:1=1:=rfl
theorem tw11756422025774116188:1=1:=rfl
theorem tw13827228242058079094:1=1:=rfl
theorem tw2891546162583817912:1=1:=rfl
theorem tw12583261477647139793:1=1:=rfl
theorem tw5118381456894614637:1=1:=rfl
end PySem.W.Fast
open List (mem_singleton mem_cons nodup_append mem_filter mem_range filterMap_cons mem_append mem_filterMap size_toArray map_cons append_nil nodup_cons of_mem_zip length_take mem_of_getElem? length_drop map_nil reverse_cons forIn_cons lookup_cons all_eq_true not_mem_nil ext_getElem? length_reverse mem_iff_getElem getElem_mem take_length append_assoc perm_append_comm set_set length_eq_zero_iff all_cons all_map getElem_map map_map map_congr_left map_append mem_map any_eq_true length_set zip_cons_cons foldl_cons nil_append any_cons contains_cons length_range length_nil nodup_nil pairwise_cons forIn_nil length_zip countP_cons countP_le_length mem_map_of_mem mem_reverse reverse_reverse set_cons_zero mem_flatMap filter_append filter_cons_of_neg filter_cons_of_pos length_filter_le set_cons_succ map_reverse)
open PySem.W (instObj methodObj hideAll hideAll_get of_hideAll hideAll_none lookIn InstAt plainGet hasDictIn findIn handedIn plainGet_of isFn plainOver takerIn set_plain any_some Looks looks_clsIn makesIn typeIn InitBack emptyDict looks_findIn bind_fn keepIn methodCall_KW callWith_K callWith_K0 cellsFrom_some codeIn codeRec_of KeqHits keq_eq keq_ne kia_one KdlSrc clsIn mroIn osa_eq nsIn mg_of)
theorem mS{α:Type}{a:α}{l:List α}:a∈a::l:=List.mem_cons_self
theorem mC{α:Type}{a b:α}{l:List α}(h:b∈l):b∈a::l:=List.mem_cons_of_mem a h
theorem mL{α:Type}{a:α}{l m:List α}(h:a∈l):a∈l++m:=List.mem_append_left m h
theorem mR{α:Type}{a:α}{l m:List α}(h:a∈m):a∈l++m:=List.mem_append_right l h
theorem mE{α:Type}{a b:α}(h:a∈[b]):a=b:=mem_singleton.mp h
theorem mK{α:Type}{a b:α}{l:List α}(h:a∈b::l):a=b\/a∈l:=mem_cons.mp h
theorem dF{p:Prop}[Decidable p](h:¬p):decide p=false:=decide_eq_false h
theorem oB{α β:Type}{x:Option α}{f:α->Option β}{b:β}(h:x.bind f=some b):∃a,x=some a/\f a=some b:=Option.bind_eq_some_iff.mp h
theorem oM{α β:Type}{x:Option α}{f:α->β}{b:β}(h:x.map f=some b):∃a,x=some a/\f a=b:=Option.map_eq_some_iff.mp h
theorem lR{n:Nat}:n<=n:=Nat.le_refl n
theorem lA{α:Type}{a b:List α}:(a++b).length=a.length+b.length:=List.length_append
theorem lS{α:Type}{a:α}:[a].length=1:=rfl
theorem lC{α:Type}{a:α}{l:List α}:(a::l).length=l.length+1:=rfl
theorem lM{α β:Type}{f:α->β}{l:List α}:(l.map f).length=l.length:=List.length_map f
theorem bA(a b:Bool):((a&&b)=true)=(a=true/\b=true):=Bool.and_eq_true a b
theorem PySem.wB{α β:Type}{M:PySem.Model}{A:PySem.Around}{E:PySem.Value->PySem.Shared->Prop}{s:PySem.Shared}{m:PySem.Sem α}{f:α->PySem.Sem β}{Q:β->PySem.Shared->Prop}(h:PySem.wpAny M A m (λa s'=>PySem.wpAny M A (f a) Q E s') E s):PySem.wpAny M A (m>>=f) Q E s:=PySem.wpAny_bind h
theorem PySem.wP{α:Type}{M:PySem.Model}{A:PySem.Around}{E:PySem.Value->PySem.Shared->Prop}{s:PySem.Shared}{a:α}{Q:α->PySem.Shared->Prop}(h:Q a s):PySem.wpAny M A (pure a) Q E s:=PySem.wpAny_pure h
theorem PySem.gP{h:PySem.Heap}{b:PySem.Addr}{o u:PySem.Obj}(e:h.get? b=some u):(h.push o).get? b=some u:=PySem.Heap.get?_push_of_some o e
theorem iP{c:Prop}{i:Decidable c}(h:c){α:Type}{t e:α}:(@ite α c i t e)=t:=if_pos h
theorem iN{c:Prop}{i:Decidable c}(h:¬c){α:Type}{t e:α}:(@ite α c i t e)=e:=if_neg h
theorem nA{α:Type}{l m:List α}(h:(l++m).Nodup):l.Nodup/\m.Nodup/\∀a∈l,∀b∈m,a≠b:=nodup_append.mp h
namespace L2
open PySem PySem.Spec PyProof.Rows
abbrev Key:=Sum Int Str
def VQ:Key->Value->Bool
 |.inl k,v=>Value.isInt k v
 |.inr x,v=>Value.isStrOf x v
def cX(w:World):Key->Int
 |.inl k=>hashInt k
 |.inr x=>hashStr w x
theorem B7:∀{k:Key} {v:Value},VQ k v=true->(∃i t,k=Sum.inl i/\v=Value.int i t)\/(∃x t,k=Sum.inr x/\v=Value.str x t)
 | .inl i,v,h=>by
   obtain⟨t,e⟩:=Value.isInt_shape (k:=i) (v:=v) h;exact .inl ⟨i,t,rfl,e⟩
 | .inr x,v,h=>by
   obtain⟨t,e⟩:=Value.isStrOf_shape (x:=x) (v:=v) h;exact .inr ⟨x,t,rfl,e⟩
theorem Xt(a b:Int):decide ((Sum.inl a:Key)=Sum.inl b)=(a == b):=by
 by_cases e:a=b
 .subst e;simp
 .have h:¬(Sum.inl a:Key)=Sum.inl b:=λq=>e (Sum.inl.inj q)
  rw[dF h];exact(beq_eq_false_iff_ne.mpr e).symm
theorem Xq(a b:Str):decide ((Sum.inr a:Key)=Sum.inr b)=decide (a=b):=by
 by_cases e:a=b
 .subst e;simp
 .have h:¬(Sum.inr a:Key)=Sum.inr b:=λq=>e (Sum.inr.inj q)
  rw[dF h,dF e]
theorem Xs(a:Int)(b:Str):decide ((Sum.inl a:Key)=Sum.inr b)=false:=dF (λq=>nomatch q)
theorem Xr(a:Str)(b:Int):decide ((Sum.inr a:Key)=Sum.inl b)=false:=dF (λq=>nomatch q)
noncomputable def Jc(prog:Program)(w:World):PySem.KeyKind prog w Key where
 is:=VQ
 hash:=cX w
 inj :=λv a b ha hb=>by
  rcases B7 ha with⟨i,t,rfl,rfl⟩|⟨x,t,rfl,rfl⟩
  .rcases B7 hb with⟨j,u,rfl,e⟩|⟨y,u,rfl,e⟩
   .injection e with e1 _;rw[e1]
   .exact nomatch e
  .rcases B7 hb with⟨j,u,rfl,e⟩|⟨y,u,rfl,e⟩
   .exact nomatch e
   .injection e with e1 _;rw[e1]
 byValue:=λk v h=>by
  rcases B7 h with⟨i,t,rfl,rfl⟩|⟨x,t,rfl,rfl⟩<;>rfl
 pyHash:=λhv h=>by
  rcases B7 hv with⟨i,t,rfl,rfl⟩|⟨x,t,rfl,rfl⟩
  .exact wpAny_pyHash_int h
  .exact wpAny_pyHash_str h
 eqBool:=λhu hv h=>by
  rcases B7 hu with⟨i,t,rfl,rfl⟩|⟨x,t,rfl,rfl⟩
  .rcases B7 hv with⟨j,u,rfl,rfl⟩|⟨y,u,rfl,rfl⟩
   .rw[Xt]at h;exact wpAny_eqBool_int h
   .rw[Xs]at h;exact SeqAt.EqAt.int_str i t y u _ _ _ _ h
  .rcases B7 hv with⟨j,u,rfl,rfl⟩|⟨y,u,rfl,rfl⟩
   .rw[Xr]at h;exact SeqAt.EqAt.str_int x t j u _ _ _ _ h
   .rw[Xq]at h;exact wpAny_eqBool_str h
 «strs»:=λk x t v h=>by
  rcases B7 h with⟨i,u,rfl,e⟩|⟨y,u,rfl,e⟩
  .exact nomatch e
  .injection e with e1 _
   subst e1;cases v<;>rfl
inductive V where
 |AI|bl (b:Bool)|int (i:Int)|str (x:Str)|W2 (b:Array UInt8)|bO (b:UInt64)|ref (a:Addr)|ty (n:String)
 deriving DecidableEq
noncomputable def RelV:V->Value->Prop
 |.AI,u=>u=Value.none
 |.bl b,u=>u=Value.bool b
 |.int i,u=>∃t,u=Value.int i t
 |.str x,u=>∃t,u=Value.str x t
 |.W2 b,u=>∃t,u=Value.bytes b t
 |.bO b,u=>∃t,u=Value.float b t
 |.ref a,u=>u=Value.ref a
 |.ty n,u=>u=Value.type n
abbrev Vals:List V->List Value->Prop:=Paired RelV
variable{us:List Value}
theorem Vals.length{xs:List V}(r:Vals xs us):xs.length=us.length:=Paired.length r
theorem Vals.get:∀{xs:List V} {us:List Value} {i:Nat} {x:V},Vals xs us->xs[i]? =some x->∃u,us[i]? =some u/\RelV x u
 |_,_,_,_,.nil,e=>by simp at e
 |_,_,0,_,.cons r _,e=>by simp at e;subst e;exact⟨_,rfl,r⟩
 | _,_,i + 1,x,.cons _ t,e=>by
   obtain⟨u,h1,h2⟩:=Vals.get (i:=i) (x:=x) t (by simpa using e);exact⟨u,by simpa using h1,h2⟩
theorem Vals.append:∀{xs ys:List V} {us ws:List Value},Vals xs us->Vals ys ws->Vals (xs++ys) (us++ws)
 |_,_,_,_,.nil,s=>s
 |_,_,_,_,.cons r t,s=>.cons r (Vals.append t s)
theorem Vals.take:∀{xs:List V} {us:List Value} (n:Nat),Vals xs us->Vals (xs.take n) (us.take n)
 |_,_,0,_=>.nil
 |_,_,_+1,.nil=>.nil
 |_,_,n+1,.cons r t=>.cons r (Vals.take n t)
theorem Vals.drop:∀{xs:List V} {us:List Value} (n:Nat),Vals xs us->Vals (xs.drop n) (us.drop n)
 |_,_,0,r=>r
 |_,_,_+1,.nil=>.nil
 |_,_,n+1,.cons _ t=>Vals.drop n t
def HN:Option V->Option Value->Prop
 |some v,some u=>RelV v u
 |none,none=>True
 |_,_=>False
def KV{κ:Type}:List (κ×V)->List (κ×Value)->Prop:=Paired λ(p:κ×V) (q:κ×Value)=>p.1=q.1/\RelV p.2 q.2
def kV:Key->V
 |.inl i=>.int i
 |.inr x=>.str x
inductive HO where
 |lst (xs:List V)
 |tup (xs:List V)
 |dK (kvs:List (Key×V))|dT (kvs:List (List Key×V))
 |set (S:Int->Bool)(n:Nat)
 |ins (C dx:Addr)(fs:List (Str×V))
 |own (x:Addr)
 |xd (fs:List (Str×V))
 |met (f x:Addr)
 |Ff (lo hi:Int)
 |M7 (o:Obj)(u:HO)
 |VB (ps:Array Value)
 |ext (φ:Heap->Prop)
abbrev Hp:=Addr->Option HO
def upd(H:Hp)(a:Addr)(o:HO):Hp:=λb=>if b=a then some o else H b
variable{H:Hp}
theorem Ay:upd H a o a=some o:=by unfold upd;rw[iP rfl]
theorem An{a b:Addr}(h:b≠a):upd H a o b=H b:=by unfold upd;rw[iN h]
theorem AO{o:HO}(h:H a=some o)(h':H b=none):a≠b:=by
 intro e;subst e;rw[h]at h';cases h'
section
variable (P:Program)(w:World)
noncomputable def BN(H:Hp)(h:Heap)(a:Addr):HO->Prop
 |.lst xs=>xs.length<=sizeLine/\∃(its:List Value) (n:Nat),Vals xs its/\h.get? a=some {cls:=.type "list",data:=.seq its.toArray n}
 |.tup xs=>xs.length<=sizeLine/\∃its:List Value,Vals xs its/\IsTup h a its.toArray
 |.dK kvs=>kvs.length<=sizeLine/\(a == sysModules)=false/\∃vs,KV kvs vs/\h.DictOf (Jc P w) a vs
 | .dT kvs=>kvs.length<=sizeLine/\(a == sysModules)=false/\∃xs:List (List Key×Addr×Value),
  Paired (λ(p:List Key×V) (q:List Key×Addr×Value)=>p.1=q.1/\H q.2.1=some (.tup (p.1.map kV))/\RelV p.2 q.2.2) kvs xs/\
  ∃o es ep,h.get? a=some o/\o.ExactDict/\o.data= .dict es ep/\es.toList=xs.map (entryOfKey (tupleKind (Jc P w)))/\(xs.map (·.1)).Nodup
 |.set S n=>h.SetOf (intKind P w) a S n
 | .ins C dx fs=>H dx=some (.own a)/\fs.length<=1000/\dx≠a/\h.get? a=some (instObj C dx)/\
  ∃mA,h.Ns1 dx mA/\(∀f,HN (fs.lookup f) (mA f))/\PySem.Within mA (fs.map (·.1))
 |.own _=>∃o,h.get? a=some o
 |.xd fs=>∃mA,h.Ns1 a mA/\∀f,HN (fs.lookup f) (mA f)
 |.Ff lo hi=>∃t u v,h.get? a=some {cls:=.type "range",data:=.fields #[.int lo t,.int hi u,.int 1 v]}
 |.M7 o u=>h.get? a=some o/\BN H h a u
 |.VB ps=>h.get? a=some {cls:=.none,data:=.fields ps}
 |.met f x=>h.get? a=some (methodObj (.ref f) (.ref x))
 |.ext φ=>φ h/\(∃o,h.get? a=some o)/\∀h1 h2:Heap,φ h1->(∀o,h1.get? a=some o->h2.get? a=some o)->φ h2
def Ce(H:Hp)(h:Heap):Prop:=∀a o,H a=some o->BN P w H h a o
end
section
variable{P:Program}{w:World}{H H':Hp}{h h':Heap}{a:Addr}{o:HO}
theorem BN.lt(x:BN P w H h a o):a < h.objs.size:=by
 cases o with
 |lst xs=>obtain⟨_,_,_,_,e⟩:=x;exact Heap.lt_size e
 |tup xs=>obtain⟨_,_,_,p⟩:=x;exact p.lt
 |dK kvs=>obtain⟨_,_,_,_,o,_,_,e,_⟩:=x;exact Heap.lt_size e
 |dT kvs=>obtain⟨_,_,_,_,o,_,_,e,_⟩:=x;exact Heap.lt_size e
 |set S n=>obtain⟨o,_,_,_,e,_⟩:=x;exact Heap.lt_size e
 |ins C dx fs=>obtain⟨_,_,_,e,_⟩:=x;exact Heap.lt_size e
 |own y=>obtain⟨_,e⟩:=x;exact Heap.lt_size e
 |xd fs=>obtain⟨_,⟨_,_,_,e,_⟩,_⟩:=x;exact Heap.lt_size e
 |Ff lo hi=>obtain⟨_,_,_,e⟩:=x;exact Heap.lt_size e
 |M7 ob u=>obtain⟨e,_⟩:=x;exact Heap.lt_size e
 |VB ps=>exact Heap.lt_size (show h.get? a=some _ from x)
 |met f y=>exact Heap.lt_size (show h.get? a=some _ from x)
 |ext φ=>obtain⟨_,⟨_,e⟩,_⟩:=x;exact Heap.lt_size e
theorem Paired.Qm{α β:Type}{F G:α->β->Prop}:∀{l₁:List α} {l₂:List β},Paired F l₁ l₂->(∀a b,F a b->G a b)->Paired G l₁ l₂
 |_,_,.nil,_=>.nil
 |_,_,.cons r t,f=>.cons (f _ _ r) (Paired.Qm t f)
theorem BN.JT(x:BN P w H h a o)(k:∀b u,(b=a\/H b=some (.own a))->h.get? b=some u->h'.get? b=some u)
 (ho:∀b,H b=some (.own a)->H' b=some (.own a))(ht:∀b xs,H b=some (.tup xs)->H' b=some (.tup xs)):BN P w H' h' a o:=by
 induction o with
 |lst xs=>obtain⟨z,its,n,r,e⟩:=x;exact⟨z,its,n,r,k _ _ (.inl rfl) e⟩
 |tup xs=>obtain⟨z,its,r,ob,e,c⟩:=x;exact⟨z,its,r,ob,k _ _ (.inl rfl) e,c⟩
 |dK kvs=>obtain⟨z,y,vs,r,ob,es,ep,e,c⟩:=x;exact⟨z,y,vs,r,ob,es,ep,k _ _ (.inl rfl) e,c⟩
 |dT kvs=>
   obtain⟨z,y,xs,r,ob,es,ep,e,c⟩:=x;exact⟨z,y,xs,Paired.Qm r λp q z=>⟨z.1,ht _ _ z.2.1,z.2.2⟩,ob,es,ep,k _ _ (.inl rfl) e,c⟩
 |set S n=>obtain⟨ob,es,ep,t,e,c⟩:=x;exact⟨ob,es,ep,t,k _ _ (.inl rfl) e,c⟩
 |ins C dx fs=>
   obtain⟨d,z,ne,e,mA,⟨od,es,ep,e2,c⟩,r⟩:=x;exact⟨ho _ d,z,ne,k _ _ (.inl rfl) e,mA,⟨od,es,ep,k _ _ (.inr d) e2,c⟩,r⟩
 |own y=>obtain⟨ob,e⟩:=x;exact⟨ob,k _ _ (.inl rfl) e⟩
 |xd fs=>obtain⟨mA,⟨od,es,ep,e,c⟩,r⟩:=x;exact⟨mA,⟨od,es,ep,k _ _ (.inl rfl) e,c⟩,r⟩
 |Ff lo hi=>obtain⟨t,u,v,e⟩:=x;exact⟨t,u,v,k _ _ (.inl rfl) e⟩
 |M7 ob u ih=>obtain⟨e,q⟩:=x;exact⟨k _ _ (.inl rfl) e,ih q⟩
 |VB ps=>
   have e:h.get? a=some {cls:=.none,data:=.fields ps}:=x;show h'.get? a=some {cls:=.none,data:=.fields ps};exact k a _ (.inl rfl) e
 |met f y=>
   have e:h.get? a=some (methodObj (.ref f) (.ref y)):=x;show h'.get? a=some (methodObj (.ref f) (.ref y));exact k a _ (.inl rfl) e
 |ext φ=>obtain⟨p,⟨o,e⟩,st⟩:=x;exact⟨st _ _ p λo q=>k _ _ (.inl rfl) q,⟨o,k _ _ (.inl rfl) e⟩,st⟩
theorem Ce.lt(x:Ce P w H h)(e:H a=some o):a < h.objs.size:=(x a o e).lt
theorem Ce.fresh(x:Ce P w H h)(e:h.objs.size<=a):H a=none:=by
 cases q:H a with
 |none=>rfl
 |some u=>exact absurd (Nat.lt_of_lt_of_le (x.lt q) e) (Nat.lt_irrefl _)
theorem Ce.kept(x:Ce P w H h)(k:∀b u,h.get? b=some u->h'.get? b=some u):Ce P w H h':=λa o e=>
 (x a o e).JT (λb u _ q=>k b u q) (λ_ q=>q) λ_ _ q=>q
theorem Ce.laid(x:Ce P w H h)(k:∀b u,h.get? b=some u->h'.get? b=some u)(hp:h.objs.size<=a)(new:BN P w (upd H a o) h' a o):Ce P w (upd H a o) h':=λb u e=>by
 have hn:=x.fresh hp
 by_cases hb:b=a
 .subst hb;rw[Ay]at e;cases e;exact new
 .rw[An hb]at e;exact(x b u e).JT (λc v _ q=>k c v q) (λc q=>by rw[An (AO q hn)];exact q) λc xs q=>by rw[An (AO q hn)];exact q
end
def Rd(H:Hp)(a:Addr)(u:HO):Prop:=H a=some u\/∃o,H a=some (.M7 o u)
variable{w:World}{h:Heap}
theorem Rd.ok{P:Program}(r:Rd H a u)(x:Ce P w H h):BN P w H h a u:=by
 rcases r with r|⟨o,r⟩
 .exact x a u r
 .obtain⟨_,q⟩:=x a _ r;exact q
def bq:Option HO->Prop
 |some (.lst _)=>True
 |some (.dK _)=>True
 |some (.dT _)=>True
 |some (.set _ _)=>True
 |some (.ins _ _ _)=>True
 |some (.ext _)=>True
 |_=>False
section
variable{P:Program}{w:World}{H:Hp}{h h':Heap}{x e:Addr}{o':HO}
theorem Ce.write(ok:Ce P w H h)(mu:bq (H x))(he:e=x\/H e=some (.own x))(k:∀b u,b≠e->h.get? b=some u->h'.get? b=some u)(heo:∃u,h'.get? e=some u)
 (new:BN P w (upd H x o') h' x o'):Ce P w (upd H x o') h':=λb u q=>by
 have nown:∀c y,H c=some (.own y)->c≠x:=λc y r z=>by subst z;rw[r]at mu;exact mu
 have ntup:∀c xs,H c=some (.tup xs)->c≠x:=λc xs r z=>by subst z;rw[r]at mu;exact mu
 by_cases hb:b=x
 .subst hb;rw[Ay]at q;cases q;exact new
 .rw [An hb]at q
  by_cases hbe:b=e
  .have q':H b=some (.own x):=by
    rcases he with z|z
    .exact absurd (hbe.trans z) hb
    .rw[hbe];exact z
   rw[q]at q';cases q';obtain⟨v,hv⟩:=heo;exact⟨v,by rw[hbe];exact hv⟩
  .refine(ok b u q).JT (λc v hc r=>k c v ?_ r) (λc r=>by rw[An (nown c b r)];exact r) λc xs r=>by rw[An (ntup c xs r)];exact r
   rcases hc with rfl|hc
   .exact hbe
   .rintro rfl
    rcases he with z|z
    .exact nown c b hc z
    .rw[hc]at z;cases z;exact hb rfl
end
structure Un(fs ex:List Addr)(H H':Hp)(h h':Heap):Prop where
 keep:∀b o,h.get? b=some o->H b=none->b∉fs->b∉ex->h'.get? b=some o
 slot:∀b o,h.get? b=some o->H b=none->b∈fs->b∉ex->∃sl,h'.get? b=some {o with slots:=sl}
 free:∀b o,h.get? b=some o->H b=none->b∉ex->H' b=none
 there:∀b o,h.get? b=some o->b∉ex->∃o',h'.get? b=some o'
 Gj:∀b xs,H b=some (.tup xs)->H' b=some (.tup xs)
 FX:∀b o u,H b=some (.M7 o u)->H' b=some (.M7 o u)
 Gk:∀b ps,H b=some (.VB ps)->∃more,H' b=some (.VB (ps++more))
section
variable{fs fs' ex ex':List Addr}{H H1 H2:Hp}{h h1 h2 h':Heap}{a x e:Addr}{o:HO}
theorem Un.any(u:Un fs ex H H1 h h1){ob:Obj}(q:h.get? b=some ob)(n:H b=none)(hx:b∉ex):∃sl,h1.get? b=some {ob with slots:=sl}:=by
 by_cases hb:b∈fs
 .exact u.slot b ob q n hb hx
 .exact⟨ob.slots,u.keep b ob q n hb hx⟩
theorem Un.kept(k:∀b u,h.get? b=some u->h'.get? b=some u):Un fs ex H H h h':=
 ⟨λb ob q _ _ _=>k b ob q,λb ob q _ _ _=>⟨ob.slots,k b ob q⟩,λ_ _ _ n _=>n,λb ob q _=>⟨ob,k b ob q⟩,λ_ _ q=>q,λ_ _ _ q=>q,λ_ ps q=>⟨#[],by rw[q];simp⟩⟩
theorem Un.refl:Un fs ex H H h h:=Un.kept λ_ _ q=>q
theorem Un.laid(k:∀b u,h.get? b=some u->h'.get? b=some u)(hp:h.objs.size<=a)(hn:H a=none):Un fs ex H (upd H a o) h h' where
 keep:=λb u q _ _ _=>k b u q
 slot:=λb u q _ _ _=>⟨u.slots,k b u q⟩
 free:=λb u q n _=>by rw[An (Nat.ne_of_lt (Nat.lt_of_lt_of_le (Heap.lt_size q) hp))];exact n
 there:=λb u q _=>⟨u,k b u q⟩
 Gj:=λb xs q=>by rw[An (AO q hn)];exact q
 FX:=λb u xs q=>by rw[An (AO q hn)];exact q
 Gk:=λb ps q=>⟨#[],by rw[An (AO q hn),q];simp⟩
theorem Un.write(mu:bq (H x))(he:e=x\/H e=some (.own x))(k:∀b u,b≠e->h.get? b=some u->h'.get? b=some u)(heo:∃u,h'.get? e=some u):Un fs ex H (upd H x o) h h':=by
 have hx:∀b,H b=none->b≠x:=λb n z=>by subst z;rw[n]at mu;exact mu
 have hb:∀b,H b=none->b≠e:=λb n z=>by
  subst z;rcases he with r|r
  .exact hx b n r
  .rw[n]at r;cases r
 have hm:∀b u,H b=some u->¬bq (some u)->b≠x:=λb u q nm z=>by subst z;rw[q]at mu;exact nm mu
 refine⟨λb u q n _ _=>k b u (hb b n) q,λb u q n _ _=>⟨u.slots,k b u (hb b n) q⟩,λb u q n _=>by rw[An (hx b n)];exact n,λb u q _=>?_,
  λb xs q=>by rw[An (hm b _ q λz=>z)];exact q,λb u xs q=>by rw[An (hm b _ q λz=>z)];exact q,λb ps q=>⟨#[],by rw[An (hm b _ q λz=>z),q];simp⟩⟩
 by_cases hbe:b=e
 .subst hbe;exact heo
 .exact⟨u,k b u hbe q⟩
end
def bx(h:Heap)(H:Hp):List Addr:=(List.range h.objs.size).filter λa=>(H a).isSome
def Jn(h:Heap)(H:Hp):Heap:=hideAll h (bx h H)
theorem Oo(h:Heap)(H:Hp):(Jn h H).objs.size=h.objs.size:=PySem.W.hideAll_size _ _
theorem QJ{o:Obj}(e:h.get? b=some o)(n:H b=none):(Jn h H).get? b=some o:=
 hideAll_get _ e λhm=>by
  have q:(H b).isSome=true:=(mem_filter.mp hm).2;rw[n]at q;simp at q
theorem Tz{o:Obj}(e:(Jn h H).get? b=some o):h.get? b=some o/\H b=none:=by
 have e':h.get? b=some o:=of_hideAll (bx h H) e;refine⟨e',?_⟩;cases q:H b with
 |none=>rfl
 |some x=>
   have hm:b∈bx h H:=mem_filter.mpr ⟨mem_range.mpr (Heap.lt_size e'),by simp[q]⟩;have z:(Jn h H).get? b=none:=hideAll_none (bx h H) hm;rw[z]at e;cases e
def US(g h:Heap)(L:Addr):List (Addr×Obj):=(List.range h.objs.size).filterMap λa=>if a=L\/(g.get? a).isSome=true then none else(h.get? a).map λo=>(a,o)
def rest(g h:Heap)(L d:Addr):List (Addr×Obj):=(US g h L).filter λp=>decide (p.1≠d)
structure Mod(K:PySem.W.Frag)(mg:Str->Option Value)(base:Heap):Prop where
 B3:K.In base
 glob:base.Ns mainGlobals mg
 blt:∃mb,base.Ns builtinsNs mb/\∀x:Str,x≠"__name__"->mb x=bootBuiltins x
 nolimit:base.NoLimit
structure Cx where
 prog:Program
 w:World
 K:PySem.W.Frag
 mg:Str->Option Value
 base:Heap
 A:Around
 N:List Str
 s₀:Shared
 H₀:Hp
 env:Env
 outer:List Env
 stack:List Env
 ex:List Addr
 fn:Str->Bool
 calm:Bool
 pn:List (Addr×Obj)
 xe:Value->Shared->Prop
def DR(l:List Env):List Addr:=l.filterMap (·.frame)
abbrev Cx.fs(X:Cx):List Addr:=DR X.outer
def bf(sc:Scope)(x:Str):Prop:=sc.names.lookup x=some .local\/sc.names.lookup x=some .cell\/sc.names.lookup x=some .free
def Loc(sc:Scope)(x:Str):Prop:=sc.names.lookup x=some .local\/sc.names.lookup x=some .cell
def Look(env:Env)(h:Heap)(m:Str->Option Value)(x:Str)(u:Value):Prop:=
 (env.kindOf x=some .local/\m x=some u)\/((env.kindOf x=some .cell\/env.kindOf x=some .free)/\∃c,env.cells.lookup x=some c/\h.IsCell c (some u))
structure Cx.Ok(X:Cx):Prop where
 mod:Mod X.K X.mg X.base
 kind:X.env.scope.kind= .function
 glob:X.env.globals=mainGlobals
 blt:X.env.builtins=builtinsNs
 above:X.s₀.heap.objs.size<=X.env.locals
 inj:∀x y c,X.env.cells.lookup x=some c->X.env.cells.lookup y=some c->x=y
 has:∀x,(X.env.kindOf x=some .cell\/X.env.kindOf x=some .free)->∃c,X.env.cells.lookup x=some c
 aU:∀x c,X.fn x=true->X.env.cells.lookup x=some c->X.s₀.heap.objs.size<=c
 hd:X.calm=true->X.A.handled=none
 frames:X.A.frames=some X.stack
 D4:X.stack=X.outer\/(X.stack=X.env::X.outer/\X.env.frame=some X.env.locals)
 bQ:∀b∈X.ex,b≠X.env.locals/\∀x c,X.env.cells.lookup x=some c->c≠b
 bs:∀b o,X.base.get? b=some o->X.s₀.heap.get? b=some o/\X.H₀ b=none
 UP:X.base.objs.size<=X.s₀.heap.objs.size
 Qf:∀b o,X.base.get? b=some o->b∉X.ex
 QX:∀b∈X.ex,b∉X.fs
 Gv:X.s₀.heap.FunFrames X.base X.outer
 XD:∀b∈X.fs,X.H₀ b=none
structure Inv(X:Cx)(pins:List (Addr×Obj))(σ:List (Option V))(H:Hp)(s:Shared):Prop where
 ok:X.Ok
 os:s.os=X.s₀.os
 bare:AllBare s.gens
 base:Un X.fs X.ex X.H₀ H X.s₀.heap s.heap
 loc:∃m,s.heap.Ns X.env.locals m/\∀(i:Nat) (x:Str) (v:V),X.N[i]? =some x->σ[i]? =some (some v)->bf X.env.scope x->∃u,RelV v u/\Look X.env s.heap m x u
 cell:∀x c,X.env.cells.lookup x=some c->∃v,s.heap.IsCell c v
 free:H X.env.locals=none
 EI:∀x c,X.env.cells.lookup x=some c->H c=none
 pin:∀p∈X.pn++pins,s.heap.get? p.1=some p.2/\H p.1=none/\p.1≠X.env.locals/\p.1∉X.fs/\∀v,p.2.data≠.cell v
 Af:Ce X.prog X.w H s.heap
 len:σ.length=X.N.length
variable{X:Cx}{pins:List (Addr×Obj)}{σ:List (Option V)}{H H':Hp}{s:Shared}{h':Heap}
theorem Cx.Ok.cP(ok:X.Ok){o:Obj}(e:X.base.get? b=some o):b∉X.fs:=λhb=>by
 have:=(ok.Gv.mem hb).1;rw[e]at this;cases this
theorem Inv.bs(I:Inv X pins σ H s):∀b o,X.base.get? b=some o->s.heap.get? b=some o/\H b=none:=λb o e=>
 ⟨I.base.keep b o (I.ok.bs b o e).1 (I.ok.bs b o e).2 (I.ok.cP e) (I.ok.Qf b o e),I.base.free b o (I.ok.bs b o e).1 (I.ok.bs b o e).2 (I.ok.Qf b o e)⟩
theorem Inv.bk(I:Inv X pins σ H s):∀b o,X.base.get? b=some o->s.heap.get? b=some o:=λb o e=>(I.bs b o e).1
theorem Inv.mod(I:Inv X pins σ H s):Mod X.K X.mg X.base:=I.ok.mod
theorem Inv.DQ(I:Inv X pins σ H s):X.K.In s.heap:=I.ok.mod.B3.keeps I.bk
theorem Inv.nolimit(I:Inv X pins σ H s):s.heap.NoLimit:=I.ok.mod.nolimit.keeps I.bk
theorem Inv.lt(I:Inv X pins σ H s):X.env.locals < s.heap.objs.size:=let⟨_,hn,_⟩:=I.loc;hn.lt
theorem Inv.sz(I:Inv X pins σ H s):X.s₀.heap.objs.size<=s.heap.objs.size:=Nat.le_trans I.ok.above (Nat.le_of_lt I.lt)
theorem Inv.ah(I:Inv X pins σ H s){a:Addr}(h:s.heap.objs.size<=a):a∉X.fs:=λhb=>by
 obtain⟨_,o,ho,_⟩:=I.ok.Gv.mem hb;exact absurd (Nat.lt_of_lt_of_le (Heap.lt_size ho) (Nat.le_trans I.sz h)) (Nat.lt_irrefl _)
theorem Inv.XU(I:Inv X pins σ H s):∀x c,X.env.cells.lookup x=some c->c≠X.env.locals:=λx c e z=>by
 obtain⟨v,o,ho,hd⟩:=I.cell x c e;obtain⟨m,⟨o',es,ep,ho',hd',_⟩,_⟩:=I.loc;rw[z,ho']at ho;cases ho;rw[hd']at hd;cases hd
theorem Inv.Gv(I:Inv X pins σ H s):s.heap.FunFrames X.base X.outer:=by
 have all:∀(l:List Env),(∀b∈DR l,b∈X.fs)->X.s₀.heap.FunFrames X.base l->s.heap.FunFrames X.base l:=by
  intro l
  induction l with
  |nil=>intro _ _;trivial
  |cons env r ih=>
    intro hs hl;obtain⟨hk,⟨L,o,hf,hn,ho,hd⟩,hr⟩:=hl;have hL:L∈X.fs:=hs L (by unfold DR;rw[filterMap_cons,hf];exact mS);obtain⟨sl,e⟩:=I.base.slot L o ho (I.ok.XD L hL) hL λz=>I.ok.QX L z hL
    exact⟨hk,⟨L,_,hf,hn,e,hd⟩,ih (λb hb=>hs b (by unfold DR;rw[filterMap_cons,hf];exact mC hb)) hr⟩
 exact all X.outer (λ_ hb=>hb) I.ok.Gv
theorem Inv.stack(I:Inv X pins σ H s):s.heap.FunFrames X.base X.stack:=by
 rcases I.ok.D4 with e|⟨e,hf⟩
 .rw[e];exact I.Gv
 .rw[e];obtain⟨m,hn,_⟩:=I.loc;refine .cons (by rw[I.ok.kind];decide) hf hn ?_ I.Gv;exact Heap.get?_none_of_le (Nat.le_trans I.ok.UP I.ok.above)
theorem Inv.IP(I:Inv X pins σ H s):∀b∈DR X.stack,b∈X.env.locals::X.fs:=λb hb=>by
 rcases I.ok.D4 with e|⟨e,hf⟩
 .rw[e]at hb;exact mC hb
 .rw[e]at hb;unfold DR at hb;rw[filterMap_cons,hf]at hb;exact hb
theorem Inv.Fb(I:Inv X pins σ H s):∀b∈DR X.stack,H b=none:=λb hb=>by
 rcases mK (I.IP b hb)with e|hb
 .rw[e];exact I.free
 .obtain⟨_,o,ho,_⟩:=I.ok.Gv.mem hb;exact I.base.free b o ho (I.ok.XD b hb) λz=>I.ok.QX b z hb
variable{g':Array GenState}{t':Nat}{d':Drawn}
theorem Inv.step{ch:List Addr}(I:Inv X pins σ H s)
 (hch:∀b∈ch,(b∈X.ex\/X.s₀.heap.objs.size<=b)/\b≠X.env.locals/\(∀x c,X.env.cells.lookup x=some c->c≠b)/\∀p∈X.pn++pins,p.1≠b)
 (keep:∀b o,b≠X.env.locals->b∉X.fs->b∉ch->s.heap.get? b=some o->H b=none->h'.get? b=some o)
 (slot:∀b o,b≠X.env.locals->b∈X.fs->b∉ch->s.heap.get? b=some o->H b=none->∃sl,h'.get? b=some {o with slots:=sl})(free:∀b o,b∉ch->s.heap.get? b=some o->H b=none->H' b=none)
 (there:∀b o,b∉ch->s.heap.get? b=some o->∃o',h'.get? b=some o')
 (Gj:∀b xs,H b=some (.tup xs)->H' b=some (.tup xs))(FX:∀b o u,H b=some (.M7 o u)->H' b=some (.M7 o u))(Gk:∀b ps,H b=some (.VB ps)->∃more,H' b=some (.VB (ps++more)))
 (ns:∀m,s.heap.Ns X.env.locals m->h'.Ns X.env.locals m)(Af:Ce X.prog X.w H' h')(hg:AllBare g'):
 Inv X pins σ H' {s with heap:=h',gens:=g',drawn:=d',toks:=t'}:=by
 have neL:∀b o,X.s₀.heap.get? b=some o->b≠X.env.locals:=λb o e=>Nat.ne_of_lt (Nat.lt_of_lt_of_le (Heap.lt_size e) I.ok.above)
 have neC:∀b o,X.s₀.heap.get? b=some o->b∉X.ex->b∉ch:=λb o e hx hb=>by
  rcases(hch b hb).1 with z|z
  .exact hx z
  .exact absurd (Nat.lt_of_lt_of_le (Heap.lt_size e) z) (Nat.lt_irrefl _)
 have cellK:∀x c,X.env.cells.lookup x=some c->∀v,s.heap.IsCell c v->h'.IsCell c v:=λx c e v ⟨o,ho,hd⟩=>by
  have nch:c∉ch:=λz=>(hch c z).2.2.1 x c e rfl
  by_cases hc:c∈X.fs
  .obtain⟨sl,q⟩:=slot c o (I.XU x c e) hc nch ho (I.EI x c e);exact⟨_,q,hd⟩
  .exact⟨o,keep c o (I.XU x c e) hc nch ho (I.EI x c e),hd⟩
 refine⟨I.ok,I.os,hg,⟨λb o e n hb hx=>?_,λb o e n hb hx=>?_,λb o e n hx=>?_,λb o e hx=>?_,λb xs e=>Gj b xs (I.base.Gj b xs e),λb o xs e=>FX b o xs (I.base.FX b o xs e),λb ps e=>?_⟩,?_,λx c e=>?_,?_,λx c e=>?_,λp hp=>?_,Af,I.len⟩
 .exact keep b o (neL b o e) hb (neC b o e hx) (I.base.keep b o e n hb hx) (I.base.free b o e n hx)
 .obtain⟨sl,e1⟩:=I.base.slot b o e n hb hx;obtain⟨sl',e2⟩:=slot b _ (neL b o e) hb (neC b o e hx) e1 (I.base.free b o e n hx);exact⟨sl',e2⟩
 .obtain⟨o',e1⟩:=I.base.there b o e hx;exact free b o' (neC b o e hx) e1 (I.base.free b o e n hx)
 .obtain⟨o',e1⟩:=I.base.there b o e hx;exact there b o' (neC b o e hx) e1
 .obtain⟨m1,e1⟩:=I.base.Gk b ps e;obtain⟨m2,e2⟩:=Gk b _ e1;exact⟨m1++m2,by rw[e2,Array.append_assoc]⟩
 .obtain⟨m,hn,hl⟩:=I.loc;refine⟨m,ns m hn,λi x v e1 e2 e3=>?_⟩;obtain⟨u,r,l⟩:=hl i x v e1 e2 e3;refine⟨u,r,?_⟩;rcases l with l|⟨k,c,e,z⟩
  .exact .inl l
  .exact .inr ⟨k,c,e,cellK x c e _ z⟩
 .obtain⟨v,z⟩:=I.cell x c e;exact⟨v,cellK x c e v z⟩
 .obtain⟨m,⟨o,_,_,ho,_⟩,_⟩:=I.loc;exact free _ o (λz=>(hch _ z).2.1 rfl) ho I.free
 .obtain⟨v,o,ho,hd⟩:=I.cell x c e;exact free c o (λz=>(hch c z).2.2.1 x c e rfl) ho (I.EI x c e)
 .obtain⟨e,n,ne,nf,d⟩:=I.pin p hp;have nch:p.1∉ch:=λz=>(hch p.1 z).2.2.2 p hp rfl
  exact⟨keep p.1 p.2 ne nf nch e n,free p.1 p.2 nch e n,ne,nf,d⟩
theorem Inv.un(I:Inv X pins σ H s)(u:Un X.fs [] H H' s.heap h')(Af:Ce X.prog X.w H' h'):Inv X pins σ H' {s with heap:=h',toks:=t'}:=by
 obtain⟨m,⟨o,es,ep,ho,r⟩,_⟩:=id I.loc;obtain⟨sl,hL⟩:=u.any ho I.free (by simp)
 exact I.step (g':=s.gens) (d':=s.drawn) (ch:=[]) (λ_ z=>nomatch z) (λb o _ hb _ e n=>u.keep b o e n hb (by simp)) (λb o _ hb _ e n=>u.slot b o e n hb (by simp)) (λb o _ e n=>u.free b o e n (by simp)) (λb o _ e=>u.there b o e (by simp)) u.Gj u.FX u.Gk (λm' hm=>by
  obtain⟨o',es',ep',ho',r'⟩:=hm;rw[ho]at ho';cases ho'
  exact⟨_,es',ep',hL,r'⟩) Af I.bare
theorem Inv.call{ch:List Addr}(I:Inv X pins σ H s)(u:Un (DR X.stack) ch H H' s.heap h')(Af:Ce X.prog X.w H' h')(hg:AllBare g')
 (hch:∀b∈ch,(b∈X.ex\/X.s₀.heap.objs.size<=b)/\b≠X.env.locals/\(∀x c,X.env.cells.lookup x=some c->c≠b)/\∀p∈X.pn++pins,p.1≠b):
 Inv X pins σ H' {s with heap:=h',gens:=g',drawn:=d',toks:=t'}:=by
 obtain⟨m,⟨o,es,ep,ho,r⟩,_⟩:=id I.loc;obtain⟨sl,hL⟩:=u.any ho I.free λz=>(hch _ z).2.1 rfl
 exact I.step (ch:=ch) hch (λb o hL hb hc e n=>u.keep b o e n (λz=>(mK (I.IP b z)).elim hL hb) hc) (λb o _ _ hc e n=>u.any e n hc) (λb o hc e n=>u.free b o e n hc) (λb o hc e=>u.there b o e hc) u.Gj u.FX u.Gk (λm' hm=>by
  obtain⟨o',es',ep',ho',r'⟩:=hm;rw[ho]at ho';cases ho'
  exact⟨_,es',ep',hL,r'⟩) Af hg
variable{it:Addr}
theorem Inv.turned(I:Inv X pins σ H s)(k:∀b o,b≠it->s.heap.get? b=some o->h'.get? b=some o)(hn:H it=none)(hL:it≠X.env.locals)
 (h1:it∈X.ex\/X.s₀.heap.objs.size<=it)(h2:∀x c,X.env.cells.lookup x=some c->c≠it)(h3:∀p∈X.pn++pins,p.1≠it):Inv X pins σ H {s with heap:=h',toks:=t'}:=by
 have nit:∀b u,H b=some u->b≠it:=λb u e z=>by rw[z,hn]at e;cases e
 refine I.step (g':=s.gens) (d':=s.drawn) (ch:=[it]) (λb hb=>?_) (λb o _ _ hc e _=>k b o (λz=>hc (by simp[z])) e) (λb o _ _ hc e _=>⟨o.slots,k b o (λz=>hc (by simp[z])) e⟩) (λ_ _ _ _ n=>n)
  (λb o hc e=>⟨o,k b o (λz=>hc (by simp[z])) e⟩) (λ_ _ e=>e) (λ_ _ _ e=>e) (λb ps e=>⟨#[],by rw[e];simp⟩) (λm hm=>?_) (λb u e=>?_) I.bare
 .have e:b=it:=by simpa using hb
  subst e;exact⟨h1,hL,h2,h3⟩
 .obtain⟨o,es,ep,ho,r⟩:=hm;exact⟨o,es,ep,k _ o (Ne.symm hL) ho,r⟩
 .refine(I.Af b u e).JT (λc v hc q=>k c v ?_ q) (λ_ q=>q) λ_ _ q=>q
  rcases hc with z|z
  .rw[z];exact nit b u e
  .exact nit c _ z
theorem Inv.tok(I:Inv X pins σ H s)(t:Nat):Inv X pins σ H {s with toks:=t}:=I.un (h':=s.heap) (t':=t) Un.refl I.Af
theorem Inv.kept(I:Inv X pins σ H s)(k:∀b u,s.heap.get? b=some u->h'.get? b=some u):Inv X pins σ H {s with heap:=h',toks:=t'}:=I.un (Un.kept k) (I.Af.kept k)
theorem Inv.laid{a:Addr}(I:Inv X pins σ H s)(k:∀b u,s.heap.get? b=some u->h'.get? b=some u)(hp:s.heap.objs.size<=a)(new:BN X.prog X.w (upd H a o) h' a o):
 Inv X pins σ (upd H a o) {s with heap:=h',toks:=t'}:=I.un (Un.laid k hp (I.Af.fresh hp)) (I.Af.laid k hp new)
theorem Inv.write{e:Addr}(I:Inv X pins σ H s)(mu:bq (H x))(he:e=x\/H e=some (.own x))(k:∀b u,b≠e->s.heap.get? b=some u->h'.get? b=some u)(heo:∃u,h'.get? e=some u)
 (new:BN X.prog X.w (upd H x o) h' x o):Inv X pins σ (upd H x o) {s with heap:=h',toks:=t'}:=I.un (Un.write mu he k heo) (I.Af.write mu he k heo new)
theorem Inv.DL{pins':List (Addr×Obj)}(I:Inv X pins σ H s)(h:∀p∈pins',s.heap.get? p.1=some p.2/\H p.1=none/\p.1≠X.env.locals/\p.1∉X.fs/\∀v,p.2.data≠.cell v):Inv X pins' σ H s:=
 ⟨I.ok,I.os,I.bare,I.base,I.loc,I.cell,I.free,I.EI,λp hp=>(mem_append.mp hp).elim (λz=>I.pin p (mL z)) (h p),I.Af,I.len⟩
variable{j:Nat}
theorem Kg{N:List Str}(hN:N.Nodup){i:Nat}{x:Str}(a:N[i]? =some x)(b:N[j]? =some x):i=j:=by
 obtain⟨h1,e1⟩:=List.getElem?_eq_some_iff.mp a;obtain⟨h2,e2⟩:=List.getElem?_eq_some_iff.mp b;exact(List.getElem_inj hN).mp (e1.trans e2.symm)
variable{M:Model}{A:Around}
theorem HS{E:Value->Shared->Prop}{i:Nat}{x:Str}{Q:Unit->Shared->Prop}(I:Inv X pins σ H s)(hN:X.N.Nodup)(hi:X.N[i]? =some x)(hx:Loc X.env.scope x)(r:RelV v u)
 (h:∀s',Inv X pins (σ.set i (some v)) H s'->(∃a,Heap.SameBut a s.heap s'.heap/\(a=X.env.locals\/X.env.cells.lookup x=some a))->Q () s')(hf:X.fn x=true\/X.env.scope.names.lookup x=some .local:=by first|exact .inl rfl|exact .inr rfl|assumption):wpAny M A (storeName X.env x u) Q E s:=by
 obtain⟨m,hn,hl⟩:=id I.loc;have hcls:(X.env.scope.kind == .class || (X.env.scope.kind == .module && X.env.locals != X.env.globals))=false:=by rw[I.ok.kind];rfl
 have hiσ:i < σ.length:=by rw[I.len];exact(List.getElem?_eq_some_iff.mp hi).1
 have XU:=I.XU
 have tracked:∀{a:Addr} {h':Heap},(∃o,s.heap.get? a=some o/\H a=none)->Heap.SameBut a s.heap h'->Ce X.prog X.w H h':=λ{a h'} ha hs b ob e=>by
  obtain⟨_,_,hfree⟩:=ha;refine(I.Af b ob e).JT (λc w' hc q=>(hs.2 c ?_).trans q) (λ_ q=>q) λ_ _ q=>q
  rintro rfl
  rcases hc with rfl|hc
  .rw[hfree]at e;cases e
  .rw[hfree]at hc;cases hc
 rcases hx with hk|hk
 .refine wpAny_storeName_local hk hn (λh' hn' hs=>?_) hcls;obtain⟨oL,_,_,hoL,_⟩:=id hn;refine h _ ⟨I.ok,I.os,I.bare,⟨λb o e n hb hx=>?_,λb o e n hb hx=>?_,I.base.free,λb o e hx=>?_,I.base.Gj,I.base.FX,I.base.Gk⟩,⟨_,hn',λj y v' e1 e2 e3=>?_⟩,λy c e=>?_,I.free,I.EI,λp hp=>?_,tracked ⟨oL,hoL,I.free⟩ hs,by simpa using I.len⟩ ⟨_,hs,.inl rfl⟩
  .exact(hs.2 b (Nat.ne_of_lt (Nat.lt_of_lt_of_le (Heap.lt_size e) I.ok.above))).trans (I.base.keep b o e n hb hx)
  .obtain⟨sl,e1⟩:=I.base.slot b o e n hb hx;exact⟨sl,(hs.2 b (Nat.ne_of_lt (Nat.lt_of_lt_of_le (Heap.lt_size e) I.ok.above))).trans e1⟩
  .obtain⟨o',e1⟩:=I.base.there b o e hx;exact⟨o',(hs.2 b (Nat.ne_of_lt (Nat.lt_of_lt_of_le (Heap.lt_size e) I.ok.above))).trans e1⟩
  .by_cases hj:j=i
   .subst hj;rw[hi]at e1;cases e1;rw[List.getElem?_set_self hiσ]at e2;cases e2;exact⟨u,r,.inl ⟨hk,by simp⟩⟩
   .rw[List.getElem?_set_ne (Ne.symm hj)]at e2;obtain⟨u',r',q⟩:=hl j y v' e1 e2 e3;refine⟨u',r',?_⟩;rcases q with⟨k,e⟩|⟨k,c,e,z⟩
    .refine .inl ⟨k,?_⟩;have:y≠x:=λe=>hj (Kg hN e1 (e▸hi))
     simp[this,e]
    .exact .inr ⟨k,c,e,z.sameBut hs (XU y c e)⟩
  .obtain⟨w',z⟩:=I.cell y c e;exact⟨w',z.sameBut hs (XU y c e)⟩
  .obtain⟨e,n,ne,nf,d⟩:=I.pin p hp;exact⟨(hs.2 p.1 ne).trans e,n,ne,nf,d⟩
 .have hfn:X.fn x=true:=by
   rcases hf with z|z
   .exact z
   .rw[z]at hk;cases hk
  obtain⟨c,hc⟩:=I.ok.has x (.inl hk);obtain⟨w',z⟩:=I.cell x c hc;refine wpAny_storeName_cell I.ok.kind hk hc z (λh' hc' hs=>?_);obtain⟨oc,hoc,hocd⟩:=id z;refine h {s with heap:=h'} ⟨I.ok,I.os,I.bare,⟨λb o e n hb hx=>?_,λb o e n hb hx=>?_,I.base.free,λb o e hx=>?_,I.base.Gj,I.base.FX,I.base.Gk⟩,⟨m,hn.sameBut hs (Ne.symm (XU x c hc)),λj y v' e1 e2 e3=>?_⟩,λy c' e=>?_,I.free,I.EI,λp hp=>?_,tracked ⟨oc,hoc,I.EI x c hc⟩ hs,by simpa using I.len⟩ ⟨c,hs,.inr hc⟩
  .exact(hs.2 b (Nat.ne_of_lt (Nat.lt_of_lt_of_le (Heap.lt_size e) (I.ok.aU x c hfn hc)))).trans (I.base.keep b o e n hb hx)
  .obtain⟨sl,e1⟩:=I.base.slot b o e n hb hx;exact⟨sl,(hs.2 b (Nat.ne_of_lt (Nat.lt_of_lt_of_le (Heap.lt_size e) (I.ok.aU x c hfn hc)))).trans e1⟩
  .obtain⟨o',e1⟩:=I.base.there b o e hx;exact⟨o',(hs.2 b (Nat.ne_of_lt (Nat.lt_of_lt_of_le (Heap.lt_size e) (I.ok.aU x c hfn hc)))).trans e1⟩
  .by_cases hj:j=i
   .subst hj;rw[hi]at e1;cases e1;rw[List.getElem?_set_self hiσ]at e2;cases e2;exact⟨u,r,.inr ⟨.inl hk,c,hc,hc'⟩⟩
   .rw[List.getElem?_set_ne (Ne.symm hj)]at e2;obtain⟨u',r',q⟩:=hl j y v' e1 e2 e3;refine⟨u',r',?_⟩;rcases q with q|⟨k,c',e,z'⟩
    .exact .inl q
    .refine .inr ⟨k,c',e,z'.sameBut hs ?_⟩
     rintro rfl
     exact hj (Kg hN e1 (I.ok.inj _ _ _ e hc▸hi))
  .by_cases hcc:c'=c
   .subst hcc;exact⟨_,hc'⟩
   .obtain⟨w2,z2⟩:=I.cell y c' e;exact⟨w2,z2.sameBut hs hcc⟩
  .obtain⟨e,n,ne,nf,d⟩:=I.pin p hp;refine⟨(hs.2 p.1 ?_).trans e,n,ne,nf,d⟩;intro q;rw[q,hoc]at e;have q':oc=p.2:=Option.some.inj e;exact d w' (by rw[<-q'];exact hocd)
theorem GK{E:Value->Shared->Prop}{i:Nat}{x:Str}{Q:Unit->Shared->Prop}(I:Inv X pins σ H s)(hN:X.N.Nodup)(hi:X.N[i]? =some x)(hx:Loc X.env.scope x)(r:RelV v u)
 (h:∀s',Inv X pins (σ.set i (some v)) H s'->Q () s')(hf:X.fn x=true\/X.env.scope.names.lookup x=some .local:=by first|exact .inl rfl|exact .inr rfl|assumption):wpAny M A (storeName X.env x u) Q E s:=
 HS I hN hi hx r (λs' I' _=>h s' I') hf
theorem Inv.W0{s':Shared}{ch:List Addr}(I:Inv X pins σ H s)(ho:s'.os=s.os)(u:Un (DR X.stack) ch H H' s.heap s'.heap)(Af:Ce X.prog X.w H' s'.heap)(hg:AllBare s'.gens)
 (hch:∀b∈ch,(b∈X.ex\/X.s₀.heap.objs.size<=b)/\b≠X.env.locals/\(∀x c,X.env.cells.lookup x=some c->c≠b)/\∀p∈X.pn++pins,p.1≠b):Inv X pins σ H' s':=by
 obtain⟨h',g',d',t',o'⟩:=s';have e:o'=s.os:=ho;subst e;exact I.call (g':=g') (t':=t') (d':=d') u Af hg hch
abbrev XK:=Value->Option Addr->Hp->Prop
abbrev St:=List (Option V)
abbrev VK:=V->Hp->Prop
abbrev TE:=St->Hp->VK->Prop
abbrev TT:=St->Hp->(Bool->Hp->Prop)->Prop
abbrev TA:=St->Hp->(List V->Hp->Prop)->Prop
structure Ends where
 nx:St->Hp->Prop
 rt:VK
 bk:St->Hp->Prop:=λ_ _=>False
 ct:St->Hp->Prop:=λ_ _=>False
abbrev TS:=Ends->St->Hp->Prop
def EP(X:Cx)(pins:List (Addr×Obj))(σ:St)(Q:VK)(u:Value)(s':Shared):Prop:=∃v H',Inv X pins σ H' s'/\RelV v u/\Q v H'
def TP(X:Cx)(pins:List (Addr×Obj))(σ:St)(Q:Bool->Hp->Prop)(b:Bool)(s':Shared):Prop:=∃H',Inv X pins σ H' s'/\Q b H'
def AP(X:Cx)(pins:List (Addr×Obj))(σ:St)(Q:List V->Hp->Prop)(us:List Value)(s':Shared):Prop:=∃vs H',Inv X pins σ H' s'/\Vals vs us/\Q vs H'
def SP(X:Cx)(pins:List (Addr×Obj))(D:Ends)(f:Flow)(s':Shared):Prop:=
 match f with
 |.next=>∃σ' H',Inv X pins σ' H' s'/\D.nx σ' H'
 |.brk=>∃σ' H',Inv X pins σ' H' s'/\D.bk σ' H'
 |.cont=>∃σ' H',Inv X pins σ' H' s'/\D.ct σ' H'
 |.ret u=>∃v σ' H',Inv X pins σ' H' s'/\RelV v u/\D.rt v H'
def PE(X:Cx)(e:Expr)(t:TE):Prop:=
 ∀(pins:List (Addr×Obj)) (s:Shared) (σ:St) (H:Hp) (Q:VK),Inv X pins σ H s->t σ H Q->wpAny (model X.prog X.w) X.A (eval e X.env) (EP X pins σ Q) X.xe s
def PT(X:Cx)(e:Expr)(t:TT):Prop:=
 ∀(pins:List (Addr×Obj)) (s:Shared) (σ:St) (H:Hp) (Q:Bool->Hp->Prop),Inv X pins σ H s->t σ H Q->wpAny (model X.prog X.w) X.A (isTrue e X.env (eval e X.env)) (TP X pins σ Q) X.xe s
def PW(X:Cx)(e:Expr)(t:TT):Prop:=
 ∀(whole:Sem Value) (pins:List (Addr×Obj)) (s:Shared) (σ:St) (H:Hp) (Q:Bool->Hp->Prop),Inv X pins σ H s->t σ H Q->wpAny (model X.prog X.w) X.A (isTrue e X.env whole) (TP X pins σ Q) X.xe s
variable{X:Cx}
theorem PW.pt{t:TT}(h:PW X e t):PT X e t:=h _
def PA(X:Cx)(es:List Expr)(t:TA):Prop:=
 ∀(pos:Pos) (pins:List (Addr×Obj)) (s:Shared) (σ:St) (H:Hp) (Q:List V->Hp->Prop),Inv X pins σ H s->t σ H Q->wpAny (model X.prog X.w) X.A (spliced (backTo pos (starEach es X.env))) (AP X pins σ Q) X.xe s
def PS(X:Cx)(st:Stmt)(t:TS):Prop:=
 ∀(pins:List (Addr×Obj)) (s:Shared) (σ:St) (H:Hp) (D:Ends),Inv X pins σ H s->t D σ H->wpAny (model X.prog X.w) X.A (exec st X.env) (SP X pins D) X.xe s
def ON(X:Cx)(st:List Stmt)(t:TS):Prop:=
 ∀(pins:List (Addr×Obj)) (s:Shared) (σ:St) (H:Hp) (D:Ends),Inv X pins σ H s->t D σ H->wpAny (model X.prog X.w) X.A (execs st X.env) (SP X pins D) X.xe s
variable{s:Shared}
theorem Bf{α:Type}{t:Sem α}{Q Q':α->Shared->Prop}{E:Value->Shared->Prop}(h:wpAny M A t Q E s)(hQ:∀a s,Q a s->Q' a s):wpAny M A t Q' E s:=wpAny_mono h hQ λ_ _ x=>x
section
variable{pins:List (Addr×Obj)}{s:Shared}{H:Hp}
theorem bin{ta tb:TE}(ha:PE X a ta)(hb:PE X b tb){σ:St}{R:V->V->Hp->Prop}(I:Inv X pins σ H s)(h:ta σ H λx H1=>tb σ H1 λy H2=>R x y H2)
 {α:Type}{Q:α->Shared->Prop}{f:Value->Value->Sem α}
 (hf:∀v u s2 x y H2,Inv X pins σ H2 s2->RelV x v->RelV y u->R x y H2->wpAny (model X.prog X.w) X.A (f v u) Q X.xe s2):
 wpAny (model X.prog X.w) X.A (eval a X.env) (λv s₁=>wpAny (model X.prog X.w) X.A (eval b X.env) (λu s₂=>wpAny (model X.prog X.w) X.A (f v u) Q X.xe s₂) X.xe s₁) X.xe s:=by
 refine Bf (ha pins s σ H _ I h) λv s1 ⟨x,H1,I1,r1,q1⟩=>?_
 refine Bf (hb pins s1 σ H1 _ I1 q1) λu s2 ⟨y,H2,I2,r2,q2⟩=>?_
 exact hf v u s2 x y H2 I2 r1 r2 q2
def F9(i:Nat):TE:=λσ H Q=>∃v,σ[i]? =some (some v)/\Q v H
def tC(v:V):TE:=λ_ H Q=>Q v H
variable{pos:Pos}
theorem LC{i:Nat}{x:Str}(hN:X.N[i]? =some x)(hv:bf X.env.scope x)(hd:(x == ("__debug__":Str))=false:=by decide)(hcd:(x == ("__classdict__":Str))=false:=by decide):PE X (.Name x pos) (F9 i):=by
 intro pins s σ H Q I h;obtain⟨v,e,h⟩:=h;obtain⟨m,hn,hl⟩:=I.loc;obtain⟨u,r,l⟩:=hl i x v hN e hv;have fin:EP X pins σ Q u s:=⟨v,H,I,r,h⟩;rcases l with⟨hk,hm⟩|⟨hk,c,hc,hcell⟩
 .exact wpAny_Name (wpAny_loadName_local I.ok.kind hk hn hm fin) hd
 .rcases hk with hk|hk
  .exact wpAny_Name (wpAny_loadName_cell I.ok.kind hk hc hcell fin) hd
  .exact wpAny_Name (wpAny_loadName_free I.ok.kind hk hc hcell fin hcd) hd
theorem WU{i j pos}:PE X (.Constant (.int i) j pos) (tC (.int i)):=λ_ _ _ H _ I h=>wpAny_Constant_int ⟨.int i,H,I.tok _,⟨_,rfl⟩,h⟩
theorem ZM{b j pos}:PE X (.Constant (.bool b) j pos) (tC (.bl b)):=λ_ _ _ H _ I h=>Constant_bool ⟨.bl b,H,I,rfl,h⟩
theorem PR{j pos}:PE X (.Constant .none j pos) (tC .AI):=λ_ _ _ H _ I h=>Constant_none ⟨.AI,H,I,rfl,h⟩
theorem WQ{x j pos}:PE X (.Constant (.str x) j pos) (tC (.str x)):=λ_ _ _ H _ I h=>Calls.Constant_str ⟨.str x,H,I.tok _,⟨_,rfl⟩,h⟩
def Gl(X:Cx)(x:Str):Prop:=X.env.kindOf x=some .globalImplicit
theorem Ex{E:Value->Shared->Prop}{σ:St}{u:Value}{Q:Value->Shared->Prop}(I:Inv X pins σ H s)(hg:Gl X x)(hm:X.mg x=some u)(h:Q u s)
 (hd:(x == ("__debug__":Str))=false:=by decide):wpAny (model X.prog X.w) X.A (eval (.Name x pos) X.env) Q E s:=
 Calls.Name_function_global I.ok.kind hg (Calls.loadGlobal_global (by rw[I.ok.glob];exact I.mod.glob.keeps I.bk) hm h) hd
theorem CP{E:Value->Shared->Prop}{σ:St}{u:Value}{Q:Value->Shared->Prop}(I:Inv X pins σ H s)(hg:Gl X x)(hm:X.mg x=none)(hv:bootBuiltins x=some u)(h:Q u s)
 (hn:x≠"__name__":=by decide)(hd:(x == ("__debug__":Str))=false:=by decide):wpAny (model X.prog X.w) X.A (eval (.Name x pos) X.env) Q E s:=by
 obtain⟨mb,h1,h2⟩:=I.mod.blt;exact Calls.Name_function_global I.ok.kind hg (Calls.loadGlobal_builtin (by rw[I.ok.glob];exact I.mod.glob.keeps I.bk) hm (by rw[I.ok.blt];exact h1.keeps I.bk) ((h2 x hn).trans hv) h) hd
theorem To{u:Value}(hg:Gl X x)(hm:X.mg x=some u)(r:RelV v u)(hd:(x == ("__debug__":Str))=false:=by decide):PE X (.Name x pos) (tC v):=
 λ_ _ _ H _ I h=>Ex I hg hm ⟨v,H,I,r,h⟩ hd
theorem Tt{u:Value}(hg:Gl X x)(hm:X.mg x=none)(hv:bootBuiltins x=some u)(r:RelV v u)(hn:x≠"__name__":=by decide)(hd:(x == ("__debug__":Str))=false:=by decide):PE X (.Name x pos) (tC v):=
 λ_ _ _ H _ I h=>CP I hg hm hv ⟨v,H,I,r,h⟩ hn hd
variable{a b:Expr}{ta tb:TE}{pos:Pos}
variable{tA tB':TT}{rest:List Expr}
def Zi(t u:TT):TT:=λσ H Q=>t σ H λc H1=>if c=true then u σ H1 Q else Q false H1
def dM(t u:TT):TT:=λσ H Q=>t σ H λc H1=>if c=true then Q true H1 else u σ H1 Q
def bZ(t:TT):TT:=λσ H Q=>t σ H λc H1=>Q (!c) H1
theorem T6(ha:PT X a tA):PW X (.BoolOp .And [a] pos) tA:=by
 intro wh pins s σ H Q I h;refine isTrue_and (Bf (ha pins s σ H Q I h) λc s1 e=>?_);cases c with
 |true=>exact isTrue_and_nil e
 |false=>exact e
theorem WD(ha:PT X a tA):PW X (.BoolOp .Or [a] pos) tA:=by
 intro wh pins s σ H Q I h;refine isTrue_or (Bf (ha pins s σ H Q I h) λc s1 e=>?_);cases c with
 |false=>exact isTrue_or_nil e
 |true=>exact e
theorem WE(ha:PT X a tA)(hb:PW X (.BoolOp .And (b::rest) pos) tB'):PW X (.BoolOp .And (a::b::rest) pos) (Zi tA tB'):=by
 intro wh pins s σ H Q I h;refine isTrue_and (Bf (ha pins s σ H _ I h) λc s1 ⟨H1,I1,q1⟩=>?_);cases c with
 |true=>exact hb wh pins s1 σ H1 Q I1 q1
 |false=>exact⟨H1,I1,q1⟩
theorem ZC(ha:PT X a tA)(hb:PW X (.BoolOp .Or (b::rest) pos) tB'):PW X (.BoolOp .Or (a::b::rest) pos) (dM tA tB'):=by
 intro wh pins s σ H Q I h;refine isTrue_or (Bf (ha pins s σ H _ I h) λc s1 ⟨H1,I1,q1⟩=>?_);cases c with
 |true=>exact⟨H1,I1,q1⟩
 |false=>exact hb wh pins s1 σ H1 Q I1 q1
theorem WI(ha:PT X a tA):PT X (.UnaryOp .Not a pos) (bZ tA):=by
 intro pins s σ H Q I h;exact isTrue_not (ha pins s σ H (λc H1=>Q (!c) H1) I h)
def VF(ta tb:TE):TE:=λσ H Q=>ta σ H λx H1=>∃c,x= .bl c/\if c=true then tb σ H1 Q else Q (.bl false) H1
def Zc(ta tb:TE):TE:=λσ H Q=>ta σ H λx H1=>∃c,x= .bl c/\if c=true then Q (.bl true) H1 else tb σ H1 Q
def Zd(ta:TE):TE:=λσ H Q=>ta σ H λx H1=>∃c,x= .bl c/\Q (.bl (!c)) H1
theorem WR{op}{t:TE}(h:PE X a t):PE X (.BoolOp op [a] pos) t:=λpins s σ H Q I hw=>BoolOp_one (h pins s σ H Q I hw)
theorem WX(ha:PE X a ta)(hb:PE X (.BoolOp .And (b::rest) pos) tb):PE X (.BoolOp .And (a::b::rest) pos) (VF ta tb):=by
 intro pins s σ H Q I h;refine BoolOp_and (Bf (ha pins s σ H _ I h) λv s1 ⟨x,H1,I1,r1,q1⟩=>?_);obtain⟨c,rfl,q1⟩:=q1;cases r1;refine wpAny_truthy_bool ?_;cases c with
 |true=>exact hb pins s1 σ H1 Q I1 q1
 |false=>exact⟨.bl false,H1,I1,rfl,q1⟩
theorem ZI(ha:PE X a ta)(hb:PE X (.BoolOp .Or (b::rest) pos) tb):PE X (.BoolOp .Or (a::b::rest) pos) (Zc ta tb):=by
 intro pins s σ H Q I h;refine BoolOp_or (Bf (ha pins s σ H _ I h) λv s1 ⟨x,H1,I1,r1,q1⟩=>?_);obtain⟨c,rfl,q1⟩:=q1;cases r1;refine wpAny_truthy_bool ?_;cases c with
 |false=>exact hb pins s1 σ H1 Q I1 q1
 |true=>exact⟨.bl true,H1,I1,rfl,q1⟩
theorem WS(ha:PE X a ta):PE X (.UnaryOp .Not a pos) (Zd ta):=by
 intro pins s σ H Q I h;refine UnaryOp_ (Bf (ha pins s σ H _ I h) λv s1 ⟨x,H1,I1,r1,q1⟩=>?_);obtain⟨c,rfl,q1⟩:=q1;cases r1;exact not_of (wpAny_truthy_bool ⟨.bl (!c),H1,I1,rfl,q1⟩)
end
def Dk(K:PySem.W.Frag)(H:Hp)(a:Addr)(xs:List V):Prop:=
 Rd H a (.lst xs)\/
  ∃(o:Obj) (its:Array Value) (n:Nat),K.lookup a=some o/\o.cls= .type "list"/\o.dict=none/\o.data= .seq its n/\its.size<=sizeLine/\Vals xs its.toList
def El(K:PySem.W.Frag)(H:Hp)(a:Addr)(xs:List V):Prop:=
 Rd H a (.tup xs)\/
  ∃(o:Obj) (its:Array Value) (n:Nat),K.lookup a=some o/\o.cls= .type "tuple"/\o.data= .seq its n/\its.size<=sizeLine/\Vals xs its.toList
def dy:Value->Option V
 |.none=>some .AI
 |.bool b=>some (.bl b)
 |.int i _=>some (.int i)
 |.str x _=>some (.str x)
 |.bytes b _=>some (.W2 b)
 |.float b _=>some (.bO b)
 |.ref a=>some (.ref a)
 |.type n=>some (.ty n)
 |_=>none
theorem RelV.abs(r:RelV x u):dy u=some x:=by
 cases x with
 |AI=>cases r;rfl
 |bl _=>cases r;rfl
 |int _=>obtain⟨t,rfl⟩:=r;rfl
 |str _=>obtain⟨t,rfl⟩:=r;rfl
 |W2 _=>obtain⟨t,rfl⟩:=r;rfl
 |bO _=>obtain⟨t,rfl⟩:=r;rfl
 |ref _=>cases r;rfl
 |ty _=>cases r;rfl
theorem RelV.inj(r:RelV x u)(q:RelV y u):x=y:=Option.some.inj (r.abs.symm.trans q.abs)
theorem Vals.inj:∀{xs ys:List V} {us:List Value},Vals xs us->Vals ys us->xs=ys
 |_,_,_,.nil,.nil=>rfl
 |_,_,_,.cons r t,.cons r' t'=>by rw[r.inj r',Vals.inj t t']
section
variable{σ:St}{a:Addr}{xs ys:List V}
theorem Dk.of{K:PySem.W.Frag}(h:H a=some (.lst xs)):Dk K H a xs:=.inl (.inl h)
theorem El.of{K:PySem.W.Frag}(h:H a=some (.tup xs)):El K H a xs:=.inl (.inl h)
theorem Inv.list(I:Inv X pins σ H s)(h:Dk X.K H a xs):∃its:List Value,Vals xs its/\PlainL s.heap a its.toArray/\xs.length<=sizeLine:=by
 rcases h with h|⟨o,its,n,hk,hc,hd,hs,hz,r⟩
 .obtain⟨z,its,n,r,e⟩:=h.ok I.Af;exact⟨its,r,⟨_,n,e,rfl,rfl,rfl⟩,z⟩
 .refine⟨its.toList,r,⟨o,n,I.DQ a o hk,hc,hd,by simpa using hs⟩,?_⟩;have e:=r.length;simp only[Array.length_toList]at e
  lia
theorem Inv.tuple(I:Inv X pins σ H s)(h:El X.K H a xs):∃its:List Value,Vals xs its/\IsTup s.heap a its.toArray/\xs.length<=sizeLine:=by
 rcases h with h|⟨o,its,n,hk,hc,hs,hz,r⟩
 .obtain⟨z,its,r,p⟩:=h.ok I.Af;exact⟨its,r,p,z⟩
 .refine⟨its.toList,r,⟨o,I.DQ a o hk,hc,n,by simpa using hs⟩,?_⟩;have e:=r.length;simp only[Array.length_toList]at e
  lia
theorem Inv.Km(I:Inv X pins σ H s)(h:Dk X.K H a xs)(h':Dk X.K H a ys):xs=ys:=by
 obtain⟨its,r,⟨o,n,e,_,_,d⟩,_⟩:=I.list h;obtain⟨its',r',⟨o',n',e',_,_,d'⟩,_⟩:=I.list h';rw[e]at e';cases e';rw[d]at d';injection d' with d1 _
 have:its=its':=by simpa using congrArg Array.toList d1
 subst this;exact r.inj r'
theorem Inv.NQ(I:Inv X pins σ H s)(h:El X.K H a xs)(h':El X.K H a ys):xs=ys:=by
 obtain⟨its,r,⟨o,e,_,n,d⟩,_⟩:=I.tuple h;obtain⟨its',r',⟨o',e',_,n',d'⟩,_⟩:=I.tuple h';rw[e]at e';cases e';rw[d]at d';injection d' with d1 _
 have:its=its':=by simpa using congrArg Array.toList d1
 subst this;exact r.inj r'
end
abbrev Cx.GH(X:Cx)(E:Value->Shared->Prop):Cx:={X with xe:=E}
theorem Cx.Ok.GH(ok:X.Ok)(E:Value->Shared->Prop):(X.GH E).Ok:=
 ⟨ok.mod,ok.kind,ok.glob,ok.blt,ok.above,ok.inj,ok.has,ok.aU,ok.hd,ok.frames,ok.D4,ok.bQ,ok.bs,ok.UP,ok.Qf,ok.QX,ok.Gv,ok.XD⟩
theorem Cx.Ok.DI{E:Value->Shared->Prop}(ok:(X.GH E).Ok):X.Ok:=
 ⟨ok.mod,ok.kind,ok.glob,ok.blt,ok.above,ok.inj,ok.has,ok.aU,ok.hd,ok.frames,ok.D4,ok.bQ,ok.bs,ok.UP,ok.Qf,ok.QX,ok.Gv,ok.XD⟩
section
variable{σ:St}{E:Value->Shared->Prop}
theorem Inv.GH(I:Inv X pins σ H s)(E:Value->Shared->Prop):Inv (X.GH E) pins σ H s:=⟨I.ok.GH E,I.os,I.bare,I.base,I.loc,I.cell,I.free,I.EI,I.pin,I.Af,I.len⟩
theorem Inv.DI(I:Inv (X.GH E) pins σ H s):Inv X pins σ H s:=⟨I.ok.DI,I.os,I.bare,I.base,I.loc,I.cell,I.free,I.EI,I.pin,I.Af,I.len⟩
theorem SP.DI{D:Ends}{f:Flow}{s':Shared}(h:SP (X.GH E) pins D f s'):SP X pins D f s':=by
 cases f with
 |next=>obtain⟨σ',H',I,q⟩:=h;exact⟨σ',H',I.DI,q⟩
 |brk=>obtain⟨σ',H',I,q⟩:=h;exact⟨σ',H',I.DI,q⟩
 |cont=>obtain⟨σ',H',I,q⟩:=h;exact⟨σ',H',I.DI,q⟩
 |ret u=>obtain⟨v,σ',H',I,r,q⟩:=h;exact⟨v,σ',H',I.DI,r,q⟩
end
section
variable{st:Stmt}{rest:List Stmt}{t u:TS}{e:Expr}{te:TE}{pos:Pos}
def VC:TS:=λD σ H=>D.nx σ H
def Za(t u:TS):TS:=λD σ H=>t {D with nx:=u D} σ H
theorem T9:ON X [] VC:=λ_ _ σ H _ I h=>wpAny_execs_nil ⟨σ,H,I,h⟩
theorem PB(h1:PS X st t)(h2:ON X rest u):ON X (st::rest) (Za t u):=by
 intro pins s σ H D I h;refine wpAny_execs_cons (Bf (h1 pins s σ H {D with nx:=u D} I h) λf s1 q=>?_);cases f with
 |next=>
   obtain⟨σ',H',I',q⟩:=q;exact h2 pins s1 σ' H' D I' q
 |ret v=>exact q
 |brk=>exact q
 |cont=>exact q
def VE:TS:=λD σ H=>D.ct σ H
theorem K5:PS X (.Continue pos) VE:=λ_ _ σ H _ I h=>wpAny_Continue ⟨σ,H,I,h⟩
theorem Inv.quiet{pins:List (Addr×Obj)}{σ:St}{H:Hp}{s:Shared}(I:Inv X pins σ H s):interactive X.env=false:=by simp[interactive,I.ok.kind]
def VD(te:TE):TS:=λD σ H=>te σ H λ_ H1=>D.nx σ H1
theorem MS(he:PE X e te)(hs:swapsWith e none pos.line X.env=pure false:=by rfl):PS X (.Expr e pos) (VD te):=by
 intro pins s σ H D I h;exact wpAny_Expr_any (Bf (he pins s σ H _ I h) λv s1 ⟨x,H1,I1,r1,q1⟩=>⟨σ,H1,I1,q1⟩) I.quiet hs
def Zb(te:TE):TS:=λD σ H=>te σ H D.rt
theorem WJ(he:PE X e te):PS X (.Return (some e) pos) (Zb te):=by
 intro pins s σ H D I h;exact wpAny_Return_some (Bf (he pins s σ H _ I h) λv s1 ⟨x,H1,I1,r1,q1⟩=>⟨x,σ,H1,I1,r1,q1⟩)
def Zg(c:TT)(t u:TS):TS:=λD σ H=>c σ H λb H1=>if b=true then t D σ H1 else u D σ H1
theorem ZE{a b:List Stmt}{tc:TT}(hc:PT X c tc)(ha:ON X a t)(hb:ON X b u):PS X (.If c a b pos) (Zg tc t u):=by
 intro pins s σ H D I h;refine wpAny_If (Bf (hc pins s σ H _ I h) λd s1 ⟨H1,I1,q1⟩=>?_);cases d with
 |true=>exact ha pins s1 σ H1 D I1 q1
 |false=>exact hb pins s1 σ H1 D I1 q1
end
abbrev TG:=V->St->Hp->(St->Hp->Prop)->Prop
abbrev W5:=List V->St->Hp->(St->Hp->Prop)->Prop
def PG(X:Cx)(target:Expr)(t:TG):Prop:=
 ∀ (pins:List (Addr×Obj)) (s:Shared) (σ:St) (H:Hp) (v:V) (u:Value) (Q:St->Hp->Prop),Inv X pins σ H s->RelV v u->t v σ H Q->
   wpAny (model X.prog X.w) X.A (assign target X.env u) (λ_ s'=>∃σ' H',Inv X pins σ' H' s'/\Q σ' H') X.xe s
def bp(X:Cx)(ts:List Expr)(t:W5):Prop:=
 ∀ (pins:List (Addr×Obj)) (s:Shared) (σ:St) (H:Hp) (vs:List V) (us:List Value) (Q:St->Hp->Prop),Inv X pins σ H s->Vals vs us->t vs σ H Q->
   wpAny (model X.prog X.w) X.A (assignInOrder ((assignEach ts X.env).map (·.2)) us) (λ_ s'=>∃σ' H',Inv X pins σ' H' s'/\Q σ' H') X.xe s
abbrev UW:=V->V->V->Hp->(Hp->Prop)->Prop
def bo(X:Cx)(t:UW):Prop:=
 ∀ (pins:List (Addr×Obj)) (s:Shared) (σ:St) (H:Hp) (o i v:V) (ov iv u:Value) (Q:Hp->Prop),Inv X pins σ H s->RelV o ov->RelV i iv->RelV v u->t o i v H Q->
   wpAny (model X.prog X.w) X.A (setItem ov iv u) (λ_ s'=>∃H',Inv X pins σ H' s'/\Q H') X.xe s
variable{pos:Pos}
def EH(i:Nat):TG:=λv σ H Q=>Q (σ.set i (some v)) H
theorem MX{i:Nat}{x:Str}(hN:X.N.Nodup)(hi:X.N[i]? =some x)(hx:Loc X.env.scope x)(hf:X.fn x=true\/X.env.scope.names.lookup x=some .local:=by first|exact .inl rfl|exact .inr rfl|assumption):PG X (.Name x pos) (EH i):=by
 intro pins s σ H v u Q I r h;exact wpAny_assign_Name (GK I hN hi hx r (λs' I'=>⟨_,H,I',h⟩) hf)
def aI:W5:=λvs σ H Q=>vs=[]/\Q σ H
def VV(t:TG)(u:W5):W5:=λvs σ H Q=>∃v r,vs=v::r/\t v σ H λσ' H'=>u r σ' H' Q
theorem Tj:bp X [] aI:=by
 intro pins s σ H vs us Q I r h;obtain⟨e,h⟩:=h;subst e;cases r;exact assignInOrder_nil ⟨σ,H,I,h⟩
theorem PO{es:List Expr}{t:TG}{u:W5}(h1:PG X e t)(h2:bp X es u)
 (hs:(assignEach (e::es) X.env).map (·.2)=assign e X.env::(assignEach es X.env).map (·.2):=by rfl):bp X (e::es) (VV t u):=by
 intro pins s σ H vs us Q I r h;obtain⟨v,vr,e1,h⟩:=h;subst e1;cases r with
 |cons r rr=>
   rw[hs];refine assignInOrder_cons (Bf (h1 pins s σ H _ _ _ I r h) λ_ s1 ⟨σ1,H1,I1,q1⟩=>?_);exact h2 pins s1 σ1 H1 _ _ Q I1 rr q1
def XC(K:PySem.W.Frag)(n:Nat)(t:W5):TG:=λv σ H Q=>∃a xs,v= .ref a/\El K H a xs/\xs.length=n/\t xs σ H Q
variable{n:Nat}
theorem WN{es:List Expr}{k:Nat}{t:W5}(hc:X.calm=true)(h:bp X es t)
 (hn:(assignEach es X.env).length=n:=by rfl)(hst:(assignEach es X.env).findIdx? (·.1)=none:=by rfl):PG X (.Tuple es k pos) (XC X.K n t):=by
 intro pins s σ H v u Q I r hw;obtain⟨a,xs,e1,hq,hl,hw⟩:=hw;subst e1;cases r;obtain⟨its,rv,ht,hz⟩:=I.tuple hq;refine assign_Tuple_tuple (I.ok.hd hc) ht (by simp[hn,<-hl,rv.length]) hst λh' hx=>?_
 have I1:Inv X pins σ H {s with heap:=h'}:=I.kept (t':=s.toks) λb o e=>hx b o (Nat.ne_of_lt (Heap.lt_size e)) e
 exact h pins _ σ H xs _ Q I1 (by simpa using rv) hw
def dm(to ti:TE)(t:UW):TG:=λv σ H Q=>to σ H λo H1=>ti σ H1 λi H2=>t o i v H2 λH3=>Q σ H3
theorem PQ{to ti:TE}{t:UW}(ho:PE X o to)(hi:PE X i ti)(hs:bo X t)
 (ha:∀v,assign (.Subscript o i pos) X.env v=(do
  let ov <-holding [v] (eval o X.env)
  let iv <-holding [v,ov] (eval i X.env)
  standAt pos
  holding [v,ov,iv] (setItem ov iv v)
  release [v,ov,iv] []):=by intro _;rfl):PG X (.Subscript o i pos) (dm to ti t):=by
 intro pins s σ H v u Q I r h;rw[ha];refine wB (wpAny_holding (Bf (ho pins s σ H _ I h) λov s1 ⟨x,H1,I1,r1,q1⟩=>?_));refine wB (wpAny_holding (Bf (hi pins s1 σ H1 _ I1 q1) λiv s2 ⟨y,H2,I2,r2,q2⟩=>?_));refine wB (wpAny_standAt (wB (wpAny_holding (Bf (hs pins s2 σ H2 x y v ov iv u _ I2 r1 r2 r q2) λ_ s3 ⟨H3,I3,q3⟩=>?_))));exact wpAny_release ⟨σ,H3,I3,q3⟩
def P4(te:TE)(g:TG):TS:=λD σ H=>te σ H λx H1=>g x σ H1 D.nx
variable{te:TE}
theorem PF{tg:Expr}{g:TG}(he:PE X e te)(hg:PG X tg g)(hs:swapsWithSole [tg] e pos.line X.env=pure false:=by rfl)(hw:swappedStores [tg] e X.env=pure none:=by rfl)
 (h1:(assignEach [tg] X.env).map (·.2)=[assign tg X.env]:=by rfl):PS X (.Assign [tg] e pos) (P4 te g):=by
 intro pins s σ H D I h;refine wpAny_Assign_stores (Bf (he pins s σ H _ I h) λv s1 ⟨x,H1,I1,r1,q1⟩=>?_) hs hw;rw[h1];exact Bf (hg pins s1 σ H1 x v _ I1 r1 q1) λ_ s2 q=>q
theorem GU{i:Nat}{x:Str}{pos':Pos}(hN:X.N.Nodup)(hi:X.N[i]? =some x)(hx:Loc X.env.scope x)(he:PE X e te)(hs:swapsWith e (some (.Name x pos')) pos.line X.env=pure false:=by rfl)(hf:X.fn x=true\/X.env.scope.names.lookup x=some .local:=by first|exact .inl rfl|exact .inr rfl|assumption):
 PS X (.Assign [.Name x pos'] e pos) (P4 te (EH i)):=by
 intro pins s σ H D I h;refine wpAny_Assign_Name (Bf (he pins s σ H _ I h) λv s1 ⟨y,H1,I1,r1,q1⟩=>?_) hs;exact GK I1 hN hi hx r1 (λs2 I2=>⟨_,H1,I2,q1⟩) hf
def P1(c:TT)(tb:TS):TS:=λD σ H=>∃W:Nat->St->Hp->Prop,(∃m,W m σ H)/\∀m σ H,W m σ H->
 c σ H λb H1=>if b=true then ∃N:St->Hp->Prop,(∀σ' H',N σ' H'->∃m',m' < m/\W m' σ' H')/\tb {D with nx:=N,ct:=N,bk:=D.nx} σ H1 else D.nx σ H1
variable{body:List Stmt}
theorem PC{tc:TT}{tb:TS}(hp:PassesOwn (model X.prog X.w) X.A X.env X.xe)(hc:PT X c tc)(hb:ON X body tb):PS X (.While c body [] pos) (P1 tc tb):=by
 intro pins s σ H D I h;obtain⟨W,⟨m0,w0⟩,turn⟩:=h;refine wpAny_While (codeAny_whileLoop (λn s'=>∃σ' H',Inv X pins σ' H' s'/\W n σ' H') ?_ m0 ⟨σ,H,I,w0⟩)
 rintro n s1 ⟨σ1,H1,I1,w1⟩
 refine wpAny_passesOwn hp (Bf (hc pins s1 σ1 H1 _ I1 (turn n σ1 H1 w1)) λb s2 ⟨H2,I2,q2⟩=>?_);cases b with
 |true=>
   obtain⟨N,hN,q2⟩:=q2;rw[iP rfl];refine wpAny_passesOwn hp (Bf (hb pins s2 σ1 H2 _ I2 q2) λf s3 q3=>?_);cases f with
   |next=>
     obtain⟨σ3,H3,I3,n3⟩:=q3;obtain⟨m',hm,w3⟩:=hN σ3 H3 n3;exact⟨m',hm,σ3,H3,I3,w3⟩
   |cont=>
     obtain⟨σ3,H3,I3,n3⟩:=q3;obtain⟨m',hm,w3⟩:=hN σ3 H3 n3;exact⟨m',hm,σ3,H3,I3,w3⟩
   |brk=>exact q3
   |ret v=>exact q3
 |false=>
   rw[iN Bool.false_ne_true];exact wpAny_execs_nil ⟨σ1,H2,I2,q2⟩
structure It where
 go:Nat->Hp->Prop
 Mz:Nat->Hp->V->Hp->Prop
 stop:Nat->Hp->Prop
def G4(X:Cx)(pins:List (Addr×Obj))(H:Hp)(b:Addr):Prop:=
 H b=none/\b≠X.env.locals/\b∉X.fs/\(b∈X.ex\/X.s₀.heap.objs.size<=b)/\(∀x c,X.env.cells.lookup x=some c->c≠b)/\∀p∈X.pn++pins,p.1≠b
theorem Inv.M8{pins:List (Addr×Obj)}{σ:St}{H':Hp}{b:Addr}(I:Inv X pins σ H s)(hb:s.heap.objs.size<=b)(hn:H' b=none):G4 X pins H' b:=by
 refine⟨hn,Nat.ne_of_gt (Nat.lt_of_lt_of_le I.lt hb),I.ah hb,.inr (Nat.le_trans I.sz hb),λx c e z=>?_,λp hp z=>?_⟩
 .obtain⟨v,q⟩:=I.cell x c e;exact absurd (Nat.lt_of_lt_of_le q.lt (by rw[z];exact hb)) (Nat.lt_irrefl _)
 .exact absurd (Nat.lt_of_lt_of_le (Heap.lt_size (I.pin p hp).1) (by rw[z];exact hb)) (Nat.lt_irrefl _)
structure Turn(P:Program)(w:World)(K:PySem.W.Frag)(tg:Expr)(J:It)(fp:List Addr)(it:Addr)(tn:Nat->Heap->Prop):Prop where
 mem:it∈fp
 obj:∀i h,tn i h->∀b∈fp,∃o,h.get? b=some o/\∀v,o.data≠.cell v
 keep:∀i h h',tn i h->(∀b∈fp,∀o,h.get? b=some o->h'.get? b=some o)->tn i h'
 item:∀(X:Cx),X.prog=P->X.w=w->X.K=K->X.calm=true->∀(i:Nat) (pins:List (Addr×Obj)) (s:Shared) (σ:St) (H:Hp) (E:Value->Shared->Prop),Inv X pins σ H s->(∀b∈fp,G4 X pins H b)->tn i s.heap->J.go i H->
  wpAny (model P w) X.A (pyNext (.ref it)) (λr s1=>∃u,r=some u/\
   wpAny (model P w) X.A (letOwnedTupleGo tg (.ref it) u) (λ_ s2=>∃x H',Inv X pins σ H' s2/\RelV x u/\J.Mz i H x H'/\tn (i+1) s2.heap/\∀b∈fp,H' b=none) E s1) E s
 done:∀(X:Cx),X.prog=P->X.w=w->X.K=K->X.calm=true->∀(i:Nat) (pins:List (Addr×Obj)) (s:Shared) (σ:St) (H:Hp) (E:Value->Shared->Prop),Inv X pins σ H s->(∀b∈fp,G4 X pins H b)->tn i s.heap->J.stop i H->
  wpAny (model P w) X.A (pyNext (.ref it)) (λr s1=>r=none/\Inv X pins σ H s1) E s
 self:∀(A:Around) (i:Nat) (s:Shared) (Q:Value->Shared->Prop) (E:Value->Shared->Prop),tn i s.heap->Q (.ref it) s->wpAny (model P w) A (pyIter (.ref it)) Q E s
abbrev TI:=St->Hp->(It->Hp->Prop)->Prop
def eP(X:Cx)(pins:List (Addr×Obj))(σ:St)(tg:Expr)(R:It->Hp->Prop)(itv:Value)(s2:Shared):Prop:=
 ∃(it:Addr) (fp:List Addr) (tn:Nat->Heap->Prop) (J:It) (H':Hp),itv= .ref it/\Inv X pins σ H' s2/\Turn X.prog X.w X.K tg J fp it tn/\tn 0 s2.heap/\(∀b∈fp,G4 X pins H' b)/\R J H'
def PI(X:Cx)(tg iter:Expr)(wi:TI):Prop:=
 ∀ (pins:List (Addr×Obj)) (s:Shared) (σ:St) (H:Hp) (R:It->Hp->Prop),Inv X pins σ H s->wi σ H R->
   wpAny (model X.prog X.w) X.A (eval iter X.env) (λv s1=>wpAny (model X.prog X.w) X.A (pyIter v) (eP X pins σ tg R) X.xe s1) X.xe s
theorem Hn{E:Value->Shared->Prop}{tg:Expr}{u:Value}{o:Obj}{n:String}{vs:Array Value}{Q:Unit->Shared->Prop}(ho:s.heap.get? it=some o)(hc:o.cls= .type n)(hd:o.data= .fields vs)
 (hn:["enumerate","zip","dict_itemiterator","dict_reverseitemiterator","odict_iterator","itertools.zip_longest","itertools.pairwise"].contains n=false)(hQ:Q () s):wpAny M A (letOwnedTupleGo tg (.ref it) u) Q E s:=by
 unfold letOwnedTupleGo
 cases tg <;>first
  |exact wP hQ
  |(cases u<;>first
   |exact wP hQ
   | (refine wB (wpAny_load ho ?_)
      rw[hc,hd];show wpAny M A (if(["enumerate","zip","dict_itemiterator","dict_reverseitemiterator","odict_iterator","itertools.zip_longest","itertools.pairwise"].contains n && vs[0]? == some (rawInt _))=true then _ else _) Q E s;rw[iN (by intro h;rw[hn,Bool.false_and]at h;cases h)]
      exact wP hQ))
def eS(K:PySem.W.Frag)(a:Addr):It:=
 ⟨λi H=>∃xs x,Dk K H a xs/\xs[i]? =some x,λi H x H'=>H'=H/\∀xs,Dk K H a xs->xs[i]? =some x,λi H=>∃xs,Dk K H a xs/\xs.length<=i⟩
def eR(K:PySem.W.Frag)(a:Addr):It:=
 ⟨λi H=>∃xs x,El K H a xs/\xs[i]? =some x,λi H x H'=>H'=H/\∀xs,El K H a xs->xs[i]? =some x,λi H=>∃xs,El K H a xs/\xs.length<=i⟩
def br(lo:Int)(n:Nat):It:=⟨λi _=>i < n,λi H x H'=>H'=H/\x= .int (lo+i),λi _=>n<=i⟩
theorem NP{P:Program}{K:PySem.W.Frag}{tg:Expr}(a it:Addr):Turn P w K tg (eS K a) [it] it (λi h=>h.IsListIter it a i) where
 mem:=by simp
 obj:=λi h st b hb=>by
  have e:b=it:=by simpa using hb
  subst e;obtain⟨o,e,c,d⟩:=st;exact⟨o,e,λv z=>by rw[d]at z;cases z⟩
 keep:=λi h h' st k=>st.at λo e=>k it (by simp) o e
 item:=by
  intro X hP hw hK hc i pins s σ H E I hf st hg;subst hP hw hK;obtain⟨xs,x,hq,hx⟩:=hg;obtain⟨its,rv,p,hz⟩:=I.list hq;obtain⟨u,hu,ru⟩:=rv.get hx;obtain⟨f0,f1,f2,f3,f4,f5⟩:=hf it (by simp);refine wpAny_pyNext_list_item st p.isList (x:=u) (by simpa using hu) λh' st' sb=>?_
  have I1:Inv X pins σ H {s with heap:=h'}:=I.turned (t':=s.toks) (λb o hb e=>(sb.2 b hb).trans e) f0 f1 f3 f4 f5;obtain⟨o,e,c,d⟩:=id st';exact⟨u,rfl,Hn (s:={s with heap:=h'}) e c d (by decide) ⟨x,H,I1,ru,⟨rfl,λys hy=>by rw[I.Km hy hq];exact hx⟩,st',λb hb=>(hf b hb).1⟩⟩
 done:=by
  intro X hP hw hK hc i pins s σ H E I hf st hg;subst hP hw hK;obtain⟨xs,hq,hx⟩:=hg;obtain⟨its,rv,p,hz⟩:=I.list hq;obtain⟨f0,f1,f2,f3,f4,f5⟩:=hf it (by simp);have hl:=rv.length;exact wpAny_pyNext_list_end (I.ok.hd hc) st p.isList (by simp;lia) λh' eb=>⟨rfl,I.turned (t':=s.toks) (λb o hb e=>eb b o hb e) f0 f1 f3 f4 f5⟩
 self:=λ_ _ _ _ _ st h=>wpAny_pyIter_listiter st h
theorem Lm{P:Program}{K:PySem.W.Frag}{tg:Expr}(a it:Addr):Turn P w K tg (eR K a) [it] it (λi h=>h.IsTupleIter it a i) where
 mem:=by simp
 obj:=λi h st b hb=>by
  have e:b=it:=by simpa using hb
  subst e;obtain⟨o,e,c,d⟩:=st;exact⟨o,e,λv z=>by rw[d]at z;cases z⟩
 keep:=λi h h' st k=>st.at λo e=>k it (by simp) o e
 item:=by
  intro X hP hw hK hc i pins s σ H E I hf st hg;subst hP hw hK;obtain⟨xs,x,hq,hx⟩:=hg;obtain⟨its,rv,p,hz⟩:=I.tuple hq;obtain⟨u,hu,ru⟩:=rv.get hx;obtain⟨f0,f1,f2,f3,f4,f5⟩:=hf it (by simp);refine wpAny_pyNext_tuple_item st (show s.heap.IsTuple a its.toArray from p) (x:=u) (by simpa using hu) λh' st' sb=>?_
  have I1:Inv X pins σ H {s with heap:=h'}:=I.turned (t':=s.toks) (λb o hb e=>(sb.2 b hb).trans e) f0 f1 f3 f4 f5;obtain⟨o,e,c,d⟩:=id st';exact⟨u,rfl,Hn (s:={s with heap:=h'}) e c d (by decide) ⟨x,H,I1,ru,⟨rfl,λys hy=>by rw[I.NQ hy hq];exact hx⟩,st',λb hb=>(hf b hb).1⟩⟩
 done:=by
  intro X hP hw hK hc i pins s σ H E I hf st hg;subst hP hw hK;obtain⟨xs,hq,hx⟩:=hg;obtain⟨its,rv,p,hz⟩:=I.tuple hq;obtain⟨f0,f1,f2,f3,f4,f5⟩:=hf it (by simp);have hl:=rv.length;exact wpAny_pyNext_tuple_end (I.ok.hd hc) st (show s.heap.IsTuple a its.toArray from p) (by simp;lia) λh' eb=>⟨rfl,I.turned (t':=s.toks) (λb o hb e=>eb b o hb e) f0 f1 f3 f4 f5⟩
 self:=λ_ _ _ _ _ st h=>wpAny_pyIter_tupleiter st h
theorem Ln{P:Program}{K:PySem.W.Frag}{tg:Expr}(it:Addr)(lo:Int)(n:Nat):Turn P w K tg (br lo n) [it] it (λi h=>IsRangeIter h it (lo + (i:Nat) * 1) ((n:Int) - (i:Nat)) 1) where
 mem:=by simp
 obj :=λi h st b hb=>by
  have e:b=it:=by simpa using hb
  subst e
  exact⟨_,st,λv z=>by
   have z':Data.fields _=Data.cell v:=z
   cases z'⟩
 keep:=λi h h' st k=>k it (by simp) _ st
 item:=by
  intro X hP hw hK hc i pins s σ H E I hf st hg;subst hP hw hK;obtain⟨f0,f1,f2,f3,f4,f5⟩:=hf it (by simp);have W:=Walks.range (prog:=X.prog) (w:=X.w) (I.ok.hd hc) it lo 1 n;refine W.item i s _ _ hg st λv h' tk hv st' kk=>?_
  obtain⟨t,rfl⟩:=hv;have I1:Inv X pins σ H {s with heap:=h',toks:=tk}:=I.turned (λb o hb e=>kk b o (by simpa using hb) e) f0 f1 f3 f4 f5;refine⟨_,rfl,Hn (s:={s with heap:=h',toks:=tk}) (n:="range_iterator") st' rfl rfl (by decide) ⟨.int (lo+i),H,I1,⟨t,?_⟩,⟨rfl,rfl⟩,st',λb hb=>(hf b hb).1⟩⟩;rw[Int.mul_one]
 done:=by
  intro X hP hw hK hc i pins s σ H E I hf st hg;subst hP hw hK;obtain⟨f0,f1,f2,f3,f4,f5⟩:=hf it (by simp);exact wpAny_pyNext_range_end (I.ok.hd hc) st (by have:n<=i:=hg;lia) λh' eb=>⟨rfl,I.turned (t':=s.toks) (λb o hb e=>eb b o hb e) f0 f1 f3 f4 f5⟩
 self:=λ_ _ _ _ _ st h=>wpAny_pyIter_rangeiter st h
section
variable{tg:Expr}
variable{pins:List (Addr×Obj)}{H:Hp}{s:Shared}
theorem Pw{σ:St}{R:It->Hp->Prop}{E:Value->Shared->Prop}{lo hi:Int}{t u v:Tok}{tk:Nat}(I:Inv X pins σ H s)(h1: -(2 ^ 62)<=lo)(h2:lo < 2 ^ 62)(h3: -(2 ^ 62)<=hi)(h4:hi < 2 ^ 62)
 (q:R (br lo (hi-lo).toNat) H):wpAny (model X.prog X.w) X.A (pyIter (.ref s.heap.objs.size)) (eP X pins σ tg R) E {s with heap:=s.heap.push {cls:=.type "range",data:=.fields #[.int lo t,.int hi u,.int 1 v]},toks:=tk}:=by
 refine wpAny_pyIter_range (IsRange.new ..) (small_one h1 h2 h3 h4) ?_;have I1:Inv X pins σ H {s with heap:=s.heap.push {cls:=.type "range",data:=.fields #[.int lo t,.int hi u,.int 1 v]},toks:=tk}:=I.kept λb o e=>gP e
 refine⟨(s.heap.push {cls:=.type "range",data:=.fields #[.int lo t,.int hi u,.int 1 v]}).objs.size,[(s.heap.push {cls:=.type "range",data:=.fields #[.int lo t,.int hi u,.int 1 v]}).objs.size],_,_,H,rfl,
  I1.kept (t':=tk) λb o e=>gP e,Ln _ lo (hi-lo).toNat,?_,λb hb=>?_,q⟩
 .have e1:lo+((0:Nat):Int)*1=lo:=by simp
  have e2:(((hi-lo).toNat:Nat):Int)-((0:Nat):Int)=Builtin.Range.rangeSize lo hi 1:=by rw[rangeSize_one];split<;>lia
  show IsRangeIter _ _ (lo+((0:Nat):Int)*1) ((((hi-lo).toNat:Nat):Int)-((0:Nat):Int)) 1;rw[e1,e2];exact Heap.get?_push_size _ rfl
 .have e:b=(s.heap.push {cls:=.type "range",data:=.fields #[.int lo t,.int hi u,.int 1 v]}).objs.size:=by simpa using hb
  subst e;exact I1.M8 (lR) (I1.Af.fresh (lR))
def aE(ta:TA):TI:=λσ H R=>ta σ H λvs H1=>∃j:Int,vs=[.int j]/\-(2 ^ 62)<=j/\j < 2 ^ 62/\R (br 0 j.toNat) H1
variable{pos:Pos}
theorem O7{a:Expr}{ta:TA}{p:Pos}(hg:Gl X "range")(hm:X.mg "range"=none)(ha:PA X [a] ta)(hs:starEach [a] X.env=[(false,eval a X.env)]:=by rfl):PI X tg (.Call (.Name "range" p) [a] [] pos) (aE ta):=by
 intro pins s σ H R I h;refine Call_ (CP I hg hm boot_range (PyProof.Rows.callWith_type1 (Bf (ha pos pins s σ H _ I h) λus s1 ⟨vs,H1,I1,r1,q1⟩=>?_) hs rfl));obtain⟨j,e,q1,q2,q⟩:=q1;subst e;cases r1 with
 |cons r rr=>
   cases rr;obtain⟨t,rfl⟩:=r;exact call_range_1 (Pw I1 (by lia) (by lia) q1 q2 (by simpa using q))
noncomputable def Zh(wi:TI)(g:TG)(tb:TS):TS:=λD σ H=>wi σ H λJ H1=>∃W:Nat->Nat->St->Hp->Prop,(∃m,W 0 m σ H1)/\∀i m σ H,W i m σ H->
 (J.stop i H/\D.nx σ H)\/(J.go i H/\∃N:St->Hp->Prop,(∀σ' H',N σ' H'->∃m',m' < m/\W (i+1) m' σ' H')/\∀x H',J.Mz i H x H'->g x σ H' λσ2 H2=>tb {D with nx:=N,ct:=N,bk:=D.nx} σ2 H2)
def IY(fp:List Addr)(h:Heap):List (Addr×Obj):=fp.filterMap λb=>(h.get? b).map λo=>(b,o)
variable{fp:List Addr}{h:Heap}
theorem Ck{b:Addr}{o:Obj}(hb:b∈fp)(e:h.get? b=some o):(b,o)∈IY fp h:=mem_filterMap.mpr ⟨b,hb,by rw[e];rfl⟩
theorem O9{p:Addr×Obj}(hp:p∈IY fp h):p.1∈fp/\h.get? p.1=some p.2:=by
 obtain⟨b,hb,e⟩:=mem_filterMap.mp hp;cases q:h.get? b with
 |none=>rw[q]at e;cases e
 |some o=>
   rw[q]at e;have e':(b,o)=p:=Option.some.inj e;subst e';exact⟨hb,q⟩
theorem Inv.pinned{σ:St}(I:Inv X pins σ H s)(hf:∀b∈fp,G4 X pins H b)(ho:∀b∈fp,∃o,s.heap.get? b=some o/\∀v,o.data≠.cell v):Inv X (pins++IY fp s.heap) σ H s:=
 I.DL λp hp=>(mem_append.mp hp).elim (λz=>I.pin p (mR z)) λz=>by
  obtain⟨hb,e⟩:=O9 z;obtain⟨f0,f1,f2,_⟩:=hf p.1 hb;obtain⟨o,e',d⟩:=ho p.1 hb;rw[e]at e';cases e';exact⟨e,f0,f1,f2,d⟩
theorem Inv.GI{pl:List (Addr×Obj)}{σ:St}(I:Inv X (pins++pl) σ H s):Inv X pins σ H s:=I.DL λp hp=>I.pin p (mR (mL hp))
theorem WK{iter:Expr}{body:List Stmt}{wi:TI}{g:TG}{tb:TS}(hp:PassesOwn (model X.prog X.w) X.A X.env X.xe)(hc:X.calm=true)(hi:PI X tg iter wi)(hg:PG X tg g)(hb:ON X body tb)
 (hs:∀x,foldedSetIterable iter X.env x=pure x:=by intro _;rfl):PS X (.For tg iter body [] pos) (Zh wi g tb):=by
 intro pins s σ H D I h;refine wpAny_For (Bf (hi pins s σ H _ I h) λv s1 h1=>Bf h1 λitv s2 h2=>?_) hs;obtain⟨it,fp,tn,J,H2,e,I2,T,st2,f2,W,⟨m0,w0⟩,turn⟩:=h2;subst e;have stat:∀{H':Hp},(∀b∈fp,H' b=none)->∀b∈fp,G4 X pins H' b:=λhn b hb=>⟨hn b hb,(f2 b hb).2⟩
 refine codeAny_forLoop_any (λn s'=>∃i σ' H',Inv X pins σ' H' s'/\tn i s'.heap/\(∀b∈fp,H' b=none)/\W i n σ' H') ?_ m0 ⟨0,σ,H2,I2,st2,λb hb=>(f2 b hb).1,w0⟩
 rintro n s3 ⟨i,σ3,H3,I3,st3,fr3,w3⟩
 rcases turn i n σ3 H3 w3 with⟨stop,qn⟩|⟨go,N,hN,step⟩
 .refine wpAny_passesOwn hp (Bf (T.done X rfl rfl rfl hc i pins s3 σ3 H3 X.xe I3 (stat fr3) st3 stop) λr s4 ⟨hr,I4⟩=>?_);subst hr;exact wpAny_execs_nil ⟨σ3,H3,I4,qn⟩
 .refine wpAny_passesOwn hp (Bf (T.item X rfl rfl rfl hc i pins s3 σ3 H3 X.xe I3 (stat fr3) st3 go) λr s4 ⟨u,hr,h4⟩=>?_);subst hr;refine wpAny_passesOwn hp (Bf h4 λ_ s5 ⟨x,H5,I5,r5,y5,st5,fr5⟩=>?_);have I5':=I5.pinned (stat fr5) (T.obj _ _ st5);refine wpAny_passesOwn hp (Bf (hg _ s5 σ3 H5 x u _ I5' r5 (step x H5 y5)) λ_ s6 ⟨σ6,H6,I6,q6⟩=>?_);refine wpAny_passesOwn hp (Bf (hb _ s6 σ6 H6 _ I6 q6) λf s7 q7=>?_)
  have again:∀{σ7:St} {H7:Hp},Inv X (pins++IY fp s5.heap) σ7 H7 s7->N σ7 H7->∃m,m < n/\∃i σ' H',Inv X pins σ' H' s7/\tn i s7.heap/\(∀b∈fp,H' b=none)/\W i m σ' H':=λ{σ7 H7} I7 n7=>by
   obtain⟨m',hm,w7⟩:=hN σ7 H7 n7;refine⟨m',hm,i+1,σ7,H7,I7.GI,T.keep _ _ _ st5 λb hb o e=>(I7.pin (b,o) (mR (mR (Ck hb e)))).1,λb hb=>?_,w7⟩;obtain⟨o,e,d⟩:=T.obj _ _ st5 b hb;exact(I7.pin (b,o) (mR (mR (Ck hb e)))).2.1
  cases f with
  |next=>obtain⟨σ7,H7,I7,n7⟩:=q7;exact again I7 n7
  |cont=>obtain⟨σ7,H7,I7,n7⟩:=q7;exact again I7 n7
  |brk=>obtain⟨σ7,H7,I7,q7⟩:=q7;exact⟨σ7,H7,I7.GI,q7⟩
  |ret v=>obtain⟨x7,σ7,H7,I7,r7,q7⟩:=q7;exact⟨x7,σ7,H7,I7.GI,r7,q7⟩
end
abbrev R2:=V->V->Hp->VK->Prop
def Dl(X:Cx)(f:Value->Value->Sem Value)(r:R2):Prop:=
 ∀ (pins:List (Addr×Obj)) (s:Shared) (σ:St) (H:Hp) (x y:V) (v u:Value) (Q:VK),Inv X pins σ H s->RelV x v->RelV y u->r x y H Q->
   wpAny (model X.prog X.w) X.A (f v u) (EP X pins σ Q) X.xe s
def W4(X:Cx)(f:Value->Sem Value)(r:V->Hp->VK->Prop):Prop:=
 ∀ (pins:List (Addr×Obj)) (s:Shared) (σ:St) (H:Hp) (x:V) (v:Value) (Q:VK),Inv X pins σ H s->RelV x v->r x H Q->
   wpAny (model X.prog X.w) X.A (f v) (EP X pins σ Q) X.xe s
def AW(X:Cx)(f:Value)(r:List V->Hp->VK->Prop):Prop:=
 ∀ (pins:List (Addr×Obj)) (s:Shared) (σ:St) (H:Hp) (xs:List V) (us:List Value) (Q:VK),Inv X pins σ H s->Vals xs us->r xs H Q->
   wpAny (model X.prog X.w) X.A (call f us) (EP X pins σ Q) X.xe s
def bh(X:Cx)(r:V->Hp->(Bool->Hp->Prop)->Prop):Prop:=
 ∀ (pins:List (Addr×Obj)) (s:Shared) (σ:St) (H:Hp) (x:V) (v:Value) (Q:Bool->Hp->Prop),Inv X pins σ H s->RelV x v->r x H Q->
   wpAny (model X.prog X.w) X.A (truthy v) (TP X pins σ Q) X.xe s
def bB(r:R2)(ta tb:TE):TE:=λσ H Q=>ta σ H λx H1=>tb σ H1 λy H2=>r x y H2 Q
def eX(r:V->Hp->VK->Prop)(ta:TE):TE:=λσ H Q=>ta σ H λx H1=>r x H1 Q
def rI(C:Int->Int->Prop)(g:Int->Int->V):R2:=λx y H Q=>∃i j,x= .int i/\y= .int j/\C i j/\Q (g i j) H
def WA(g:Int->Int->V):R2:=λx y H Q=>∃i j,x= .int i/\y= .int j/\Q (g i j) H
def rU(g:Int->V):V->Hp->VK->Prop:=λx H Q=>∃i,x= .int i/\Q (g i) H
section
variable{a b c:Expr}{ta tb tc:TE}
theorem Yf(ha:PE X a ta)(hb:PE X b tb){pins:List (Addr×Obj)}{s:Shared}{σ:St}{H:Hp}{R:V->V->Hp->Prop}(I:Inv X pins σ H s)
 (h:ta σ H λx H1=>tb σ H1 λy H2=>R x y H2){Q:Value->Shared->Prop}{f:Value->Value->Sem Value}
 (hf:∀v u s2 x y H2,Inv X pins σ H2 s2->RelV x v->RelV y u->R x y H2->wpAny (model X.prog X.w) X.A (f v u) Q X.xe s2):
 wpAny (model X.prog X.w) X.A (eval a X.env) (λv s₁=>wpAny (model X.prog X.w) X.A (eval b X.env) (λu s₂=>wpAny (model X.prog X.w) X.A (f v u) Q X.xe s₂) X.xe s₁) X.xe s:=by
 refine Bf (ha pins s σ H _ I h) λv s1 ⟨x,H1,I1,r1,q1⟩=>?_
 refine Bf (hb pins s1 σ H1 _ I1 q1) λu s2 ⟨y,H2,I2,r2,q2⟩=>?_
 exact hf v u s2 x y H2 I2 r1 r2 q2
theorem ZJ{op:Operator}{r:R2}(ho:Dl X (binaryOp op) r)(ha:PE X a ta)(hb:PE X b tb):PE X (.BinOp a op b pos) (bB r ta tb):=by
 intro pins s σ H Q I h;exact wpAny_BinOp (Yf ha hb I h λv u s2 x y H2 I2 rx ry q=>ho pins s2 σ H2 x y v u Q I2 rx ry q)
theorem ZH{op:UnaryOp}{r:V->Hp->VK->Prop}(ho:W4 X (unaryOp op) r)(ha:PE X a ta):PE X (.UnaryOp op a pos) (eX r ta):=by
 intro pins s σ H Q I h;exact UnaryOp_ (Bf (ha pins s σ H _ I h) λv s1 ⟨x,H1,I1,r1,q1⟩=>ho pins s1 σ H1 x v Q I1 r1 q1)
theorem bC{f:Value->Value->Sem Value}{C:Int->Int->Prop}{g:Int->Int->Int}
 (rule:∀(i j:Int) (t u:Tok) (s:Shared) (Q:Value->Shared->Prop) (E:Value->Shared->Prop),C i j->Q (.int (g i j) s.toks) {s with toks:=s.toks+1}->wpAny (model X.prog X.w) X.A (f (.int i t) (.int j u)) Q E s):
 Dl X f (rI C λi j=>.int (g i j)):=by
 intro pins s σ H x y v u Q I rx ry h;obtain⟨i,j,rfl,rfl,hc,q⟩:=h;obtain⟨t,rfl⟩:=rx;obtain⟨t',rfl⟩:=ry;exact rule i j t t' s _ _ hc ⟨.int (g i j),H,I.tok _,⟨_,rfl⟩,q⟩
theorem ZV{f:Value->Value->Sem Value}{g:Int->Int->Int}
 (rule:∀(i j:Int) (t u:Tok) (s:Shared) (Q:Value->Shared->Prop) (E:Value->Shared->Prop),Q (.int (g i j) s.toks) {s with toks:=s.toks+1}->wpAny (model X.prog X.w) X.A (f (.int i t) (.int j u)) Q E s):
 Dl X f (WA λi j=>.int (g i j)):=by
 intro pins s σ H x y v u Q I rx ry h;obtain⟨i,j,rfl,rfl,q⟩:=h;obtain⟨t,rfl⟩:=rx;obtain⟨t',rfl⟩:=ry;exact rule i j t t' s _ _ ⟨.int (g i j),H,I.tok _,⟨_,rfl⟩,q⟩
theorem Xa{f:Value->Value->Sem Value}{g:Int->Int->Bool}
 (rule:∀(i j:Int) (t u:Tok) (s:Shared) (Q:Value->Shared->Prop) (E:Value->Shared->Prop),Q (.bool (g i j)) s->wpAny (model X.prog X.w) X.A (f (.int i t) (.int j u)) Q E s):
 Dl X f (WA λi j=>.bl (g i j)):=by
 intro pins s σ H x y v u Q I rx ry h;obtain⟨i,j,rfl,rfl,q⟩:=h;obtain⟨t,rfl⟩:=rx;obtain⟨t',rfl⟩:=ry;exact rule i j t t' s _ _ ⟨.bl (g i j),H,I,rfl,q⟩
def dI(i j:Int):Prop:=0 < j/\j < 1073741824
def dH(i j:Int):Prop:=0<=j/\j<=1000000/\i.natAbs < 2 ^ 64
def YC(i j:Int):Prop:=(-(2 ^ 64) < i/\i < 2 ^ 64)\/(-(2 ^ 64) < j/\j < 2 ^ 64)
theorem YC.ok{i j:Int}(h:YC i j):IntMulOk i j:=by
 rcases h with⟨h1,h2⟩|⟨h1,h2⟩
 .exact .of_left (intBits_le_64 h1 h2)
 .exact .of_right (intBits_le_64 h1 h2)
theorem X9:Dl X (binaryOp .Add) (WA λi j=>.int (i+j)):=ZV λ_ _ _ _ _ _ _ q=>add_int q
theorem X3:Dl X (binaryOp .Sub) (WA λi j=>.int (i-j)):=ZV λ_ _ _ _ _ _ _ q=>sub_int q
theorem X5:Dl X (binaryOp .Mult) (rI YC λi j=>.int (i*j)):=bC λ_ _ _ _ _ _ _ hc q=>mul_int q hc.ok
theorem Tv:Dl X (binaryOp .FloorDiv) (rI dI λi j=>.int (i / j)):=bC λi j _ _ _ _ _ hc q=>by
 have h1:(0:Int) < j:=hc.1;have h2:j < 1073741824:=hc.2;exact floordiv_int (by lia) (by rw[Int.fdiv_eq_ediv_of_nonneg i (by lia)];exact q) (.inl (PyProof.noPylong_small (by lia)))
theorem X6:Dl X (binaryOp .Mod) (rI (λ_ j=>0 < j) λi j=>.int (i % j)):=bC λi j _ _ _ _ _ hc q=>by
 have h1:(0:Int) < j:=hc;exact mod_int' (by lia) (by rw[Int.fmod_eq_emod_of_nonneg i (by lia)];exact q)
theorem X4:Dl X (binaryOp .Pow) (rI dH λi j=>.int (i ^ j.toNat)):=bC λ_ _ _ _ _ _ _ hc q=>pow_int_small hc.1 hc.2.1 hc.2.2 q
theorem eW{f:Value->Sem Value}{g:Int->Int}
 (rule:∀(i:Int) (t:Tok) (s:Shared) (Q:Value->Shared->Prop) (E:Value->Shared->Prop),Q (.int (g i) s.toks) {s with toks:=s.toks+1}->wpAny (model X.prog X.w) X.A (f (.int i t)) Q E s):
 W4 X f (rU λi=>.int (g i)):=by
 intro pins s σ H x v Q I rx h;obtain⟨i,rfl,q⟩:=h;obtain⟨t,rfl⟩:=rx;exact rule i t s _ _ ⟨.int (g i),H,I.tok _,⟨_,rfl⟩,q⟩
theorem Wc:W4 X (unaryOp .USub) (rU λi=>.int (-i)):=eW λ_ _ _ _ _ q=>neg_int q
end
section
variable{a b c:Expr}{ta tb tc:TE}
variable{pins:List (Addr×Obj)}{H:Hp}{s:Shared}
theorem XE{σ:St}{Q:VK}{k k':Bool}(I:Inv X pins σ H s)(q:Q (.bl k) H)(e:k=k'):EP X pins σ Q (.bool k') s:=by
 subst e;exact⟨.bl k,H,I,rfl,q⟩
theorem ZQ:Dl X (compareOp .Lt) (WA λi j=>.bl (decide (i < j))):=Xa λ_ _ _ _ _ _ _ q=>lt_int q
theorem ZR:Dl X (compareOp .Gt) (WA λi j=>.bl (decide (j < i))):=Xa λ_ _ _ _ _ _ _ q=>gt_int q
theorem ZU:Dl X (compareOp .GtE) (WA λi j=>.bl (decide (j<=i))):=Xa λ_ _ _ _ _ _ _ q=>ge_int q
theorem X7:Dl X (compareOp .Is) (λx y H Q=>y= .AI/\Q (.bl (decide (x= .AI))) H):=by
 intro pins s σ H x y v u Q I rx ry h;obtain⟨rfl,q⟩:=h;cases ry;refine is_none_gen (XE I q ?_)
 cases x<;>first
  |(cases rx;rfl)
  |(obtain⟨t,rfl⟩:=rx;rfl)
def isObj:HO->Bool
 |.lst _=>true
 |.ins _ _ _=>true
 |_=>false
theorem Ib{σ:St}{a:Addr}{o:HO}(I:Inv X pins σ H s)(h:H a=some o)(p:isObj o=true):∃ob,s.heap.get? a=some ob/\ob.cls≠.type "tuple":=by
 cases o with
 |lst xs=>
   obtain⟨_,its,n,_,e⟩:xs.length<=sizeLine/\∃(its:List Value) (n:Nat),Vals xs its/\s.heap.get? a=some {cls:=.type "list",data:=.seq its.toArray n}:=I.Af a _ h;exact⟨_,e,(by show Value.type "list"≠.type "tuple";decide +kernel)⟩
 |ins C dx fs=>
   have x:=I.Af a _ h;obtain⟨_,_,_,e,_⟩:=x;exact⟨_,e,(by show Value.ref C≠.type "tuple";exact λz=>by cases z)⟩
 |_=>exact absurd (show false=true from p) Bool.false_ne_true
variable{op:CmpOp}
theorem Tq{r:R2}(ho:Dl X (compareOp op) r)(ha:PE X a ta)(hb:PE X b tb)(hm:behindInMarks op b=false):PE X (.Compare a [op] [b] pos) (bB r ta tb):=by
 intro pins s σ H Q I h;exact wpAny_Compare1 (Yf ha hb I h λv u s2 x y H2 I2 rx ry q=>ho pins s2 σ H2 x y v u Q I2 rx ry q) hm
def Z9(t:TE):TT:=λσ H Q=>t σ H λx H'=>∃k,x= .bl k/\Q k H'
theorem T8{r:R2}(ho:Dl X (compareOp op) r)(ha:PE X a ta)(hb:PE X b tb)(hm:behindInMarks op b=false):PT X (.Compare a [op] [b] pos) (Z9 (bB r ta tb)):=by
 intro pins s σ H Q I h
 refine wpAny_isTrue_Compare1 (Bf (ha pins s σ H _ I h) λv s1 ⟨x,H1,I1,r1,q1⟩=>Bf (hb pins s1 σ H1 _ I1 q1) λu s2 ⟨y,H2,I2,r2,q2⟩=>
  Bf (ho pins s2 σ H2 x y v u _ I2 r1 r2 q2) λc s3 ⟨z,H3,I3,r3,k,e,q3⟩=>?_) hm
 subst e;cases r3;exact wpAny_truthy_bool ⟨H3,I3,q3⟩
def bg(K:PySem.W.Frag)(x:V)(H:Hp)(k:Bool):Prop:=
 match x with
 |.AI=>k=false
 |.bl b=>k=b
 |.int i=>k=(i != 0)
 |.str y=>y.length<=sizeLine/\k=((y.length:Int) != 0)
 |.W2 y=>y.size<=sizeLine/\k=((y.size:Int) != 0)
 |.ref p=>(∃xs,Dk K H p xs/\k= !xs.isEmpty)\/(∃xs,El K H p xs/\k= !xs.isEmpty)\/∃kvs,H p=some (.dK kvs)/\k= !kvs.isEmpty
 |_=>False
theorem LY{κ:Type}{kvs:List (κ×V)}{vs:List (κ×Value)}(r:KV kvs vs):(!vs.isEmpty)= !kvs.isEmpty:=by
 cases r<;>rfl
theorem Hi{xs:List V}{its:List Value}(r:Vals xs its):(!its.toArray.isEmpty)= !xs.isEmpty:=by
 cases r<;>simp
theorem FN:(sizeLine:Nat) < 2 ^ 63:=by rw[sizeLine_eq];decide
theorem Wn:bh X (λx H Q=>∃k,bg X.K x H k/\Q k H):=by
 intro pins s σ H x v Q I rx h;obtain⟨k,e,q⟩:=h;have hl:=FN;have hs:sizeLine=16777216:=sizeLine_eq;cases x with
 |AI=>
   cases rx;have e':k=false:=e;subst e';exact truthy_none ⟨H,I,q⟩
 |bl b=>
   cases rx;have e':k=b:=e;subst e';exact wpAny_truthy_bool ⟨H,I,q⟩
 |int i=>
   obtain⟨t,rfl⟩:=rx;have e':k=(i != 0):=e;subst e';exact PySem.P.truthy_int ⟨H,I,q⟩
 |str y=>
   obtain⟨t,rfl⟩:=rx;obtain⟨hy,e'⟩:y.length<=sizeLine/\k=((y.length:Int) != 0):=e;subst e';exact PySem.P.truthy_str (by lia) ⟨H,I.tok _,q⟩
 |W2 y=>
   obtain⟨t,rfl⟩:=rx;obtain⟨hy,e'⟩:y.size<=sizeLine/\k=((y.size:Int) != 0):=e;subst e';exact PySem.W.truthy_bytes (by lia) ⟨H,I.tok _,q⟩
 |ref p=>
   cases rx;have e':(∃xs,Dk X.K H p xs/\k= !xs.isEmpty)\/(∃xs,El X.K H p xs/\k= !xs.isEmpty)\/∃kvs,H p=some (.dK kvs)/\k= !kvs.isEmpty:=e;rcases e' with⟨xs,hx,e'⟩|⟨xs,hx,e'⟩|⟨kvs,hx,e'⟩
   .subst e';obtain⟨its,r,pl,hz⟩:=I.list hx;have hlen:=r.length;exact wpAny_truthy_list pl.isList (by simp only[size_toArray];lia) ⟨H,I.tok _,by rw[Hi r];exact q⟩
   .subst e';obtain⟨its,r,pl,hz⟩:=I.tuple hx;have hlen:=r.length;exact truthy_tuple pl (by simp only[size_toArray];lia) ⟨H,I.tok _,by rw[Hi r];exact q⟩
   .subst e';obtain⟨hz,hS,vs,r,m⟩:kvs.length<=sizeLine/\(p == sysModules)=false/\∃vs,KV kvs vs/\s.heap.DictOf (Jc X.prog X.w) p vs:=I.Af p _ hx;have hlen:kvs.length=vs.length:=Paired.length r;exact wpAny_truthy_dict hS m (by lia) ⟨H,I.tok _,by rw[LY r];exact q⟩
 |_=>exact(show False from e).elim
theorem LJ:Dl X (binaryOp .Add) (λx y H Q=>∃i j,x= .str i/\y= .str j/\i.length + j.length<=sizeLine/\Q (.str (i++j)) H):=by
 intro pins s σ H x y v u Q I rx ry h;obtain⟨i,j,rfl,rfl,hz,q⟩:=h;obtain⟨t,rfl⟩:=rx;obtain⟨t',rfl⟩:=ry;exact add_str (λt' tk=>⟨.str (i++j),H,I.tok _,⟨_,rfl⟩,q⟩) hz
variable{us:List Value}
theorem vals1{x:V}(r:Vals [x] us):∃u,us=[u]/\RelV x u:=by
 cases r with
 |cons r1 r2=>cases r2;exact⟨_,rfl,r1⟩
theorem vals2{x y:V}(r:Vals [x,y] us):∃u w',us=[u,w']/\RelV x u/\RelV y w':=by
 cases r with
 |cons r1 r2=>
   cases r2 with
   |cons r3 r4=>cases r4;exact⟨_,_,rfl,r1,r3⟩
theorem OC(hc:X.calm=true):AW X (.builtin "min") (λxs H Q=>∃i j,xs=[.int i,.int j]/\Q (.int (if j < i then j else i)) H):=by
 intro pins s σ H xs us Q I r h;obtain⟨i,j,rfl,q⟩:=h;obtain⟨u,w',rfl,⟨t,rfl⟩,⟨t',rfl⟩⟩:=vals2 r;refine min_two_ints (I.ok.hd hc) λh' tk k=>⟨_,H,I.kept k,?_,q⟩
 by_cases hj:j < i
 .rw[iP hj,iP hj];exact⟨_,rfl⟩
 .rw[iN hj,iN hj];exact⟨_,rfl⟩
def dC(K:PySem.W.Frag)(x:V)(H:Hp)(n:Nat):Prop:=
 match x with
 |.str y=>y.length<=sizeLine/\n=y.length
 |.W2 y=>y.size<=sizeLine/\n=y.size
 |.ref p=>(∃xs,Dk K H p xs/\n=xs.length)\/∃xs,El K H p xs/\n=xs.length
 |_=>False
theorem HC:AW X (.builtin "len") (λxs H Q=>∃x n,xs=[x]/\dC X.K x H n/\Q (.int n) H):=by
 intro pins s σ H xs us Q I r h;obtain⟨x,n,rfl,e,q⟩:=h;obtain⟨u,rfl,rx⟩:=vals1 r;have hl:=FN;have hs:sizeLine=16777216:=sizeLine_eq;cases x with
 |str y=>
   obtain⟨t,rfl⟩:=rx;obtain⟨hy,e'⟩:y.length<=sizeLine/\n=y.length:=e;subst e';exact len_str (by lia) ⟨.int _,H,I.tok _,⟨_,rfl⟩,q⟩
 |W2 y=>
   obtain⟨t,rfl⟩:=rx;obtain⟨hy,e'⟩:y.size<=sizeLine/\n=y.size:=e;subst e';exact PySem.W.len_bytes (by lia) ⟨.int _,H,I.tok _,⟨_,rfl⟩,q⟩
 |ref p=>
   cases rx;have e':(∃xs,Dk X.K H p xs/\n=xs.length)\/∃xs,El X.K H p xs/\n=xs.length:=e;rcases e' with⟨xs,hx,e'⟩|⟨xs,hx,e'⟩
   .subst e';obtain⟨its,r',pl,hz⟩:=I.list hx;have hlen:=r'.length;exact Calls.call_len_list pl.isList (by simp only[size_toArray];lia) ⟨.int xs.length,H,I.tok _,⟨_,by simp only[size_toArray];rw[hlen]⟩,q⟩
   .subst e';obtain⟨its,r',pl,hz⟩:=I.tuple hx;have hlen:=r'.length;exact len_tuple pl (by simp only[size_toArray];lia) ⟨.int xs.length,H,I.tok _,⟨_,by simp only[size_toArray];rw[hlen]⟩,q⟩
 |_=>exact(show False from e).elim
end
structure Mt(h:Heap)(x dx C:Addr)(mA:Str->Option Value):Prop where
 obj:h.get? x=some (instObj C dx)
 ns:h.Ns1 dx mA
 ne:dx≠x
variable{dx:Addr}{mA:Str->Option Value}
theorem Og(n:h.Ns1 dx mA):∃od,h.get? dx=some od/\∀name,lookIn name od=some (mA name):=by
 obtain⟨o,es,ep,ho,hd,hk,_,hm⟩:=n;refine⟨o,ho,λname=>?_⟩;have e:=hm name;unfold nsFind findBy at e;rw[<-Array.find?_toList]at e;unfold lookIn;rw[hd];dsimp only;split
 .rename_i y q;rw[q]at e;exact congrArg some e
 .rename_i q;rw[q]at e
  have a:es.toList.any (·.refKey)=false:=by
   rw[List.any_eq_false];intro y hy;obtain⟨z,t,hkey⟩:=hk y (Array.mem_toList_iff.mp hy);simp[DictEntry.refKey,hkey]
  have a':¬es.toList.any (·.refKey)=true:=by rw[a];exact Bool.false_ne_true
  rw[iN a'];exact congrArg some e
theorem Mt.look{C:Addr}(I:Mt h x dx C mA):∃od,InstAt h x (instObj C dx) C (some od)/\∀name,lookIn name od=some (mA name):=
 let⟨od,ho,hl⟩:=Og I.ns
 ⟨od,⟨I.obj,rfl,rfl,ho⟩,hl⟩
section
variable{prog:Program}{w:World}{A:Around}{E:Value->Shared->Prop}{K:PySem.W.Frag}{x dx C f:Addr}{mA:Str->Option Value}{name:Str}{v:Value}
theorem get_map{expr:Bool}{Q:Value->Shared->Prop}(X:K.In s.heap)(I:Mt s.heap x dx C mA)(hg:plainGet K C name=true)(hh:hasDictIn K C=true)
 (ha:findIn K (.ref C) name=some none)(hv:mA name=some v)(hv':handedIn v=true)(h:Q v {s with toks:=s.toks+1}):
 wpAny (model prog w) A (getAttr (.ref x) name expr) Q E s:=by
 obtain⟨od,J,hl⟩:=I.look;exact PySem.W.get_value X J (plainGet_of hg).1 (PySem.W.findObj_own hh ha rfl (by rw[hl,hv])) hv' h
theorem QQ{pl:Sem Bool}{Q:Value×List Value->Shared->Prop}(X:K.In s.heap)(I:Mt s.heap x dx C mA)(hg:plainGet K C name=true)
 (hf:findIn K (.ref C) name=some (some (.ref f)))(ht:isFn K (.ref f)=true)(hv:mA name=none)(h:Q (.ref f,[.ref x]) s):
 wpAny (model prog w) A (getMethod (.ref x) name pl) Q E s:=by
 obtain⟨od,J,hl⟩:=I.look;exact PySem.W.method_fn X J (plainGet_of hg).1 (plainGet_of hg).2 hf (beq_iff_eq.mp ht) (by show(lookIn name od).map (·.isSome)=some false;rw[hl,hv];rfl) h
theorem SO{ns:List Str}{Q:Unit->Shared->Prop}(X:K.In s.heap)(I:Mt s.heap x dx C mA)
 (hs:findIn K (.ref C) "__setattr__"=some (some (.builtin "object.__setattr__")))(hp:plainOver K C=true)(ht:takerIn K C name=some none)(hh:hasDictIn K C=true)
 (hw:PySem.Within mA ns)(hsz:ns.length<=sizeLine)
 (h:∀h',Mt h' x dx C (λy=>if y=name then some v else mA y)->Heap.SameBut dx s.heap h'->Q () {s with heap:=h',toks:=s.toks+2}):
 wpAny (model prog w) A (setAttr (.ref x) name v) Q E s:=by
 obtain⟨od,J,hl⟩:=I.look;refine set_plain X J hs (PySem.W.osa_open (s:={s with toks:=s.toks+1}) (r:=none) X J hp ht λb=>?_);obtain⟨cd,hc,hd'⟩:=any_some hh;have hx:s.heap.get? x=some ⟨.ref C,some dx,.plain,#[]⟩:=I.obj;refine wB (wP (wB (wB (wpAny_loadPart hx (wB (Looks.here (s:={s with toks:=s.toks+1}) (looks_clsIn X hc) ?_))))));rw[hd'];refine wP (a:=some dx) (wB (wP (wB ?_)));refine wpAny_nsSet1 (s:={s with toks:=s.toks+1}) I.ns λh' hn2 hs2=>?_
 obtain⟨oD,esD,epD,hoD,hdD,hcD⟩:=hn2.count (PySem.Within.cons name v hw);refine wB (wpAny_lookBehind hoD (by rw[hdD];exact pastItsLine_dict (Nat.le_trans hcD (by rw[lC];lia))) ?_);exact wP (h _ ⟨(hs2.2 _ (Ne.symm I.ne)).trans I.obj,hn2,I.ne⟩ hs2)
theorem Qn{R:Result->Shared->Prop}{vs:List Value}{kw:List (Str×Value)}(X:K.In s.heap)(hm:makesIn K C=true)
 (hi:findIn K (.ref C) "__init__"=some (some (.ref f)))(hf:typeIn K (.ref f)=some (.type "function"))
 (h:codeAny (model prog w) (A.under (.builtin "type.__call__" ⟨.ref C::vs,kw⟩)) (.call (.ref f) ⟨.ref (s.heap.objs.size + 1)::vs,kw⟩) (InitBack (s.heap.objs.size + 1) R)
   {s with heap:=(s.heap.push emptyDict).push (instObj C s.heap.objs.size)}):
 codeAny (model prog w) A (.call (.ref C) ⟨vs,kw⟩) R s:=by
 obtain⟨hh,g,d,t,os⟩:=s;exact PySem.W.make_core (PySem.W.makes_of X hm) (looks_findIn X hi) (λself=>bind_fn X self hf) (.inl rfl) h
end
def Bg(f:Str)(v:V):List (Str×V)->List (Str×V)
 |[]=>[(f,v)]
 |(g,x)::r=>if g=f then(g,v)::r else(g,x)::Bg f v r
theorem Ga(f g:Str)(v:V):∀fs:List (Str×V),(Bg f v fs).lookup g=if g=f then some v else fs.lookup g
 | []=>by
   show List.lookup g [(f,v)]=_
   by_cases h:g=f
   .have hb:(g == f)=true:=beq_iff_eq.mpr h;simp only[List.lookup,hb,iP h]
   .have hb:(g == f)=false:=beq_eq_false_iff_ne.mpr h;simp only[List.lookup,hb,iN h]
 | (k, x)::r=>by
   have ih:=Ga f g v r;rw[show Bg f v ((k,x)::r)=(if k=f then(k,v)::r else(k,x)::Bg f v r)from rfl]
   by_cases hk:k=f
   .rw[iP hk]
    by_cases h:g=k
    .have hb:(g == k)=true:=beq_iff_eq.mpr h;simp only[List.lookup,hb,iP (h.trans hk)]
    .have hb:(g == k)=false:=beq_eq_false_iff_ne.mpr h;simp only[List.lookup,hb,iN (λe:g=f=>h (e.trans hk.symm))]
   .rw[iN hk]
    by_cases h:g=k
    .have hb:(g == k)=true:=beq_iff_eq.mpr h;simp only[List.lookup,hb,iN (λe:g=f=>hk (h.symm.trans e))]
    .have hb:(g == k)=false:=beq_eq_false_iff_ne.mpr h;simp only[List.lookup,hb];exact ih
theorem FQ(f:Str)(v:V):∀fs:List (Str×V),f∈(Bg f v fs).map (·.1)/\∀g,g∈fs.map (·.1)->g∈(Bg f v fs).map (·.1)
 |[]=>⟨by simp[Bg],λg h=>by simp at h⟩
 | (k, x)::r=>by
   obtain⟨i1,i2⟩:=FQ f v r;rw[show Bg f v ((k,x)::r)=(if k=f then(k,v)::r else(k,x)::Bg f v r)from rfl]
   by_cases hk:k=f
   .rw[iP hk];subst hk;exact⟨by simp,λg h=>by simpa using h⟩
   .rw[iN hk];refine⟨?_,λg h=>?_⟩
    .rw[map_cons];exact mC i1
    .rw[map_cons]at h ⊢;rcases mK h with e|e
     .exact mem_cons.mpr (.inl e)
     .exact mC (i2 g e)
theorem Gd(f:Str)(v:V):∀fs:List (Str×V),(Bg f v fs).length<=fs.length + 1
 |[]=>by simp[Bg]
 | (k,x)::r=>by
   have ih:=Gd f v r;rw[show Bg f v ((k,x)::r)=(if k=f then(k,v)::r else(k,x)::Bg f v r)from rfl]
   by_cases hk:k=f
   .rw[iP hk,lC,lC];lia
   .rw[iN hk,lC,lC];lia
theorem HN.some_of{o:Option Value}(r:HN (some v) o):∃u,o=some u/\RelV v u:=by
 cases o with
 |none=>exact(show False from r).elim
 |some u=>exact⟨u,rfl,r⟩
theorem HN.none_of{o:Option Value}(r:HN none o):o=none:=by
 cases o with
 |none=>rfl
 |some u=>exact(show False from r).elim
theorem Oq(r:RelV v u):handedIn u=true:=by
 cases v with
 |AI=>cases (show u=Value.none from r);rfl
 |bl b=>cases (show u=Value.bool b from r);rfl
 |int i=>obtain⟨t,e⟩:=(show ∃t,u=Value.int i t from r);cases e;rfl
 |str x=>obtain⟨t,e⟩:=(show ∃t,u=Value.str x t from r);cases e;rfl
 |W2 b=>obtain⟨t,e⟩:=(show ∃t,u=Value.bytes b t from r);cases e;rfl
 |bO b=>obtain⟨t,e⟩:=(show ∃t,u=Value.float b t from r);cases e;rfl
 |ref a=>cases (show u=Value.ref a from r);rfl
 |ty n=>cases (show u=Value.type n from r);rfl
section
variable{P:Program}{w:World}{h:Heap}{a C dx:Addr}{fs fs':List (Str×V)}
theorem Jm(Af:Ce P w H h)(e:H a=some (.ins C dx fs)):∃mA,Mt h a dx C mA/\(∀f,HN (fs.lookup f) (mA f))/\PySem.Within mA (fs.map (·.1))/\fs.length<=1000/\H dx=some (.own a):=by
 obtain⟨d,z,ne,ob,mA,n,r,q⟩:=(show BN P w H h a (.ins C dx fs)from Af a _ e);exact⟨mA,⟨ob,n,ne⟩,r,q,z,d⟩
end
structure FA(K:PySem.W.Frag)(C:Addr):Prop where
 pg:plainGet K C Str.empty=true
 hd:hasDictIn K C=true
 po:plainOver K C=true
 sa:findIn K (.ref C) "__setattr__"=some (some (.builtin "object.__setattr__"))
theorem FA.get{K:PySem.W.Frag}{C:Addr}(c:FA K C)(f:Str):plainGet K C f=true:=c.pg
def C2(K:PySem.W.Frag)(C:Addr)(f:Str):Prop:=findIn K (.ref C) f=some none
theorem C2.Z7{K:PySem.W.Frag}{C:Addr}(n:C2 K C f):takerIn K C f=some none:=by
 unfold takerIn;rw[show findIn K (.ref C) f=some none from n];rfl
structure Meth(K:PySem.W.Frag)(C:Addr)(m:Str)(f:Addr):Prop where
 at_:findIn K (.ref C) m=some (some (.ref f))
 fn:isFn K (.ref f)=true
 kp:keepIn K (.ref f)=true
section
variable{σ:St}{a C dx:Addr}{fs:List (Str×V)}{f:Str}{v:V}{A:Around}{E:Value->Shared->Prop}
theorem M4{b:Bool}{Q:Value->Shared->Prop}(I:Inv X pins σ H s)(e:H a=some (.ins C dx fs))(c:FA X.K C)(n:C2 X.K C f)(l:fs.lookup f=some v)
 (h:∀u s',Inv X pins σ H s'->RelV v u->Q u s'):wpAny (model X.prog X.w) A (getAttr (.ref a) f b) Q E s:=by
 obtain⟨mA,O,r,_,_,_⟩:=Jm I.Af e;obtain⟨u,hu,ru⟩:=HN.some_of (v:=v) (o:=mA f) (by rw[<-l];exact r f);exact get_map I.DQ O (c.get f) c.hd n hu (Oq ru) (h u _ (I.tok _) ru)
theorem Ho{pl:Sem Bool}{Q:Value×List Value->Shared->Prop}(I:Inv X pins σ H s)(e:H a=some (.ins C dx fs))(c:FA X.K C)(k:Meth X.K C m g)(l:fs.lookup m=none)
 (h:Q (.ref g,[.ref a]) s):wpAny (model X.prog X.w) A (getMethod (.ref a) m pl) Q E s:=by
 obtain⟨mA,O,r,_,_,_⟩:=Jm I.Af e;have hn:mA m=none:=HN.none_of (by rw[<-l];exact r m);exact QQ I.DQ O (c.get m) k.at_ k.fn hn h
theorem Lq{Q:Unit->Shared->Prop}(I:Inv X pins σ H s)(e:H a=some (.ins C dx fs))(c:FA X.K C)(n:C2 X.K C f)(hl:fs.length < 1000)(ry:RelV y u)
 (h:∀s',Inv X pins σ (upd H a (.ins C dx (Bg f y fs))) s'->Q () s'):wpAny (model X.prog X.w) A (setAttr (.ref a) f u) Q E s:=by
 obtain⟨mA,O,r,wi,_,ho⟩:=Jm I.Af e;have hz:(fs.map (·.1)).length<=sizeLine:=by rw[lM,sizeLine_eq];lia
 refine SO I.DQ O c.sa c.po n.Z7 c.hd wi hz λh' O' sb=>h _ ?_
 have hd:∃o,h'.get? dx=some o:=let⟨o,_,_,e',_⟩:=O'.ns;⟨o,e'⟩;refine I.write (x:=a) (e:=dx) (by rw[e];exact True.intro) (.inr ho) (λb q hb z=>(sb.2 b hb).trans z) hd ?_;refine⟨by rw[An O.ne];exact ho,?_,O.ne,O'.obj,_,O'.ns,λg=>?_,λg hg=>?_⟩
 .have:=Gd f y fs;lia
 .show HN ((Bg f y fs).lookup g) (if g=f then some u else mA g);rw[Ga]
  by_cases q:g=f
  .rw[iP q,iP q];exact ry
  .rw[iN q,iN q];exact r g
 .by_cases q:g=f
  .rw[q];exact(FQ f y fs).1
  .refine(FQ f y fs).2 g (wi g λz=>hg ?_);show(if g=f then some u else mA g)=none;rw[iN q];exact z
theorem Inv.made(I:Inv X pins σ H s):Inv X pins σ (upd (upd H s.heap.objs.size (.own (s.heap.objs.size + 1))) (s.heap.objs.size + 1) (.ins C s.heap.objs.size []))
 {s with heap:=(s.heap.push emptyDict).push (instObj C s.heap.objs.size)}:=by
 have e1:(s.heap.push emptyDict).get? s.heap.objs.size=some emptyDict:=Heap.get?_push_size s.heap rfl
 have e2:((s.heap.push emptyDict).push (instObj C s.heap.objs.size)).get? (s.heap.objs.size + 1)=some (instObj C s.heap.objs.size):=by
  have:=Heap.get?_push_size (s.heap.push emptyDict) (o:=instObj C s.heap.objs.size) rfl;rwa[Heap.size_push]at this
 have e3:(s.heap.push emptyDict).Ns s.heap.objs.size (λ_=>none):=⟨emptyDict,#[],_,e1,rfl,(λe he=>absurd he (by simp)),λ_=>rfl⟩;have I1:=I.laid (a:=s.heap.objs.size) (o:=.own (s.heap.objs.size+1)) (h':=s.heap.push emptyDict) (t':=s.toks) (λb u q=>gP q) (lR) ⟨_,e1⟩;refine I1.laid (a:=s.heap.objs.size+1) (o:=.ins C s.heap.objs.size []) (t':=s.toks) (λb u q=>gP q) (Nat.le_of_eq (Heap.size_push _ _)) ?_;have ne:s.heap.objs.size≠s.heap.objs.size+1:=Nat.ne_of_lt (Nat.lt_succ_self _);refine⟨by rw[An ne,Ay],Nat.zero_le _,ne,e2,λ_=>none,(Heap.Ns1.of_empty e3).at λo q=>gP q,λ_=>True.intro,λy hy=>absurd rfl hy⟩
theorem UR{prog:Program}{w:World}{env:Env}{pos:Pos}{s:Shared}{Q:Value->Shared->Prop}(hb:attributeBase e f env (eval e env)=eval e env)
 (h:wpAny (model prog w) A (eval e env) (λo s₁=>wpAny (model prog w) A (getAttr o f true) Q E s₁) E s):wpAny (model prog w) A (eval (.Attribute e f pos) env) Q E s:=
 Attribute_any_ h (by rw[arm_eval_Attribute,hb])
end
def Wo(K:PySem.W.Frag)(ta:TE)(f:Str):TE:=λσ H Q=>ta σ H λx H1=>∃a C dx fs v,x= .ref a/\H1 a=some (.ins C dx fs)/\FA K C/\C2 K C f/\fs.lookup f=some v/\Q v H1
def cm(K:PySem.W.Frag)(ta tv:TE)(f:Str):TS:=λD σ H=>tv σ H λy H1=>ta σ H1 λx H2=>∃a C dx fs,x= .ref a/\H2 a=some (.ins C dx fs)/\FA K C/\C2 K C f/\fs.length < 1000/\
 D.nx σ (upd H2 a (.ins C dx (Bg f y fs)))
section
variable{o e value:Expr}{f:Str}{pos' tpos:Pos}{ta tv:TE}
theorem PX(he:PE X e ta)(hb:attributeBase e f X.env (eval e X.env)=eval e X.env):PE X (.Attribute e f pos) (Wo X.K ta f):=by
 intro pins s σ H Q I h;refine UR hb (Bf (he pins s σ H _ I h) λu s1 ⟨x,H1,I1,rx,a,C,dx,fs,v,ex,ea,c,n,l,q⟩=>?_);subst ex;obtain rfl:u=Value.ref a:=rx;exact M4 I1 ea c n l λu' s2 I2 ru=>⟨v,H1,I2,ru,q⟩
theorem WL(ha:PE X o ta)(hv:PE X value tv)(hs:swapsWith value (some (.Attribute o f pos')) pos.line X.env=pure false):PS X (.Assign [.Attribute o f pos'] value pos) (cm X.K ta tv f):=by
 intro pins s σ H D I h;refine plainObj_wpAny_Assign_Attribute (Bf (hv pins s σ H _ I h) λu s1 ⟨y,H1,I1,ry,q⟩=>Bf (ha pins s1 σ H1 _ I1 q) λov s2 ⟨x,H2,I2,rx,a,C,dx,fs,ex,ea,c,n,l,q2⟩=>?_) hs;subst ex;obtain rfl:ov=Value.ref a:=rx;exact Lq I2 ea c n l ry λs3 I3=>⟨σ,_,I3,q2⟩
theorem VP{pl:Sem Bool}{apos:Pos}{args:List Expr}{pins:List (Addr×Obj)}{s:Shared}{σ:St}{H:Hp}{Q:Value->Shared->Prop}{te:TE}(he:PE X e te)(I:Inv X pins σ H s)
 (h:te σ H λx H1=>∃a C dx fs g,x= .ref a/\H1 a=some (.ins C dx fs)/\FA X.K C/\Meth X.K C m g/\fs.lookup m=none/\
   ∀s1,Inv X pins σ H1 s1->wpAny (model X.prog X.w) X.A (callWith pos (.ref g) [.ref a] (backTo pos (starEach args X.env)) (backToKw pos (keywordEach [] X.env))) Q X.xe s1)
 (ht:eval (.Call (.Attribute e m apos) args [] pos) X.env=(do
  let ov <-eval e X.env
  standAt apos.atName
  let(f,first) <-holding [ov] (getMethod ov m pl)
  callWith pos f first (backTo pos (starEach args X.env)) (backToKw pos (keywordEach [] X.env)))):
 wpAny (model X.prog X.w) X.A (eval (.Call (.Attribute e m apos) args [] pos) X.env) Q X.xe s:=by
 refine methodCall_KW (pl:=pl) (Bf (he pins s σ H _ I h) λu s1 ⟨x,H1,I1,rx,a,C,dx,fs,g,ex,ea,c,k,l,q⟩=>?_) ht;subst ex;obtain rfl:u=Value.ref a:=rx;exact Ho I1 ea c k l (q s1 I1)
end
structure C6(k:Nat)(A:Around):Prop where
 hd:A.handled=none
 dp:A.depth+3*k+5 < recursionLimit
 un:A.units+16*k+200 < cLine
theorem C6.mono{k:Nat}(r:C6 k A)(h:j<=k):C6 j A:=⟨r.hd,by have:=r.dp;lia,by have:=r.un;lia⟩
theorem C6.deeper{k:Nat}(r:C6 (k + 1) A)(env:Env):C6 k (A.deeper env):=
 ⟨r.hd,by have:=r.dp;show A.depth+1+3*k+5 < _;lia,by have:=r.un;show A.units+3+16*k+200 < _;lia⟩
variable{kw:List (Str×Value)}
theorem LP{C:Addr}:(A.under (.builtin "type.__call__" ⟨.ref C::us,kw⟩)).depth=A.depth + 1:=by
 first|rfl|simp[Around.under,Code.weight,Code.isCreation,Code.isGuard,Code.isCaller,Code.frames,Code.isFrame,guardIds]
theorem LO{C:Addr}:(A.under (.builtin "type.__call__" ⟨.ref C::us,kw⟩)).units=A.units + 1:=by
 first|rfl|simp[Around.under,Code.cUnits,Code.frames,Code.isFrame]
theorem C6.make{k:Nat}(r:C6 (k + 1) A)(C:Addr)(us:List Value)(kw:List (Str×Value)):C6 k (A.under (.builtin "type.__call__" ⟨.ref C::us,kw⟩)):=
 ⟨r.hd,by have:=r.dp;rw[LP];lia,by have:=r.un;rw[LO];lia⟩
theorem C6.depth{k:Nat}(r:C6 k A):A.depth < recursionLimit:=by have:=r.dp;lia
def Gm:TA:=λ_ H Q=>Q [] H
def CJ(ta:TE)(tr:TA):TA:=λσ H Q=>ta σ H λx H1=>tr σ H1 λxs H2=>Q (x::xs) H2
variable{e:Expr}{es:List Expr}{te:TE}{t:TA}
theorem EW:PA X [] Gm:=λ_ _ _ _ H Q I h=>Calls.spliced_nil ⟨[],H,I,.nil,h⟩
theorem D7(ha:PE X e te)(hr:PA X es t)(hs:starEach (e::es) X.env=(false,eval e X.env)::starEach es X.env:=by rfl):PA X (e::es) (CJ te t):=by
 intro pos pins s σ H Q I h;rw[hs];show wpAny _ _ (spliced ((false,eval e X.env)::backTo pos (starEach es X.env))) _ _ s;refine Calls.spliced_cons (Bf (ha pins s σ H _ I h) λu s1 ⟨x,H1,I1,r1,q1⟩=>?_);exact Bf (hr pos pins s1 σ H1 _ I1 q1) λus s2 ⟨xs,H2,I2,r2,q2⟩=>⟨x::xs,H2,I2,.cons r1 r2,q2⟩
def bY(t:TA):TE:=λσ H Q=>t σ H λxs H1=>xs.length<=sizeLine/\∀p,H1 p=none->Q (.ref p) (upd H1 p (.tup xs))
def c6(t:TA):TE:=λσ H Q=>t σ H λxs H1=>xs.length<=sizeLine/\∀p,H1 p=none->Q (.ref p) (upd H1 p (.lst xs))
theorem WO{x1}(h:PA X es t):PE X (.Tuple es x1 pos) (bY t):=by
 intro pins s σ H Q I hq;refine wpAny_Tuple_spliced (Bf (h pos pins s σ H _ I hq) λus s1 ⟨xs,H1,I1,r,z,q⟩=>⟨by rw[<-r.length];exact z,?_⟩);have hf:H1 s1.heap.objs.size=none:=I1.Af.fresh (lR);refine⟨.ref s1.heap.objs.size,upd H1 s1.heap.objs.size (.tup xs),I1.laid (t':=s1.toks) (λb u e=>gP e) (lR) ?_,rfl,q _ hf⟩;exact⟨z,us,r,⟨_,Heap.get?_push_size _ rfl,rfl,_,rfl⟩⟩
theorem WT(h:PA X es t):PE X (.List es pos) (c6 t):=by
 intro pins s σ H Q I hq;refine wpAny_List_spliced (Bf (h pos pins s σ H _ I hq) λus s1 ⟨xs,H1,I1,r,z,q⟩=>⟨by rw[<-r.length];exact z,?_⟩);have hf:H1 s1.heap.objs.size=none:=I1.Af.fresh (lR);refine⟨.ref s1.heap.objs.size,upd H1 s1.heap.objs.size (.lst xs),I1.laid (t':=s1.toks) (λb u e=>gP e) (lR) ?_,rfl,q _ hf⟩;exact⟨z,us,0,r,Heap.get?_push_size _ rfl⟩
abbrev Sp:=List V->Hp->VK->XK->Prop
abbrev VA:=List Env->Hp->Shared->XK->Value->Shared->Prop
structure Mx(P:Program)(w:World)(K:PySem.W.Frag)(mg:Str->Option Value)(base:Heap)(A:Around)(outer:List Env)(s:Shared)(H:Hp):Prop where
 frames:A.frames=some outer
 mod:Mod K mg base
 bs:∀b o,base.get? b=some o->s.heap.get? b=some o/\H b=none
 UP:base.objs.size<=s.heap.objs.size
 Gv:s.heap.FunFrames base outer
 XD:∀b∈DR outer,H b=none
 Af:Ce P w H s.heap
 bare:AllBare s.gens
def CE(outer:List Env)(P:Program)(w:World)(H:Hp)(s:Shared)(Q:VK)(u:Value)(s':Shared):Prop:=
 ∃v H',s'.os=s.os/\AllBare s'.gens/\Un (DR outer) [] H H' s.heap s'.heap/\Ce P w H' s'.heap/\RelV v u/\Q v H'
def CR(CX:VA)(outer:List Env)(P:Program)(w:World)(H:Hp)(s:Shared)(Q:VK)(E:XK)(r:Result)(s':Shared):Prop:=
 match r with
 |.ok (.ret u)=>CE outer P w H s Q u s'
 |.ok _=>False
 |.error e=>CX outer H s E e s'
structure Eo(P:Program)(w:World)(K:PySem.W.Frag)(mg:Str->Option Value)(base:Heap)(CX:VA)(k:Nat)(f:Addr)(fd:FuncData)(ps:List Str)(sp:Sp):Prop where
 len:∀vs H Q E,sp vs H Q E->vs.length=ps.length
 run:∀(A:Around) (outer:List Env) (s:Shared) (H:Hp) (args:Args) (us:List Value) (vs:List V) (Q:VK) (E:XK),C6 k A->Mx P w K mg base A outer s H->BindsTo s fd args (ps.zip us)->Vals vs us->sp vs H Q E->
  codeAny (model P w) A (.call (.ref f) args) (CR CX outer P w H s Q E) s
variable{mg:Str->Option Value}{base:Heap}{CX:VA}{fd:FuncData}{ps:List Str}{sp:Sp}
theorem Eo.imp{P:Program}{K:PySem.W.Frag}{k:Nat}{sp':Sp}(F:Eo P w K mg base CX k f fd ps sp)
 (h:∀vs H Q E,sp' vs H Q E->sp vs H Q E):Eo P w K mg base CX k f fd ps sp':=
 ⟨λvs H Q E q=>F.len vs H Q E (h _ _ _ _ q),λA outer s H args us vs Q E hr he hb hv hs=>F.run A outer s H args us vs Q E hr he hb hv (h _ _ _ _ hs)⟩
theorem Mx.make{P:Program}{K:PySem.W.Frag}{outer:List Env}(e:Mx P w K mg base A outer s H)(C:Addr)(us:List Value)(kw:List (Str×Value)):
 Mx P w K mg base (A.under (.builtin "type.__call__" ⟨.ref C::us,kw⟩)) outer s H:=⟨by first|exact e.frames|(simpa[Around.under,Code.envs,Code.isFrame,pushEnvs]using e.frames),e.mod,e.bs,e.UP,e.Gv,e.XD,e.Af,e.bare⟩
section
variable{σ:St}{s':Shared}
theorem Inv.XM(I:Inv X pins σ H s):Mx X.prog X.w X.K X.mg X.base X.A X.stack s H:=
 ⟨I.ok.frames,I.ok.mod,I.bs,Nat.le_trans I.ok.UP I.sz,I.stack,I.Fb,I.Af,I.bare⟩
theorem Inv.after{Q:VK}(I:Inv X pins σ H s)(h:CE X.stack X.prog X.w H s Q u s'):EP X pins σ Q u s':=by
 obtain⟨v,H',os,bare,un,Af,r,q⟩:=h;obtain⟨hh,g,d,t,os'⟩:=s';obtain rfl:os'=s.os:=os;exact⟨v,H',I.call (h':=hh) (g':=g) (d':=d) (t':=t) (ch:=[]) un Af bare (λb z=>absurd z (by simp)),r,q⟩
end
def JS(sp:Sp)(dvs:List V)(E:XK)(t:TA):TE:=λσ H Q=>t σ H λvs H1=>sp (vs++dvs) H1 Q E
def Ze(C:Addr)(m:Str)(sp:Sp)(dvs:List V)(E:XK)(ta:TE)(t:TA):TE:=λσ H Q=>ta σ H λx H1=>∃a dx fs,x= .ref a/\H1 a=some (.ins C dx fs)/\fs.lookup m=none/\
 t σ H1 λvs H2=>sp (x::(vs++dvs)) H2 Q E
def Zf(C:Addr)(sp:Sp)(dvs:List V)(E:XK)(t:TA):TE:=λσ H Q=>t σ H λvs H1=>∀x dx,H1 x=none->H1 dx=none->dx≠x->
 sp (.ref x::(vs++dvs)) (upd (upd H1 dx (.own x)) x (.ins C dx [])) (λv H2=>v= .AI/\Q (.ref x) H2) E
def Binds(K:PySem.W.Frag)(fd:FuncData)(ps:List Str)(ds:List Value):Prop:=
 ∀(s:Shared) (us:List Value),K.In s.heap->(us++ds).length=ps.length->BindsTo s fd ⟨us,[]⟩ (ps.zip (us++ds))
theorem Binds.all{K:PySem.W.Frag}(h:∀us:List Value,us.length=ps.length->bindArgs fd ⟨us,[]⟩=pure (ps.zip us)):Binds K fd ps []:=λs us _ hl=>by
 rw[append_nil]at hl ⊢;exact .of_eq (h us hl)
def Passes(CX:VA)(X:Cx)(E:XK):Prop:=∀(pins:List (Addr×Obj)) (σ:St) (H:Hp) (s:Shared) (e:Value) (s':Shared),Inv X pins σ H s->CX X.stack H s E e s'->X.xe e s'
section
variable{CX:VA}{k:Nat}{f C:Addr}{fd:FuncData}{ps:List Str}{sp:Sp}{dvs:List V}{ds:List Value}{E:XK}{x m:Str}{p apos:Pos}{o:Expr}{ta:TE}
variable{pins:List (Addr×Obj)}{H:Hp}{s:Shared}{us:List Value}{vs:List V}
theorem Ls{σ:St}{Q:VK}(F:Eo X.prog X.w X.K X.mg X.base CX k f fd ps sp)(hr:C6 k X.A)(hb:Binds X.K fd ps ds)(hd:Vals dvs ds)(hx:Passes CX X E)
 (I:Inv X pins σ H s)(r:Vals vs us)(h:sp (vs++dvs) H Q E):wpAny (model X.prog X.w) X.A (call (.ref f) us) (EP X pins σ Q) X.xe s:=by
 have r2:Vals (vs++dvs) (us++ds):=r.append hd;have hl:(us++ds).length=ps.length:=by rw[<-r2.length];exact F.len _ _ _ _ h
 refine wpAny_call (codeAny_mono (F.run X.A X.stack s H ⟨us,[]⟩ (us++ds) (vs++dvs) Q E hr I.XM (hb s us I.DQ hl) r2 h) λr s' hq=>?_);cases r with
 |error e=>exact hx pins σ H s e s' I hq
 |ok fl=>
   cases fl with
   |ret u=>exact I.after hq
   |next=>exact False.elim hq
   |brk=>exact False.elim hq
   |cont=>exact False.elim hq
theorem Ts(F:Eo X.prog X.w X.K X.mg X.base CX k f fd ps sp)(hr:C6 k X.A)(hg:Gl X x)(hm:X.mg x=some (.ref f))(hk:keepIn X.K (.ref f)=true)(hb:Binds X.K fd ps ds)(hd:Vals dvs ds)(hx:Passes CX X E)
 (ha:PA X (e::es) t)(hdb:(x == ("__debug__":Str))=false:=by decide)(he:starEach (e::es) X.env=(false,eval e X.env)::starEach es X.env:=by rfl)(hpl:(backTo pos (starEach es X.env)).any (·.1)=false:=by rfl):
 PE X (.Call (.Name x p) (e::es) [] pos) (JS sp dvs E t):=by
 intro pins s σ H Q I h;refine wpAny_Call_Name_kw (Ex I hg hm ?_ hdb);refine callWith_K (h₀:=X.base) I.ok.mod.B3 hk (Bf (ha pos pins s σ H _ I h) λus s1 ⟨vs,H1,I1,r,q⟩=>⟨I1.DQ,?_⟩) he hpl;exact Ls F hr hb hd hx I1 r q
theorem Q1(F:Eo X.prog X.w X.K X.mg X.base CX k f fd ps sp)(hr:C6 k X.A)(hg:Gl X x)(hm:X.mg x=some (.ref f))(hk:keepIn X.K (.ref f)=true)(hb:Binds X.K fd ps ds)(hd:Vals dvs ds)(hx:Passes CX X E)
 (hdb:(x == ("__debug__":Str))=false:=by decide):PE X (.Call (.Name x p) [] [] pos) (JS sp dvs E Gm):=by
 intro pins s σ H Q I h;refine wpAny_Call_Name_kw (Ex I hg hm ?_ hdb);exact callWith_K0 I.DQ hk (Ls (us:=[]) F hr hb hd hx I .nil h)
theorem Tn{pl:Sem Bool}(he:PE X o ta)(c:FA X.K C)(hm:Meth X.K C m f)(F:Eo X.prog X.w X.K X.mg X.base CX k f fd ps sp)(hr:C6 k X.A)(hb:Binds X.K fd ps ds)(hd:Vals dvs ds)(hx:Passes CX X E)(ha:PA X (e::es) t)
 (hst:starEach (e::es) X.env=(false,eval e X.env)::starEach es X.env:=by rfl)(hpl:(backTo pos (starEach es X.env)).any (·.1)=false:=by rfl)
 (ht:eval (.Call (.Attribute o m apos) (e::es) [] pos) X.env=(do
  let ov <-eval o X.env
  standAt apos.atName
  let(f,first) <-holding [ov] (getMethod ov m pl)
  callWith pos f first (backTo pos (starEach (e::es) X.env)) (backToKw pos (keywordEach [] X.env))):=by rfl):
 PE X (.Call (.Attribute o m apos) (e::es) [] pos) (Ze C m sp dvs E ta t):=by
 intro pins s σ H Q I h;refine methodCall_KW (pl:=pl) (Bf (he pins s σ H _ I h) λu s1 ⟨x,H1,I1,rx,a,dx,fs,ex,ea,l,q⟩=>?_) ht;subst ex;obtain rfl:u=Value.ref a:=rx;refine Ho I1 ea c hm l ?_;refine callWith_K (first:=[.ref a]) (h₀:=X.base) I.ok.mod.B3 hm.kp (Bf (ha pos pins s1 σ H1 _ I1 q) λus s2 ⟨vs,H2,I2,r,q2⟩=>⟨I2.DQ,?_⟩) hst hpl;exact Ls (us:=.ref a::us) (vs:=.ref a::vs) F hr hb hd hx I2 (.cons rfl r) q2
structure Mk(K:PySem.W.Frag)(C f:Addr):Prop where
 makes:makesIn K C=true
 init:findIn K (.ref C) "__init__"=some (some (.ref f))
 fn:isFn K (.ref f)=true
 kp:keepIn K (.ref C)=true
theorem Po{σ:St}{Q:VK}(M:Mk X.K C f)(F:Eo X.prog X.w X.K X.mg X.base CX k f fd ps sp)(hr:C6 (k + 1) X.A)(hb:Binds X.K fd ps ds)(hd:Vals dvs ds)
 (hx:Passes CX X E)(I:Inv X pins σ H s)(r:Vals vs us)
 (h:∀x dx,H x=none->H dx=none->dx≠x->sp (.ref x::(vs++dvs)) (upd (upd H dx (.own x)) x (.ins C dx [])) (λv H2=>v= .AI/\Q (.ref x) H2) E):
 wpAny (model X.prog X.w) X.A (call (.ref C) us) (EP X pins σ Q) X.xe s:=by
 have hq:=h (s.heap.objs.size+1) s.heap.objs.size (I.Af.fresh (Nat.le_succ _)) (I.Af.fresh (lR)) (Nat.ne_of_lt (Nat.lt_succ_self _));have I2:=Inv.made (C:=C) I;have r2:Vals (V.ref (s.heap.objs.size+1)::(vs++dvs)) (Value.ref (s.heap.objs.size+1)::(us++ds)):=.cons rfl (r.append hd)
 have hl:(Value.ref (s.heap.objs.size + 1)::us++ds).length=ps.length:=by
  have e:=r2.length;rw[F.len _ _ _ _ hq]at e;exact e.symm
 refine wpAny_call (Qn (f:=f) I.DQ M.makes M.init (beq_iff_eq.mp M.fn) (codeAny_mono (F.run _ X.stack _ _ ⟨Value.ref (s.heap.objs.size + 1)::us,[]⟩ (Value.ref (s.heap.objs.size + 1)::(us++ds)) _ _ E (hr.make C us [])
  (I2.XM.make C us []) (hb _ (Value.ref (s.heap.objs.size+1)::us) I2.DQ hl) r2 hq) λr s' hq'=>?_))
 cases r with
 |error e=>exact hx pins σ _ _ e s' I2 hq'
 |ok fl=>
   cases fl with
   |ret u=>
     obtain⟨v,H',I3,rv,ev,q3⟩:=I2.after hq';subst ev;exact⟨rv,⟨V.ref (s.heap.objs.size+1),H',I3,rfl,q3⟩⟩
   |next=>exact False.elim hq'
   |brk=>exact False.elim hq'
   |cont=>exact False.elim hq'
theorem PU(M:Mk X.K C f)(F:Eo X.prog X.w X.K X.mg X.base CX k f fd ps sp)(hr:C6 (k + 1) X.A)(hg:Gl X x)(hm:X.mg x=some (.ref C))(hb:Binds X.K fd ps ds)(hd:Vals dvs ds)(hx:Passes CX X E)
 (hdb:(x == ("__debug__":Str))=false:=by decide):PE X (.Call (.Name x p) [] [] pos) (Zf C sp dvs E Gm):=by
 intro pins s σ H Q I h;refine wpAny_Call_Name_kw (Ex I hg hm ?_ hdb);exact callWith_K0 I.DQ M.kp (Po (us:=[]) M F hr hb hd hx I .nil h)
end
structure DU(N P:List Str)(sc:Scope):Prop where
 kind:sc.kind= .function
 co:sc.isCoroutine=false
 gen:sc.isGenerator=false
 nd:N.Nodup
 pre:N.take P.length=P
 par:∀x∈P,sc.names.lookup x=some .local\/sc.names.lookup x=some .cell
 Xh:∀y∈sc.names,y.2≠.free
theorem Iu{kindOf:Str->Option NameKind}{x:Str}:∀{binds:List (Str×Value)} {m:Str->Option Value},(∀v,(x,v)∉binds)->bindL kindOf binds m x=m x
 |[],_,_=>rfl
 | (n,v)::r,m,h=>by
   unfold bindL;rw[Iu λw hw=>h w (mC hw)];split
   .have:x≠n:=by rintro rfl;exact h v mS
    simp[this]
   .rfl
theorem Iw{kindOf:Str->Option NameKind}{x:Str}:∀{binds:List (Str×Value)} {m:Str->Option Value},(∀v,(x,v)∉binds)->bindC kindOf binds m x=m x
 |[],_,_=>rfl
 | (n,v)::r,m,h=>by
   unfold bindC;rw[Iw λw hw=>h w (mC hw)];split
   .rfl
   .have:x≠n:=by rintro rfl;exact h v mS
    simp[this]
theorem EC{kindOf:Str->Option NameKind}{x:Str}{v:Value}:∀{P:List Str} {vs:List Value} {i:Nat} {m:Str->Option Value},P.Nodup->P[i]? =some x->vs[i]? =some v->kindOf x=some .local->
 bindL kindOf (P.zip vs) m x=some v
 |[],_,_,_,_,h,_,_=>by simp at h
 |_::_,[],_,_,_,_,h,_=>by simp at h
 | p::P,w::vs,0,m,nd,h1,h2,hk=>by
   simp at h1 h2;subst h1;subst h2;show bindL kindOf ((p,w)::P.zip vs) m p=_;unfold bindL;rw[Iu λv hv=>(nodup_cons.mp nd).1 (of_mem_zip hv).1,iP hk];simp
 | p::P,w::vs,i + 1,m,nd,h1,h2,hk=>by
   show bindL kindOf ((p,w)::P.zip vs) m x=_;unfold bindL;exact EC (i:=i) (nodup_cons.mp nd).2 (by simpa using h1) (by simpa using h2) hk
theorem Iy{kindOf:Str->Option NameKind}{x:Str}{v:Value}:∀{P:List Str} {vs:List Value} {i:Nat} {m:Str->Option Value},P.Nodup->P[i]? =some x->vs[i]? =some v->kindOf x≠some .local->
 bindC kindOf (P.zip vs) m x=some v
 |[],_,_,_,_,h,_,_=>by simp at h
 |_::_,[],_,_,_,_,h,_=>by simp at h
 | p::P,w::vs,0,m,nd,h1,h2,hk=>by
   simp at h1 h2;subst h1;subst h2;show bindC kindOf ((p,w)::P.zip vs) m p=_;unfold bindC;rw[Iw λv hv=>(nodup_cons.mp nd).1 (of_mem_zip hv).1,iN hk];simp
 | p::P,w::vs,i + 1,m,nd,h1,h2,hk=>by
   show bindC kindOf ((p,w)::P.zip vs) m x=_;unfold bindC;exact Iy (i:=i) (nodup_cons.mp nd).2 (by simpa using h1) (by simpa using h2) hk
def start(N:List Str)(vs:List V):St:=vs.map some++List.replicate (N.length-vs.length) none
noncomputable def KO(CX:VA)(P:Program)(w:World)(K:PySem.W.Frag)(mg:Str->Option Value)(base:Heap)(N:List Str)(qual:Str)(scope:Scope)(f:Addr)(cd:Value)(A:Around)(outer:List Env)(s:Shared)(H:Hp)(E:XK):Cx where
 prog:=P
 w:=w
 K:=K
 mg:=mg
 base:=base
 A:=A.deeper (envOfC qual scope s.heap.objs.size f cd)
 N:=N
 s₀:=s
 H₀:=H
 env:=envOfC qual scope s.heap.objs.size f cd
 outer:=outer
 stack:=envOfC qual scope s.heap.objs.size f cd::outer
 ex:=[]
 calm:=true
 fn:=λ_=>true
 pn:=[]
 xe:=λe s'=>wpAny (model P w) (A.deeper (envOfC qual scope s.heap.objs.size f cd)) (leaving (envOfC qual scope s.heap.objs.size f cd) e) (λ_ s''=>CX outer H s E e s'') (λe' s''=>CX outer H s E e' s'') s'
theorem KY{sc:Scope}(h:sc.names.lookup x=some .cell):∃c,(cellsFrom n sc.names []).lookup x=some c:=by
 have q:=cellsFrom_some sc.names n [] (.inl h);exact Option.isSome_iff_exists.mp q
variable{qual:Str}
theorem Om{P:Program}{K:PySem.W.Frag}{N:List Str}{scope:Scope}{cd:Value}{outer:List Env}{s1:Shared}{E:XK}{vs:List V}
 (S:DU N ps scope)(hd:A.handled=none)(e0:Mx P w K mg base A outer s H)(hl:vs.length=ps.length)(r:Vals vs us)
 (x:InCallC s s.heap.objs.size (bindL (envOfC qual scope s.heap.objs.size f cd).kindOf (ps.zip us) λ_=>none) (cellsFrom (s.heap.objs.size+1) scope.names []) (bindC (envOfC qual scope s.heap.objs.size f cd).kindOf (ps.zip us) λ_=>none) s1):
 Inv (KO CX P w K mg base N qual scope f cd A outer s H E) [] (start N vs) H s1:=by
 have hpl:ps.length<=N.length:=by have:=congrArg List.length S.pre;rw[length_take]at this;lia
 obtain⟨h1,tk,rfl,hk⟩:=x.done;have YF:∀b:Addr,b∉(KO CX P w K mg base N qual scope f cd A outer s H E).ex:=λb z=>absurd (show b∈([]:List Addr)from z) (by simp)
 refine⟨⟨e0.mod,S.kind,rfl,rfl,lR,λy z c h1 h2=>?_,λy hy=>?_,λy c _ h=>?_,λ_=>hd,Around.frames_deeper e0.frames,.inr ⟨rfl,rfl⟩,λb z=>absurd z (YF b),e0.bs,e0.UP,λb _ _=>YF b,λb z=>absurd z (YF b),e0.Gv,e0.XD⟩,
  rfl,e0.bare,Un.kept hk,⟨_,x.toInCall.ns,λi y v h1 h2 h3=>?_⟩,λy c h=>⟨_,x.cell y c h⟩,e0.Af.fresh (lR),λy c h=>?_,λp hp=>absurd (show p∈([]:List (Addr×Obj))from hp) (by simp),e0.Af.kept hk,?_⟩
 .exact name_of_addr x.apart (PySem.mem_of_lookup h1) (PySem.mem_of_lookup h2)
 .have hy:scope.names.lookup y=some .cell\/scope.names.lookup y=some .free:=hy;rcases hy with hy|hy
  .exact KY hy
  .exact absurd rfl (S.Xh _ (PySem.mem_of_lookup hy))
 .exact Nat.le_of_lt (x.above y c (PySem.mem_of_lookup h))
 .have hi:i < vs.length:=by
   unfold start at h2
   by_cases hi:i < vs.length
   .exact hi
   .rw[List.getElem?_append_right (by simpa using hi)]at h2;rw[List.getElem?_replicate]at h2;split at h2<;>cases h2
  have ha:vs[i]? =some v:=by
   unfold start at h2;rw[List.getElem?_append_left (by simpa using hi),List.getElem?_map]at h2;cases e:vs[i]? with
   |none=>rw[e]at h2;cases h2
   |some a=>rw[e]at h2;cases h2;rfl
  obtain⟨u,hu,rv⟩:=r.get ha
  have hp:ps[i]? =some y:=by
   rw[<-S.pre,List.getElem?_take_of_lt (by lia)];exact h1
  have ndP:ps.Nodup:=by rw[<-S.pre];exact S.nd.sublist (List.take_sublist _ _)
  refine⟨u,rv,?_⟩;rcases S.par y (mem_of_getElem? hp)with k|k
  .exact .inl ⟨k,EC ndP hp hu k⟩
  .obtain⟨c,e⟩:=KY (n:=s.heap.objs.size+1) k;refine .inr ⟨.inl k,c,e,?_⟩;have q:=x.cell y c e;rw[Iy ndP hp hu (by show scope.names.lookup y≠_;rw[k];decide)]at q;exact q
 .exact e0.Af.fresh (Nat.le_of_lt (x.above y c (PySem.mem_of_lookup h)))
 .unfold start;show _=N.length;rw[lA,lM,List.length_replicate]
  lia
theorem aJ{P:Program}{K:PySem.W.Frag}{k:Nat}{name:Str}{params:Arguments}{scope:Scope}{dV kV doc pm cdv ct oc:Value}{an od:Option Addr}
 {osl:Array (Option Value)}{N:List Str}(lk:K.lookup f=some ⟨oc,od,.func (PySem.W.fnOf name qual params body scope dV kV doc pm an cdv ct),osl⟩)(hcd:codeIn K cdv qual=true)(S:DU N ps scope)
 (len:∀vs H Q E,sp vs H Q E->vs.length=ps.length)
 (hbody:∀(A:Around) (outer:List Env) (s:Shared) (H:Hp) (vs:List V) (Q:VK) (E:XK),C6 k (A.deeper (envOfC qual scope s.heap.objs.size f cdv))->sp vs H Q E->
  ∃t,ON (KO CX P w K mg base N qual scope f cdv A outer s H E) body t/\t {nx:=λ_ H'=>Q .AI H',rt:=Q} (start N vs) H):
 Eo P w K mg base CX (k+1) f (PySem.W.fnOf name qual params body scope dV kV doc pm an cdv ct) ps sp:=by
 refine⟨len,λA outer s H args us vs Q E hr e0 hb r hsp=>?_⟩;have hl:=len _ _ _ _ hsp;have KX:K.In s.heap:=e0.mod.B3.keeps λb o e=>(e0.bs b o e).1
 have lim:s.heap.NoLimit:=e0.mod.nolimit.keeps λb o e=>(e0.bs b o e).1
 have hkind:∀y∈ps.zip us,scope.names.lookup y.1=some .local\/(scope.names.lookup y.1=some .cell/\((cellsFrom (s.heap.objs.size + 1) scope.names []).lookup y.1).isSome=true):=λ⟨n,v⟩ hy=>by
  rcases S.par n (of_mem_zip hy).1 with q|q
  .exact .inl q
  .exact .inr ⟨q,cellsFrom_some _ _ _ (.inl q)⟩
 refine codeAny_call_function hr.depth (KX _ _ lk) rfl S.co S.gen rfl (codeRec_of KX hcd) (hb _ _ _ _ ?_);refine wpAny_newFunctionEnv_cells S.kind hkind λenv he s1 x=>?_
 subst he;refine⟨lim.keeps x.toInCall.keep,codeAny_func ?_⟩;obtain⟨t,ht,hq⟩:=hbody A outer s H vs Q E (hr.deeper _) hsp;have I:Inv (KO CX P w K mg base N qual scope f cdv A outer s H E) [] (start N vs) H s1:=Om S hr.hd e0 hl r x;refine wpAny_mono (ht [] s1 (start N vs) H _ I hq) (λfl s' hs=>?_) λe s' hs=>hs
 have fin:∀{σ':St} {H':Hp} {v:V} {u:Value},Inv (KO CX P w K mg base N qual scope f cdv A outer s H E) [] σ' H' s'->RelV v u->Q v H'->CE outer P w H s Q u s':=
  λ{σ' H' v u} J rv q=>⟨v,H',J.os,J.bare,J.base,J.Af,rv,q⟩
 cases fl with
 |ret u=>
   obtain⟨v,σ',H',J,rv,q⟩:=hs;exact fin J rv q
 |next=>
   obtain⟨σ',H',J,q⟩:=hs;exact fin (v:=V.AI) (u:=Value.none) J rfl q
 |brk=>
   obtain⟨_,_,_,q⟩:=hs;exact False.elim q
 |cont=>
   obtain⟨_,_,_,q⟩:=hs;exact False.elim q
section
variable{x:Str}{p:Pos}{id T:String}{r:List V->Hp->VK->Prop}
def dN(r:List V->Hp->VK->Prop)(t:TA):TE:=λσ H Q=>t σ H λvs H1=>r vs H1 Q
theorem K7(hc:AW X (.builtin id) r)(hg:Gl X x)(hm:X.mg x=none)(hv:bootBuiltins x=some (.builtin id))(ha:PA X (e::es) t)(hn:x≠"__name__":=by decide)(hdb:(x == ("__debug__":Str))=false:=by decide)
 (he:starEach (e::es) X.env=(false,eval e X.env)::starEach es X.env:=by rfl)(hpl:(backTo pos (starEach es X.env)).any (·.1)=false:=by rfl):PE X (.Call (.Name x p) (e::es) [] pos) (dN r t):=by
 intro pins s σ H Q I h;refine wpAny_Call_Name_kw (CP I hg hm hv ?_ hn hdb);exact PyProof.Rows.callWith_builtin1 (Bf (ha pos pins s σ H _ I h) λus s1 ⟨vs,H1,I1,r1,q1⟩=>hc pins s1 σ H1 vs us Q I1 r1 q1) he hpl
theorem O8(hc:AW X (.type T) r)(hg:Gl X x)(hm:X.mg x=none)(hv:bootBuiltins x=some (.type T))(ha:PA X (e::es) t)(hn:x≠"__name__":=by decide)(hdb:(x == ("__debug__":Str))=false:=by decide)
 (he:starEach (e::es) X.env=(false,eval e X.env)::starEach es X.env:=by rfl)(hpl:(backTo pos (starEach es X.env)).any (·.1)=false:=by rfl):PE X (.Call (.Name x p) (e::es) [] pos) (dN r t):=by
 intro pins s σ H Q I h;refine wpAny_Call_Name_kw (CP I hg hm hv ?_ hn hdb);exact PyProof.Rows.callWith_type1 (Bf (ha pos pins s σ H _ I h) λus s1 ⟨vs,H1,I1,r1,q1⟩=>hc pins s1 σ H1 vs us Q I1 r1 q1) he hpl
end
end L2
namespace HT
open PySem PyProof.Rows
variable{prog:Program}{w:World}{A:Around}{E:Value->Shared->Prop}{s:Shared}
theorem UC{vs ws:List Value}{Q:Value->Shared->Prop}(ht:IsTup s.heap t vs.toArray)(hb:IsTup s.heap b ws.toArray)(hv:vs≠[])
 (h1:ws=[]->Q (.ref t) s)(h2:ws≠[]->Q (.ref s.heap.objs.size) {s with heap:=s.heap.push {cls:=.type "tuple",data:=.seq (vs++ws).toArray}})
 (hsz:vs.length+ws.length<=sizeLine):wpAny (model prog w) A (binaryOp .Add (.ref t) (.ref b)) Q E s:=by
 obtain⟨⟨cls,dd,data,sl⟩,ho,hc,n,hd⟩:=id ht;obtain⟨⟨cls2,dd2,data2,sl2⟩,ho2,hc2,n2,hd2⟩:=id hb;simp only at hc hd hc2 hd2;subst hc hd hc2 hd2;have e:vs.toArray++ws.toArray=(vs++ws).toArray:=by simp
 by_cases hw:ws=[]
 .exact concat_meets ⟨_,ho,rfl⟩ ⟨_,ho2,rfl⟩ noFill_tuple_add seq_tuple_add PySem.F.slot_tuple_add PySem.F.entry_tuple_add (PySem.F.args_tuple_add_2 _ _)
   (tuple_addW1 t b vs.toArray ws.toArray n n2 dd dd2 sl sl2 (by simpa using hv) (by simp[hw])) ⟨ho,ho2,h1 hw⟩
 .refine concat_meets ⟨_,ho,rfl⟩ ⟨_,ho2,rfl⟩ noFill_tuple_add seq_tuple_add PySem.F.slot_tuple_add PySem.F.entry_tuple_add (PySem.F.args_tuple_add_2 _ _)
   (tuple_addW2 t b vs.toArray ws.toArray n n2 dd dd2 sl sl2 (by simpa using hv) (by simpa using hw) (by rw[size_toArray,size_toArray];exact hsz)) ⟨ho,ho2,?_⟩
  rw[e];exact h2 hw
def BU(n d:Nat):Option Int->Nat
 |none=>d
 |some v=>if v < 0 then(v+(n:Int)).toNat else min v.toNat n
theorem Ww(n d:Nat)(hd:d<=n)(o:Option Int):BU n d o<=n:=by
 cases o with
 |none=>exact hd
 |some v=>
   show(if v < 0 then(v+(n:Int)).toNat else min v.toNat n)<=n
   by_cases hv:v < 0
   .rw[iP hv];lia
   .rw[iN hv];exact Nat.min_le_right _ _
theorem Nw(v:Int)(n d:Nat):(if v < 0 then max (v + (n:Int)) 0 else min v (n:Int))=((BU n d (some v):Nat):Int):=by
 show(if v < 0 then max (v+(n:Int)) 0 else min v (n:Int))=(((if v < 0 then(v+(n:Int)).toNat else min v.toNat n):Nat):Int)
 by_cases hv:v < 0
 .simp only[iP hv];lia
 .simp only[iN hv];lia
theorem Ms(lo hi:Option Int)(n:Nat):Builtin.Slice.sliceAdjust lo hi 1 (n:Int)=(((BU n 0 lo:Nat):Int),((BU n n hi:Nat):Int)):=by
 have h1:¬((1:Int) < 0):=by lia
 unfold Builtin.Slice.sliceAdjust;simp only[h1,if_false];refine Prod.ext ?_ ?_
 .cases lo with
  |none=>rfl
  |some v=>exact Nw v n 0
 .cases hi with
  |none=>rfl
  |some v=>exact Nw v n n
theorem LB(i j:Nat):Builtin.Slice.slicePlaces (i:Int) (j:Int) 1=j - i:=by
 unfold Builtin.Slice.slicePlaces;have h1:(1:Int) > 0:=by lia
 simp only[h1,if_true,Int.ediv_one];split<;>lia
theorem GO{o:Option Int}{Q:Option Int->Shared->Prop}(p:IsPart v o)(h:Q o s):wpAny (model prog w) A (Builtin.Slice.slicePartIndex v) Q E s:=by
 cases p with
 |none=>exact slicePart_none h
 |int i t=>exact slicePart_int h
variable{sl:Addr}{vl vu:Value}
theorem Dn{lo hi:Option Int}{n:Nat}{Q:Int×Int×Nat->Shared->Prop}(hs:s.heap.IsSliceOf sl vl vu .none)(pl:IsPart vl lo)(pu:IsPart vu hi)
 (h:Q (((BU n 0 lo:Nat):Int),1,BU n n hi-BU n 0 lo) s):wpAny (model prog w) A (Builtin.Slice.sliceApplied (.ref sl) (pure (n:Int))) Q E s:=by
 obtain⟨os,hos,hcs,hds⟩:=id hs;unfold Builtin.Slice.sliceApplied Builtin.Slice.sliceFields;refine wB (wB (wpAny_field hos hds (x:=vl) rfl (wB (wpAny_field hos hds (x:=vu) rfl (wB (wpAny_field hos hds (x:=.none) rfl (wP ?_)))))));refine wB (slicePart_none ?_);show wpAny _ _ (if((1:Int) == 0)=true then _ else _) _ _ s;rw[iN (by decide)];refine wB (GO pl (wB (GO pu (wB (wP ?_)))));show wpAny _ _ (match Builtin.Slice.sliceAdjust lo hi 1 (n:Int)with|(lo,hi)=>pure (lo,(1:Int),Builtin.Slice.slicePlaces lo hi 1)) _ _ s;rw[Ms lo hi n];show wpAny _ _ (pure (((BU n 0 lo:Nat):Int),(1:Int),Builtin.Slice.slicePlaces ((BU n 0 lo:Nat):Int) ((BU n n hi:Nat):Int) 1)) _ _ s;rw[LB];exact wP h
theorem PM(xs:Array Value)(i k:Nat):((List.range k).filterMap λ(m:Nat)=>xs[((i:Int) + (m:Int) * 1).toNat]?).toArray=((xs.toList.drop i).take k).toArray:=by
 have e:(λ(m:Nat)=>xs[((i:Int) + (m:Int) * 1).toNat]?)=λm=>xs[i + m]? :=by
  funext m
  have:((i:Int)+(m:Int)*1).toNat=i+m:=by lia
  rw[this]
 rw[e];have:=pick_run xs i k;rw[List.filterMap_map]at this;have e2:((λx=>xs[x]?) ∘ λx=>i+x)=λm=>xs[i+m]? :=rfl
 rw[e2]at this;rw[this]
theorem Ft{items:Array Value}{lo hi:Option Int}{Q:Value->Shared->Prop}(ht:IsTup s.heap t items)(hs:s.heap.IsSliceOf sl vl vu .none)(pl:IsPart vl lo)(pu:IsPart vu hi)
 (hw:¬(BU items.size 0 lo=0/\BU items.size items.size hi=items.size))
 (h:Q (.ref s.heap.objs.size) {s with heap:=s.heap.push {cls:=.type "tuple",data:=.seq ((items.toList.drop (BU items.size 0 lo)).take (BU items.size items.size hi-BU items.size 0 lo)).toArray}})
 (hsz:items.size<=sizeLine):wpAny (model prog w) A (getItem (.ref t) (.ref sl)) Q E s:=by
 have htake:sizeOk (.seq ((items.toList.drop (BU items.size 0 lo)).take (BU items.size items.size hi - BU items.size 0 lo)).toArray):=by
  show((items.toList.drop (BU items.size 0 lo)).take (BU items.size items.size hi-BU items.size 0 lo)).toArray.size<=sizeLine;rw[size_toArray,length_take,length_drop,Array.length_toList]
  lia
 have hj:BU items.size items.size hi<=items.size:=Ww _ _ (lR) hi;obtain⟨os,hos,hcs,hds⟩:=id hs;have hTs:s.TypeIs (.ref sl) "slice":=⟨os,hos,hcs⟩;unfold getItem
 try with_reducible refine wpAny_holding ?_
 first|refine wB (wP ?_)|skip
 refine wB (wpAny_sequenceKey ht.typeIs (by decide) ?_)
 refine wB (wpAny_callSpecial?_slot (name:=Str.ofString "__getitem__") ht.typeIs PyProof.Rows.slot_tuple_getitem
  (wpAny_call_entry PyProof.Rows.slot_tuple_getitem ht.typeIs entry_tuple_getitem ?_ (args_tuple_getitem _ _)))
 show wpAny _ _ (Builtin.Tuple.tupleItemsOf (.ref t) >>= _) _ _ s;refine wB (tupleItemsOf_ ht ?_);refine wB (wpAny_typeOf hTs ?_);rw[iP (by decide)];refine wB (Dn hs pl pu ?_)
 have hno:¬((((BU items.size 0 lo:Nat):Int) == 0 && (1:Int) == 1 && (BU items.size items.size hi - BU items.size 0 lo) == items.size)=true):=by
  intro q;rw[bA,bA]at q;have q1:((BU items.size 0 lo:Nat):Int)=0:=eq_of_beq q.1.1;have q2:BU items.size items.size hi-BU items.size 0 lo=items.size:=eq_of_beq q.2;exact hw ⟨by lia,by lia⟩
 show wpAny _ _ (if(((BU items.size 0 lo:Nat):Int) == 0 && (1:Int) == 1 && (BU items.size items.size hi-BU items.size 0 lo) == items.size)=true then _ else _) _ _ s;rw[iN hno,PM]
 first
  |exact wB (m:=Builtin.Tuple.tupleExact _) (wpAny_newObj_type (wP ⟨_,rfl,wP h⟩) htake)
  |exact wB (m:=Builtin.Tuple.tupleExact _) (wpAny_newObj_type (wB (wP (wP ⟨_,rfl,wP h⟩))) htake)
  |exact wB (wB (m:=Builtin.Tuple.tupleExact _) (wpAny_newObj_type (wP (wP ⟨_,rfl,wP h⟩)) htake))
  |exact wB (wB (m:=Builtin.Tuple.tupleExact _) (wpAny_newObj_type (wP ⟨_,rfl,wP h⟩) htake))
end HT
namespace L2
open PySem PySem.Spec PyProof.Rows
abbrev TO:=St->Hp->(Option Int->Hp->Prop)->Prop
theorem intsAre_of{ns:List Int}:∀{us:List Value},Vals (ns.map V.int) us->IntsAre us ns:=by
 induction ns with
 |nil=>intro us r;rw[map_nil]at r;cases r;exact .nil
 |cons n ns ih=>
   intro us r;rw[map_cons]at r;cases r with
   |cons r1 r2=>
     obtain⟨t,e⟩:=r1;subst e;exact .cons n t (ih r2)
section
variable{X:Cx}{e:Expr}{te:TE}{lo hi:Option Expr}{tl th:TO}{pos p2:Pos}
def YW(X:Cx)(r:V->Option Int->Option Int->Hp->VK->Prop):Prop:=
 ∀ (pins:List (Addr×Obj)) (s:Shared) (σ:St) (H:Hp) (x:V) (v vl vu:Value) (lo hi:Option Int) (sl:Addr) (Q:VK),Inv X pins σ H s->RelV x v->s.heap.IsSliceOf sl vl vu .none->IsPart vl lo->IsPart vu hi->r x lo hi H Q->
   ∃T id,typeLookup (.type T) "__getitem__"=pure (some (.builtin id))/\s.TypeIs v T/\wpAny (model X.prog X.w) X.A (getItem v (.ref sl)) (EP X pins σ Q) X.xe s
def KP(xs:List V)(lo hi:Option Int):List V:=(xs.drop (HT.BU xs.length 0 lo)).take (HT.BU xs.length xs.length hi-HT.BU xs.length 0 lo)
theorem Gg(xs:List V)(lo hi:Option Int):(KP xs lo hi).length<=xs.length:=by
 unfold KP;rw[length_take,length_drop]
 lia
def cu(K:PySem.W.Frag):V->Option Int->Option Int->Hp->VK->Prop:=λx lo hi H Q=>∃a xs,x= .ref a/\El K H a xs/\
 ¬(HT.BU xs.length 0 lo=0/\HT.BU xs.length xs.length hi=xs.length)/\∀p,H p=none->Q (.ref p) (upd H p (.tup (KP xs lo hi)))
theorem Ws:YW X (cu X.K):=by
 intro pins s σ H x v vl vu lo hi sl Q I rx hs pl pu h;obtain⟨a,xs,rfl,hx,hw,q⟩:=h;cases rx;obtain⟨its,r,ht,hz⟩:=I.tuple hx;have hlen:its.toArray.size=xs.length:=by rw[size_toArray];exact r.length.symm
 refine⟨"tuple",_,PyProof.Rows.slot_tuple_getitem.lookup,ht.typeIs,?_⟩;refine HT.Ft ht hs pl pu (by rw[hlen];exact hw) ?_ (by rw[hlen];exact hz);rw[hlen];refine⟨.ref s.heap.objs.size,_,I.laid (t':=s.toks) (o:=.tup (KP xs lo hi)) (λb ob q=>gP q) (lR) ?_,rfl,q _ (I.Af.fresh (lR))⟩;exact⟨Nat.le_trans (Gg xs lo hi) hz,_,(r.drop (HT.BU xs.length 0 lo)).take (HT.BU xs.length xs.length hi-HT.BU xs.length 0 lo),IsTup.new _ _⟩
def Zt(K:PySem.W.Frag):R2:=λx y H Q=>∃a b xs ys,x= .ref a/\y= .ref b/\El K H a xs/\El K H b ys/\xs≠[]/\xs.length + ys.length<=sizeLine/\
 (ys=[]->Q (.ref a) H)/\(ys≠[]->∀p,H p=none->Q (.ref p) (upd H p (.tup (xs++ys))))
theorem Vals.J6{xs:List V}{us:List Value}(r:Vals xs us):us=[]↔xs=[]:=by
 cases r with
 |nil=>simp
 |cons _ _=>simp
theorem Tw:Dl X (binaryOp .Add) (Zt X.K):=by
 intro pins s σ H x y v u Q I rx ry h;obtain⟨a,b,xs,ys,rfl,rfl,ha,hb,hx,hz,q1,q2⟩:=h;cases rx;cases ry;obtain⟨its,r1,p1,_⟩:=I.tuple ha;obtain⟨its2,r2,p2,_⟩:=I.tuple hb;refine HT.UC p1 p2 (λz=>hx (r1.J6.mp z)) (λz=>⟨.ref a,H,I,rfl,q1 (r2.J6.mp z)⟩) (λz=>?_) (by rw[<-r1.length,<-r2.length];exact hz);refine⟨.ref s.heap.objs.size,_,I.laid (t':=s.toks) (o:=.tup (xs++ys)) (λb ob q=>gP q) (lR) ?_,rfl,q2 (λw=>z (r2.J6.mpr w)) _ (I.Af.fresh (lR))⟩;exact⟨by rw[lA];exact hz,_,r1.append r2,IsTup.new _ _⟩
end
def Gs(n:Nat)(i:Int):Option Nat:=if 0<=i then(if i < n then some i.toNat else none)else if -(n:Int)<=i then some (i+n).toNat else none
def W3{α:Type}(xs:List α)(i:Int):Option α:=(Gs xs.length i).bind λj=>xs[j]?
variable{n:Nat}
theorem U9{j:Nat}(h:Gs n i=some j):seqIndex? i n=some j/\j < n/\-(n:Int)<=i/\i < n:=by
 unfold Gs at h
 by_cases h0:0<=i
 .rw[iP h0]at h
  by_cases h1:i < n
  .rw[iP h1]at h;have e:i.toNat=j:=Option.some.inj h;exact⟨by rw[seqIndex_of h0 h1,e],by lia,by lia,h1⟩
  .rw[iN h1]at h;cases h
 .rw[iN h0]at h
  by_cases h1: -(n:Int)<=i
  .rw[iP h1]at h;have e:(i+n).toNat=j:=Option.some.inj h;exact⟨by rw[seqIndex_neg (by lia) h1,e],by lia,h1,by lia⟩
  .rw[iN h1]at h;cases h
variable{α:Type}
theorem JG{xs:List α}{v:α}(h:W3 xs i=some v):∃j,seqIndex? i xs.length=some j/\xs[j]? =some v/\j < xs.length/\-(xs.length:Int)<=i/\i < xs.length:=by
 unfold W3 at h;cases e:Gs xs.length i with
 |none=>rw[e]at h;cases h
 |some j=>
   rw[e]at h;obtain⟨h1,h2,h3,h4⟩:=U9 e;exact⟨j,h1,h,h2,h3,h4⟩
def JK(b:Expr):Prop:=∀o i,subscripted b false o i=operate [o,i] (getItem o i)
def S3(X:Cx)(r:R2):Prop:=
 ∀ (value slice:Expr) (pins:List (Addr×Obj)) (s:Shared) (σ:St) (H:Hp) (x y:V) (v u:Value) (Q:VK),Inv X pins σ H s->RelV x v->RelV y u->r x y H Q->
   subscripted slice false v u=operate [v,u] (getItem v u)->wpAny (model X.prog X.w) X.A (subscriptTail value slice v u) (EP X pins σ Q) X.xe s
def YX(X:Cx)(id:String)(r:V->List V->Hp->VK->Prop):Prop:=
 ∀ (pins:List (Addr×Obj)) (s:Shared) (σ:St) (H:Hp) (x:V) (xs:List V) (v:Value) (us:List Value) (Q:VK),Inv X pins σ H s->RelV x v->Vals xs us->r x xs H Q->
   wpAny (model X.prog X.w) X.A (call (.builtin id) (v::us)) (EP X pins σ Q) X.xe s
section
variable{X:Cx}{a b:Expr}{ta tb:TE}{pos:Pos}
theorem ZK{r:R2}(hr:S3 X r)(ha:PE X a ta)(hb:PE X b tb)(hs:JK b):PE X (.Subscript a b pos) (bB r ta tb):=by
 intro pins s σ H Q I h;exact Subscript_ (Yf ha hb I h λv u s2 x y H2 I2 rx ry q=>hr a b pins s2 σ H2 x y v u Q I2 rx ry q (hs _ _))
def cA(K:PySem.W.Frag):R2:=λx y H Q=>∃p xs i v,x= .ref p/\y= .int i/\Dk K H p xs/\W3 xs i=some v/\Q v H
def cy(K:PySem.W.Frag):R2:=λx y H Q=>∃p xs i v,x= .ref p/\y= .int i/\El K H p xs/\W3 xs i=some v/\Q v H
def cz:R2:=λx y H Q=>∃z i c,x= .str z/\y= .int i/\z.length<=sizeLine/\W3 z.cps.toList i=some c/\Q (.str ⟨#[c]⟩) H
theorem U8:S3 X (cA X.K):=by
 intro value slice pins s σ H x y v u Q I rx ry h hs;obtain⟨p,xs,i,z,rfl,rfl,hq,he,q⟩:=h;cases rx;obtain⟨t,rfl⟩:=ry;obtain⟨its,r,pl,hz⟩:=I.list hq;obtain⟨j,h1,h2,h3,h4,h5⟩:=JG he;obtain⟨w,ew,rw'⟩:=r.get h2;have hl:=r.length;have hn:=FN;have fin:EP X pins σ Q w s:=⟨z,H,I,rw',q⟩
 by_cases h0:0<=i
 .have hj:i.toNat=j:=by
   rw[seqIndex_of h0 h5]at h1;exact Option.some.inj h1
  exact item_listR pl.isList h0 (by lia) (by rw[hj];simpa using ew) fin hs
 .have hj:(i + (its.toArray.size:Int)).toNat=j:=by
   rw[seqIndex_neg (by lia) h4]at h1;rw[size_toArray,<-hl];exact Option.some.inj h1
  exact subscriptTail_builtinR (x:=w) pl.isList.typeIs slot_list_getitem.lookup
   (wpAny_getItem_list_neg (Q:=λr s'=>r=w/\EP X pins σ Q r s') pl.isList (by lia) (by rw[size_toArray]<;>lia) (by lia) (by rw[hj];simpa using ew) ⟨rfl,fin⟩) hs
theorem Xz:S3 X (cy X.K):=by
 intro value slice pins s σ H x y v u Q I rx ry h hs;obtain⟨p,xs,i,z,rfl,rfl,hq,he,q⟩:=h;cases rx;obtain⟨t,rfl⟩:=ry;obtain⟨its,r,pl,hz⟩:=I.tuple hq;obtain⟨j,h1,h2,h3,h4,h5⟩:=JG he;obtain⟨w,ew,rw'⟩:=r.get h2;have hl:=r.length;have hn:=FN;have fin:EP X pins σ Q w s:=⟨z,H,I,rw',q⟩
 exact subscriptTail_builtinR (x:=w) pl.typeIs slot_tuple_getitem.lookup
  (getItem_tuple (j:=j) (Q:=λr s'=>r=w/\EP X pins σ Q r s') pl (by lia) (by lia) (by rw[size_toArray,<-hl];exact h1) (by simpa using ew) ⟨rfl,fin⟩) hs
theorem XA:S3 X cz:=by
 intro value slice pins s σ H x y v u Q I rx ry h hs;obtain⟨z,i,c,rfl,rfl,hz,he,q⟩:=h;obtain⟨t,rfl⟩:=rx;obtain⟨t',rfl⟩:=ry;obtain⟨j,h1,h2,h3,h4,h5⟩:=JG he;have hl:z.cps.toList.length=z.length:=by simp[Str.length]
 rw[hl]at h1 h4 h5;have hn:=FN
 exact tail_any (typeIs_str s z t) slot_str_getitem.lookup (getItem_str (c:=c) (by
  have e1:decide (i < -(2 ^ 63:Int))=false:=dF (by lia);have e2:decide (i≥2 ^ 63)=false:=dF (by lia)
  rw[e1,e2,Bool.or_false]) (by rw[h1];simpa using h2) ⟨.str ⟨#[c]⟩,H,I.tok _,⟨_,rfl⟩,q⟩) hs
theorem IS(lo hi:Option Int)(n:Nat):(sliceBounds lo hi none n).1=((HT.BU n 0 lo:Nat):Int)/\(sliceBounds lo hi none n).2.1=((HT.BU n n hi:Nat):Int)/\(sliceBounds lo hi none n).2.2=1:=by
 refine⟨?_,?_,rfl⟩
 .cases lo with
  |none=>simp[sliceBounds,HT.BU]
  |some i=>
    simp only[sliceBounds,HT.BU,Option.getD_none,show(1:Int) > 0 by decide,if_true]
    by_cases h:i < 0
    .simp only[h,if_true]<;>lia
    .simp only[h,if_false]<;>lia
 .cases hi with
  |none=>simp[sliceBounds,HT.BU]
  |some i=>
    simp only[sliceBounds,HT.BU,Option.getD_none,show(1:Int) > 0 by decide,if_true]
    by_cases h:i < 0
    .simp only[h,if_true]<;>lia
    .simp only[h,if_false]<;>lia
theorem HJ(its:List Value)(lo hi:Option Int):slicePick its.toArray lo hi none=((its.drop (HT.BU its.length 0 lo)).take (HT.BU its.length its.length hi - HT.BU its.length 0 lo)).toArray:=by
 obtain⟨h1,h2,h3⟩:=IS lo hi its.toArray.size;unfold slicePick;rw[h1,h2,h3];simp only[sliceRange_one,pick_run,size_toArray]<;>rfl
def cx(K:PySem.W.Frag):V->Option Int->Option Int->Hp->VK->Prop:=λx lo hi H Q=>∃a xs,x= .ref a/\Dk K H a xs/\∀p,H p=none->Q (.ref p) (upd H p (.lst (KP xs lo hi)))
theorem SM:YW X (cx X.K):=by
 intro pins s σ H x v vl vu lo hi sl Q I rx hs pl pu h;obtain⟨a,xs,rfl,hx,q⟩:=h;cases rx;obtain⟨its,r,ht,hz⟩:=I.list hx;have hlen:=r.length;refine⟨"list",_,slot_list_getitem.lookup,ht.isList.typeIs,?_⟩;refine wpAny_getItem_list_slice ht.isList hs pl pu .none (by simp) ?_ (by rw[size_toArray]<;>lia);rw[HJ,<-hlen];refine⟨.ref s.heap.objs.size,_,I.laid (t':=s.toks) (o:=.lst (KP xs lo hi)) (λb ob q=>gP q) (lR) ?_,rfl,q _ (I.Af.fresh (lR))⟩;exact⟨Nat.le_trans (Gg xs lo hi) hz,_,0,(r.drop (HT.BU xs.length 0 lo)).take (HT.BU xs.length xs.length hi-HT.BU xs.length 0 lo),Heap.get?_push_size _ rfl⟩
theorem AW.or{r r':List V->Hp->VK->Prop}(h:AW X f r)(h':AW X f r'):AW X f (λxs H Q=>r xs H Q\/r' xs H Q):=by
 intro pins s σ H xs us Q I rs q;rcases q with q|q
 .exact h pins s σ H xs us Q I rs q
 .exact h' pins s σ H xs us Q I rs q
theorem JC:AW X (.type "list") (λxs H Q=>∃p ys,xs=[.ref p]/\(Dk X.K H p ys\/El X.K H p ys)/\∀l,H l=none->Q (.ref l) (upd H l (.lst ys))):=by
 intro pins s σ H xs us Q I r h;obtain⟨p,ys,rfl,hq,q⟩:=h;obtain⟨u,rfl,rx⟩:=vals1 r;cases rx
 have fin:∀(its:List Value),Vals ys its->ys.length<=sizeLine->∀(h':Heap) (c':Nat),(∀b o',s.heap.get? b=some o'->h'.get? b=some o')->
  h'.get? s.heap.objs.size=some {cls:=.type "list",dict:=none,data:=.seq its.toArray c',slots:=#[]}->EP X pins σ Q (.ref s.heap.objs.size) {s with heap:=h'}:=λits r' hz h' c' kp e=>
  ⟨.ref s.heap.objs.size,_,I.laid (t':=s.toks) kp (lR) (show BN X.prog X.w _ h' _ (.lst ys)from⟨hz,its,c',r',e⟩),rfl,q _ (I.Af.fresh (lR))⟩
 rcases hq with hq|hq
 .obtain⟨its,r',pl,hz⟩:=I.list hq;have hlen:=r'.length;obtain⟨o,ho,hc,n,hd⟩:=pl.isList;exact call_list_seq p (.inl rfl) ho hc hd (λh' c' kp e=>fin its r' hz h' c' kp e) (by simp only[size_toArray]<;>lia)
 .obtain⟨its,r',pl,hz⟩:=I.tuple hq;have hlen:=r'.length;obtain⟨o,ho,hc,n,hd⟩:=pl;exact call_list_seq p (.inr rfl) ho hc hd (λh' c' kp e=>fin its r' hz h' c' kp e) (by simp only[size_toArray]<;>lia)
theorem EN:AW X (.type "tuple") (λxs H Q=>∃p ys,xs=[.ref p]/\((Dk X.K H p ys/\∀l,H l=none->Q (.ref l) (upd H l (.tup ys)))\/(El X.K H p ys/\Q (.ref p) H))):=by
 intro pins s σ H xs us Q I r h;obtain⟨p,ys,rfl,h⟩:=h;obtain⟨u,rfl,rx⟩:=vals1 r;cases rx;rcases h with⟨hq,q⟩|⟨hq,q⟩
 .obtain⟨its,r',pl,hz⟩:=I.list hq;have hlen:=r'.length;refine call_tuple_list pl.isList (λh' kp=>?_) (by simp only[size_toArray]<;>lia);have I1:Inv X pins σ H {s with heap:=h'}:=I.kept (t':=s.toks) kp
  have I2:Inv X pins σ (upd H h'.objs.size (.tup ys)) {s with heap:=h'.push {cls:=.type "tuple",data:=.seq its.toArray}}:=
   I1.laid (t':=s.toks) (λb o e=>gP e) (lR) (show BN X.prog X.w _ _ _ (.tup ys)from⟨hz,its,r',IsTup.new _ _⟩)
  exact⟨.ref h'.objs.size,_,I2,rfl,q _ (I1.Af.fresh (lR))⟩
 .obtain⟨its,r',pl,hz⟩:=I.tuple hq;exact call_tuple_same pl ⟨.ref p,H,I,rfl,q⟩
def bw(K:PySem.W.Frag)(T:String)(x:V)(H:Hp):Prop:=match x with
 |.str _=>T="str"
 |.int _=>T="int"
 | .ref p=>(T="list"/\∃xs,Dk K H p xs)\/(T="tuple"/\∃o,K.lookup p=some o/\o.cls= .type "tuple"/\o.dict=none)\/
  (T="dict"/\((∃kvs,H p=some (.dK kvs))\/∃kvs,H p=some (.dT kvs)))\/(T="set"/\∃S n,H p=some (.set S n))
 |_=>False
theorem OY{pins:List (Addr×Obj)}{σ:St}{H:Hp}{s:Shared}{T:String}(I:Inv X pins σ H s)(r:RelV x v)(ty:bw X.K T x H):
 s.TypeIs v T/\∀a,v= .ref a->∃ob,s.heap.get? a=some ob/\ob.dict=none:=by
 cases x with
 |str z=>
   obtain⟨t,rfl⟩:=r;cases (show T="str" from ty);exact⟨typeIs_str s z t,λ_ e=>nomatch e⟩
 |int i=>
   obtain⟨t,rfl⟩:=r;cases (show T="int" from ty);exact⟨typeIs_int s i t,λ_ e=>nomatch e⟩
 |ref p =>
   cases r;rcases ty with⟨rfl,xs,hq⟩|⟨rfl,o,hk,hc,hd⟩|⟨rfl,hk⟩|⟨rfl,S,n,hk⟩
   .obtain⟨its,_,pl,_⟩:=I.list hq;refine⟨pl.isList.typeIs,λa e=>?_⟩;cases e;obtain⟨o,n,e,c,hd,_⟩:=pl;exact⟨o,e,hd⟩
   .refine⟨⟨o,I.DQ p o hk,hc⟩,λa e=>?_⟩;cases e;exact⟨o,I.DQ _ o hk,hd⟩
   .have z:∃o,s.heap.get? p=some o/\o.ExactDict:=by
     rcases hk with⟨kvs,hk⟩|⟨kvs,hk⟩
     .obtain⟨_,_,_,_,o,_,_,e,ex,_⟩:=I.Af p _ hk;exact⟨o,e,ex⟩
     .obtain⟨_,_,_,_,o,_,_,e,ex,_⟩:=I.Af p _ hk;exact⟨o,e,ex⟩
    obtain⟨o,e,ex⟩:=z;refine⟨⟨o,e,ex.1⟩,λa e2=>?_⟩;cases e2;exact⟨o,e,ex.2.1⟩
   .obtain⟨o,_,_,_,e,ex,_⟩:=I.Af p _ hk;refine⟨⟨o,e,ex.1⟩,λa e2=>?_⟩;cases e2;exact⟨o,e,ex.2.1⟩
 |_=>exact False.elim ty
def cg(K:PySem.W.Frag)(T:String)(r:V->List V->Hp->VK->Prop)(to:TE):TE:=λσ H Q=>to σ H λx H1=>bw K T x H1/\r x [] H1 Q
def eZ(K:PySem.W.Frag)(T:String)(r:V->List V->Hp->VK->Prop)(to:TE)(t:TA):TE:=λσ H Q=>to σ H λx H1=>bw K T x H1/\t σ H1 λxs H2=>r x xs H2 Q
variable{o e:Expr}{es:List Expr}{to:TE}{t:TA}{name:Str}{apos cpos:Pos}{T id:String}{r:V->List V->Hp->VK->Prop}
theorem WW(pa:PlainAttrs T)(slot:Slot T name id)(hty:typeOf (.builtin id)=pure (.type "method_descriptor"))(hm:YX X id r)(ho:PE X o to)
 (hbase:attributeBase o name X.env (eval o X.env)=eval o X.env:=by rfl)(hline:(apos.endLine == cpos.line)=true:=by rfl):PE X (.Call (.Attribute o name apos) [] [] cpos) (cg X.K T r to):=by
 intro pins s σ H Q I h;refine wpAny_Call_method0_late hbase hline (Bf (ho pins s σ H _ I h) λv s1 ⟨x,H1,I1,r1,ty,q1⟩=>?_);obtain⟨h1,h2⟩:=OY I1 r1 ty;exact⟨T,id,pa,slot,hty,h1,h2,Calls.callWith_builtin rfl (PySem.evalArgs_none (hm pins s1 σ H1 x [] v [] Q I1 r1 .nil q1))⟩
theorem ZL(pa:PlainAttrs T)(slot:Slot T name id)(hty:typeOf (.builtin id)=pure (.type "method_descriptor"))(hm:YX X id r)(ho:PE X o to)(ha:PA X (e::es) t)
 (hbase:attributeBase o name X.env (eval o X.env)=eval o X.env:=by rfl)
 (hfew:((backTo cpos (starEach (e::es) X.env)).all (λx=>!x.1) && (backToKw cpos (keywordEach [] X.env)).all (λx=>x.1.isSome)
  && decide ((e::es).length+([]:List Keyword).length+(if([]:List Keyword).isEmpty then 0 else 1) < 30))=true:=by rfl)
 (hline:(apos.endLine == cpos.line)=true:=by rfl)(hs:starEach (e::es) X.env=(false,eval e X.env)::starEach es X.env:=by rfl)(hplain:(backTo cpos (starEach es X.env)).any (·.1)=false:=by rfl):
 PE X (.Call (.Attribute o name apos) (e::es) [] cpos) (eZ X.K T r to t):=by
 intro pins s σ H Q I h;refine wpAny_Call_method_late hbase hfew hline rfl (Bf (ho pins s σ H _ I h) λv s1 ⟨x,H1,I1,r1,ty,q1⟩=>?_);obtain⟨h1,h2⟩:=OY I1 r1 ty;refine⟨T,id,pa,slot,hty,h1,h2,?_⟩;have hA:=ha cpos pins s1 σ H1 _ I1 q1;rw[hs]at hA ⊢;refine Calls.callWith_builtin (by show(false || (backTo cpos (starEach es X.env)).any (·.1))=false;rw[hplain]<;>rfl) (Calls.evalArgs_plain ?_);exact Bf hA λus s2 ⟨vs,H2,I2,r2,q2⟩=>hm pins s2 σ H2 x vs v us Q I2 r1 r2 q2
end
def dB(X:Cx)(id:String)(r:V->List V->Hp->VK->Prop):Prop:=
 ∀ (pins:List (Addr×Obj)) (s:Shared) (σ:St) (H:Hp) (x:V) (xs:List V) (v:Value) (us:List Value) (Q:VK),Inv X pins σ H s->RelV x v->Vals xs us->r x xs H Q->
   wpAny (model X.prog X.w) X.A (call (.builtin id) (v::us)) (EP X pins σ Q) X.xe s
theorem Vals.one:∀{x:V} {us:List Value},Vals [x] us->∃u,us=[u]/\RelV x u
 |_,_,.cons r .nil=>⟨_,rfl,r⟩
theorem Vals.zero:∀{us:List Value},Vals [] us->us=[]
 |_,.nil=>rfl
variable{xs:List V}{us:List Value}
theorem Vals.dropLast(h:Vals xs us):Vals xs.dropLast us.dropLast:=by
 induction h with
 |nil=>exact .nil
 |cons r t ih=>
   cases t with
   |nil=>exact .nil
   |cons q t'=>exact .cons r ih
theorem Vals.reverse(h:Vals xs us):Vals xs.reverse us.reverse:=by
 induction h with
 |nil=>exact .nil
 |cons r t ih=>rw[reverse_cons,reverse_cons];exact Vals.append ih (.cons r .nil)
theorem Ma(l:List α):l.eraseIdx (l.length - 1)=l.dropLast:=by
 induction l with
 |nil=>rfl
 |cons a r ih=>
   cases r with
   |nil=>rfl
   |cons b r=>
     have e:(a::b::r).length - 1=((b::r).length - 1) + 1:=by
      have h1:(a::b::r).length=r.length+2:=rfl;have h2:(b::r).length=r.length+1:=rfl
      lia
     rw[e,List.eraseIdx_cons_succ,ih]
     all_goals rfl
variable{X:Cx}{pins:List (Addr×Obj)}{σ:St}{H:Hp}{s:Shared}{l b:Addr}{xs ys zs:List V}
variable{its:List Value}{t':Nat}
theorem Inv.Xm{its':List Value}{f:Array Value->Array Value}(I:Inv X pins σ H s)(hH:H l=some (.lst xs))
 (e:s.heap.get? l=some {cls:=.type "list",data:=.seq its.toArray n})(hf:f its.toArray=its'.toArray)(hv:Vals ys its')(hz:ys.length<=sizeLine):
 Inv X pins σ (upd H l (.lst ys)) {s with heap:=s.heap.update l (Obj.mapSeq f),toks:=t'}:=by
 have q:=PySem.IsL.update e f;rw[hf]at q;refine I.write (x:=l) (e:=l) (by rw[hH];exact trivial) (.inl rfl) (λb' u hb hu=>(Heap.get?_update_other s.heap (Obj.mapSeq f) (Ne.symm hb)).trans hu) ⟨_,q⟩ ?_;exact⟨hz,its',_,hv,q⟩
theorem Inv.cT(I:Inv X pins σ H s)(hv:Vals ys its)(hz:ys.length<=sizeLine):
 Inv X pins σ (upd H s.heap.objs.size (.lst ys)) {s with heap:=s.heap.push {cls:=.type "list",data:=.seq its.toArray},toks:=t'}:=
 I.laid (λ_ _ q=>gP q) (lR) ⟨hz,its,0,hv,Heap.get?_push_size _ rfl⟩
theorem Inv.fresh(I:Inv X pins σ H s):H s.heap.objs.size=none:=I.Af.fresh (lR)
theorem Inv.Oe(I:Inv X pins σ H s)(hH:H l=some (.lst xs)):xs.length<=sizeLine/\∃(its:List Value) (n:Nat),Vals xs its/\xs.length=its.length/\s.heap.get? l=some {cls:=.type "list",data:=.seq its.toArray n}:=by
 obtain⟨z,its,n,r,e⟩:=I.Af l _ hH;exact⟨z,its,n,r,r.length,e⟩
theorem Qe(h:n<=sizeLine):Builtin.List.listTooLong n=false:=by
 unfold Builtin.List.listTooLong;exact dF (by lia)
def MM:V->List V->Hp->VK->Prop:=λx vs H Q=>∃l xs y,x= .ref l/\vs=[y]/\H l=some (.lst xs)/\xs.length < sizeLine/\Q .AI (upd H l (.lst (xs++[y])))
theorem Od:dB X "list.append" MM:=by
 intro pins s σ H x vs v us Q I rx rv h;obtain⟨l,xs,y,rfl,rfl,hH,hz,q⟩:=h;cases rx;obtain⟨u,rfl,ru⟩:=rv.one;obtain⟨z,its,n,r,hl,e⟩:=I.Oe hH;refine call_meets F.slot_list_append ⟨_,e,rfl⟩ F.entry_list_append (F.args_list_append_2 _ _) (PySem.list_append l its.toArray n u (by rw[size_toArray];lia)) ⟨e,?_⟩;refine⟨.AI,_,I.Xm (its':=its++[u]) hH e (by simp) (r.append (.cons ru .nil)) ?_,rfl,q⟩;rw[lA,lS]
 lia
def ML:V->List V->Hp->VK->Prop:=λx vs H Q=>∃l b xs zs,x= .ref l/\vs=[.ref b]/\H l=some (.lst xs)/\H b=some (.lst zs)/\xs.length+zs.length<=sizeLine/\Q .AI (upd H l (.lst (xs++zs)))
theorem Oc:dB X "list.extend" ML:=by
 intro pins s σ H x vs v us Q I rx rv h;obtain⟨l,b,xs,zs,rfl,rfl,hH,hB,hz,q⟩:=h;cases rx;obtain⟨u,rfl,ru⟩:=rv.one;cases ru;obtain⟨z,its,n,r,hl,e⟩:=I.Oe hH;obtain⟨z2,its2,n2,r2,hl2,e2⟩:=I.Oe hB;have hsz:its.toArray.size+its2.toArray.size<=sizeLine:=by rw[size_toArray,size_toArray];lia
 have hlong:¬(!its.toArray.isEmpty && Builtin.List.listTooLong (its.toArray.size + its2.toArray.size))=true:=by
  rw[Qe hsz,Bool.and_false];exact Bool.false_ne_true
 refine call_meets F.slot_list_extend ⟨_,e,rfl⟩ F.entry_list_extend (F.args_list_extend_2 _ _)
  (AutoSeq1.list_extend_list_list_0 l its.toArray n b its2.toArray n2 hlong (by rw[size_toArray];lia) (by lia)) ⟨e,e2,?_⟩
 refine⟨.AI,_,I.Xm (its':=its++its2) hH e (by simp) (r.append r2) ?_,rfl,q⟩;rw[lA]
 lia
def Zr:V->List V->Hp->VK->Prop:=λx vs H Q=>∃l xs y,x= .ref l/\vs=[]/\H l=some (.lst xs)/\xs[xs.length-1]? =some y/\Q y (upd H l (.lst xs.dropLast))
theorem Xi:dB X "list.pop" Zr:=by
 intro pins s σ H x vs v us Q I rx rv h;obtain⟨l,xs,y,rfl,rfl,hH,hy,q⟩:=h;cases rx;have hus:=rv.zero;subst hus;obtain⟨z,its,n,r,hl,e⟩:=I.Oe hH;obtain⟨u,hu,ru⟩:=r.get hy
 have hy':its.toArray[its.toArray.size - 1]? =some u:=by
  show its.toArray[its.length-1]? =some u;rw[<-Array.getElem?_toList,<-hl];exact hu
 refine call_meets F.slot_list_pop ⟨_,e,rfl⟩ F.entry_list_pop (F.args_list_pop_1 _) (MeetsSeq.list_pop_last l its.toArray n u hy' (by rw[size_toArray];lia)) ⟨e,?_⟩;refine⟨y,_,I.Xm (its':=its.dropLast) hH e ?_ r.dropLast ?_,ru,q⟩
 .show its.toArray.eraseIdxIfInBounds (its.toArray.size-1)=its.dropLast.toArray;rw[size_toArray,List.eraseIdxIfInBounds_toArray,Ma]
 .rw[List.length_dropLast]
  lia
def cB:R2:=λx y H Q=>∃l b xs zs,x= .ref l/\y= .ref b/\H l=some (.lst xs)/\H b=some (.lst zs)/\xs.length+zs.length<=sizeLine/\∀p,H p=none->Q (.ref p) (upd H p (.lst (xs++zs)))
theorem X8:Dl X (binaryOp .Add) cB:=by
 intro pins s σ H x y v u Q I rx ry h;obtain⟨l,b,xs,zs,rfl,rfl,hH,hB,hz,q⟩:=h;cases rx;cases ry;obtain⟨z,its,n,r,hl,e⟩:=I.Oe hH;obtain⟨z2,its2,n2,r2,hl2,e2⟩:=I.Oe hB;refine PySem.P.add_list e e2 ?_ (by rw[size_toArray,size_toArray];lia);have ea:its.toArray++its2.toArray=(its++its2).toArray:=by simp
 rw[ea];exact⟨.ref _,_,I.cT (t':=s.toks) (r.append r2) (by rw[lA];lia),rfl,q _ I.fresh⟩
variable{prog:Program}{w:World}{A:Around}{E:Value->Shared->Prop}
section
variable {κ:Type}[DecidableEq κ]
def putK(kvs:List (κ×V))(k:κ)(v:V):List (κ×V):=
 if(kvs.any λkv=>decide (kv.1=k))=true then kvs.map (λkv=>if kv.1=k then(kv.1,v)else kv)else kvs++[(k,v)]
end
variable{a:Addr}{y v:V}{u r:Value}{o:Option V}
theorem Inv.big(I:Inv X pins σ H s):sysModules < s.heap.objs.size:=by
 have h:mainGlobals < s.heap.objs.size:=(I.mod.glob.keeps I.bk).lt;exact Nat.lt_trans (by decide) h
theorem Uw{h':Heap}{ob:HO}(I:Inv X pins σ H s)(mu:bq (H a))(hs:Heap.SameBut a s.heap h')(he:∃q,h'.get? a=some q)(new:BN X.prog X.w (upd H a ob) h' a ob):
 Inv X pins σ (upd H a ob) {s with heap:=h',toks:=t'}:=
 I.write (x:=a) (e:=a) mu (.inl rfl) (λb q hb z=>(hs.2 b hb).trans z) he new
variable{kvs:List (Key×V)}{k:Key}
variable{pos:Pos}
structure M1(X:Cx)(o:Expr)(m:Str)(apos:Pos)(e:Expr)(cpos:Pos):Prop where
 base:attributeBase o m X.env (eval o X.env)=eval o X.env
 XF:((backTo cpos (starEach [e] X.env)).all (λx=>!x.1) && (backToKw cpos (keywordEach [] X.env)).all (λx=>x.1.isSome)
  && decide (([e]:List Expr).length+([]:List Keyword).length+(if([]:List Keyword).isEmpty then 0 else 1) < 30))=true
 line:(apos.endLine == cpos.line)=true
 trees:backTo cpos (starEach [e] X.env)=[(false,eval e X.env)]
structure M2(X:Cx)(o:Expr)(m:Str)(apos:Pos)(e f:Expr)(cpos:Pos):Prop where
 base:attributeBase o m X.env (eval o X.env)=eval o X.env
 XF:((backTo cpos (starEach [e,f] X.env)).all (λx=>!x.1) && (backToKw cpos (keywordEach [] X.env)).all (λx=>x.1.isSome)
  && decide (([e,f]:List Expr).length+([]:List Keyword).length+(if([]:List Keyword).isEmpty then 0 else 1) < 30))=true
 line:(apos.endLine == cpos.line)=true
 trees:backTo cpos (starEach [e,f] X.env)=[(false,eval e X.env),(false,eval f X.env)]
variable{d:V}
end L2
namespace Att
open PySem PySem.W PySem.Calls PyProof.Rows
variable{h:Heap}
theorem Gu{P:Params}:∀(ns:List Int) (vs:List Value),WellAll P h vs (ns.map WData.int)->IntsAre vs ns:=by
 intro ns
 induction ns with
 |nil=>
   intro vs w;rw[map_nil]at w;cases w;exact .nil
 |cons n ns ih=>
   intro vs w;rw[map_cons]at w;cases w with
   |cons a b=>
     cases a;exact .cons _ _ (ih _ b)
variable{n:Nat}
theorem NW{l:OpenLaw}(hn:l.most=some n){P:Params}{args:List WData}{vals:List Value}
 (hpre:l.row.toRowW.claim.pre args=true)(hwl:WellAll P h vals args):
 ∃a vs ns,vals=[Value.ref a]/\args=[WData.list (ns.map WData.int)]/\h.get? a=some {cls:=.type "list",data:=.seq vs.toArray}/\IntsAre vs ns/\ns.length<=n:=by
 have hsh:WShape.hasAll [] args [.list .int]=true:=(pre_splitW hpre).1;have hc:l.pre.holds [] {args:=args}=true:=(pre_splitW hpre).2;obtain⟨d,r,rfl,h1,h2⟩:=hasAllW_cons hsh;obtain rfl:=hasAllW_nil h2;obtain⟨xs,rfl,h3⟩:=hasW_list h1;obtain⟨ns,rfl⟩:=items_int h3
 have hlen:ns.length<=n:=by
  unfold OpenLaw.pre at hc
  have h4:(WTm.not (.lt (.lit (.int (n:Int))) (.len (.arg 0)))).holds [] {args:=[.list (ns.map .int)]}=true:=by
   have h4:=(holds_andW hc).1;rw[hn]at h4;exact h4
  have h5:=condW_of h4 (w_not (w_lt w_lit (w_len_list (w_arg rfl))));rw[lM]at h5;refine Nat.le_of_not_lt λq=>?_
  have q':(n:Int) < ((ns.length:Nat):Int):=by lia
  first
   |(rw[decide_eq_true q']at h5;exact absurd h5 (by decide))
   |(simp at h5;lia)
 cases hwl with
 |cons w1 w2=>
   cases w2;cases w1 with
   |list ho hall=>exact⟨_,_,ns,rfl,rfl,ho,Gu ns _ hall,hlen⟩
theorem O5(l:OpenLaw)(args:List WData):l.row.toRowW.claim.post args (.bool true) args=true:=
 postW_of (r:=l.row.toRowW) (X:=(true == true))
  (show WShape.has [] (.bool true) .bool=true by first|rfl|decide|simp[WShape.has,WShape.arms,WShape.armsAll])
  (show(WTm.eq .res (.lit (.bool true))).value [] {args:=args,res:=some (.bool true),after:=args}=some (.bool (true == true))from w_eq_bool (w_res rfl) w_lit) rfl
theorem L6{l:OpenLaw}{q:Program}{loose:List Str}{XP:(Str->Option Value)->Heap->Prop}{YP:World->Heap->Prop}{d:DefRec}
 (hn:l.most=some n)(hdf:d.params.defaults=[])
 (call:∀(w:World) (s₀ s₁:Shared) (mg mb:Str->Option Value) (fa:Addr) (o:Obj) (pm cd doc:Value) (a:Addr) (vs:List Value) (ns:List Int),
  Ground q loose [] XP w s₀ mg mb s₁.heap->YP w s₁.heap->
  s₁.heap.get? fa=some o->o.data= .func (docDef d.name d.params d.body d.scope pm cd doc)->s₁.heap.CodeRec cd d.name->mg d.name=some (.ref fa)->
  s₁.heap.get? a=some {cls:=.type "list",data:=.seq vs.toArray}->IntsAre vs ns->ns.length<=n->s₁.gens= #[]->
  codeAny (model l.prog w) callerA (.call (.ref fa) ⟨[.ref a],[]⟩) (λr s'=>r= .ok (.ret (.bool true))/\OldK s₁.heap s'.heap/\s'.os=s₁.os/\AllBare s'.gens) s₁):
 WalkO q loose XP YP l.row.toRowW d [] (λf vs=>PySem.call f vs):=by
 intro w s₀ s₁ mg mb G Y fa o pm cd doc dV kV ho hd hcd hD hmg hg args vals as hpre hlay hrd hwl hlo;obtain rfl:dV= .none:=Dflts.none hD hdf;obtain rfl:kV= .none:=Dflts.noKw hD;obtain⟨a,vs,ns,rfl,rfl,hobj,hints,hlen⟩:=NW hn hpre hwl;refine enter_call (codeAny_mono (call w s₀ s₁ mg mb fa o pm cd doc a vs ns G Y ho (fd_plain hd) hcd hmg hobj hints hlen hg) λr s' hq=>?_);obtain⟨rfl,h2,h3,h4⟩:=hq;exact⟨.inl ⟨.bool true,.bool true,[],rfl,λ_=>rfl,.bool true,O5 l _,λ_=>⟨List.Pairwise.nil,λ_ hm=>(nomatch hm)⟩⟩,h2,h3,h4⟩
variable{prog:Program}{w:World}{A:Around}{E:Value->Shared->Prop}{s:Shared}{K:Frag}
end Att
namespace L2
open PySem PySem.Spec PyProof.Rows
theorem HQ:∀{vs:List Value} {ns:List Int},IntsAre vs ns->Vals (ns.map V.int) vs
 |_,_,.nil=>.nil
 |_,_,.cons n t h=>.cons ⟨t,rfl⟩ (HQ h)
def UZ(H:Hp):Prop:=∀b,H b=none\/∃o xs,H b=some (.M7 o (.lst xs))
theorem Qv{P:Program}{w:World}{K:PySem.W.Frag}{mg mb:Str->Option Value}{CX:VA}{k:Nat}{fa:Addr}{fd:FuncData}{x:Str}{sp:Sp}{s₁:Shared}{vs:List Value}{ns:List Int}
 (KX:K.In s₁.heap)(hns:s₁.heap.Ns mainGlobals mg)(hb:s₁.heap.Ns builtinsNs mb)(hbb:∀x:Str,x≠"__name__"->mb x=bootBuiltins x)(hlim:s₁.heap.NoLimit)(hg:s₁.gens= #[])
 (ha:s₁.heap.get? a=some {cls:=.type "list",data:=.seq vs.toArray})(hi:IntsAre vs ns)(hl:ns.length<=sizeLine)(hr:C6 k callerA)
 (F:∀base:Heap,K.In base->base.Ns mainGlobals mg->Eo P w K mg base CX k fa fd [x] sp)(hbind:∀(s:Shared) (u:Value),BindsTo s fd ⟨[u],[]⟩ [(x,u)])
 (hsp:∀H:Hp,UZ H->Dk K H a (ns.map V.int)->sp [.ref a] H (λv _=>v= .bl true) λ_ _ _=>False)
 (hCX:∀H e s',CX [] H s₁ (λ_ _ _=>False) e s'->False):
 codeAny (model P w) callerA (.call (.ref fa) ⟨[.ref a],[]⟩) (λr s'=>r= .ok (.ret (.bool true))/\OldK s₁.heap s'.heap/\s'.os=s₁.os/\AllBare s'.gens) s₁:=by
 have rv:=HQ hi;have lenV:=hi.length
 have core :∀H:Hp,UZ H->Dk K H a (ns.map V.int)->Ce P w H s₁.heap->(∀b,H b≠none->b=a)->(H a≠none->K.lookup a=none)->
  codeAny (model P w) callerA (.call (.ref fa) ⟨[.ref a],[]⟩) (λr s'=>r= .ok (.ret (.bool true))/\OldK s₁.heap s'.heap/\s'.os=s₁.os/\AllBare s'.gens) s₁:=by
  intro H hO hS Af hA hK;have base_of:∀{b:Addr} {o:Obj},s₁.heap.get? b=some o->H b=none->(Jn s₁.heap H).get? b=some o:=λe n=>QJ e n
  have YF:∀{b:Addr} {o:Obj} {es:Array DictEntry} {ep:Nat},s₁.heap.get? b=some o->o.data= .dict es ep->H b=none:=λ{b o es ep} e d=>by
   cases q:H b with
   |none=>rfl
   |some u=>
     have e':b=a:=hA b (by rw[q];simp);subst e';rw[ha]at e;cases e;have d':Data.seq vs.toArray _=Data.dict es ep:=d;cases d'
  have nsK:∀{b:Addr} {m:Str->Option Value},s₁.heap.Ns b m->(Jn s₁.heap H).Ns b m:=λ{b m} ⟨o,es,ep,e,d,r⟩=>⟨o,es,ep,base_of e (YF e d),d,r⟩
  have hKb:K.In (Jn s₁.heap H):=λb o e=>base_of (KX b o e) (by
   cases q:H b with
   |none=>rfl
   |some u=>
     have e':b=a:=hA b (by rw[q];simp);subst e'
     rw[hK (by rw[q];simp)]at e;cases e)
  have hM:Mod K mg (Jn s₁.heap H):=⟨hKb,nsK hns,⟨mb,nsK hb,hbb⟩,let⟨mc,h1,h2⟩:=hlim;⟨mc,nsK h1,h2⟩⟩;have e0:Mx P w K mg (Jn s₁.heap H) callerA [] s₁ H:=⟨rfl,hM,λb o e=>Tz e,Nat.le_of_eq (Oo _ _),trivial,λb hb=>absurd (show b∈([]:List Addr)from hb) (by simp),Af,.of_eq hg⟩;refine codeAny_mono ((F _ hKb (nsK hns)).run callerA [] s₁ H ⟨[.ref a],[]⟩ [.ref a] [.ref a] _ _ hr e0 (hbind s₁ (.ref a)) (.cons rfl .nil) (hsp H hO hS)) λr s' h=>?_
  cases r with
  |error e=>exact(hCX H e s' h).elim
  |ok fl =>
    cases fl with
    |next=>exact False.elim h
    |brk=>exact False.elim h
    |cont=>exact False.elim h
    |ret u=>
      obtain⟨v,H',os,bare,un,hok',r',q⟩:=h;have q':v= .bl true:=q;subst q';obtain rfl:u=Value.bool true:=r';refine⟨rfl,OldK.of_keep λb o e=>?_,os,bare⟩;cases q:H b with
      |none=>exact un.keep b o e q (by intro z;exact absurd (show b∈([]:List Addr)from z) (by simp)) (by simp)
      |some u=>
        rcases hO b with z|⟨ob,xs,z⟩
        .rw[q]at z;cases z
        .have z2:=un.FX b ob _ z;obtain⟨e1,_⟩:=Af b _ z;obtain⟨e2,_⟩:=hok' b _ z2;rw[e]at e1;cases e1;exact e2
 cases hk:K.lookup a with
 |some o=>
   have e:=KX a o hk;rw[ha]at e;cases e;refine core (λ_=>none) (λ_=>.inl rfl) (.inr ⟨_,vs.toArray,_,hk,rfl,rfl,rfl,by rw[size_toArray,lenV];exact hl,by simpa using rv⟩) (λb u z=>by have z':(none:Option HO)=some u:=z;cases z') (λb z=>absurd rfl z) λz=>absurd rfl z
 |none=>
   refine core (λb=>if b=a then some (.M7 {cls:=.type "list",data:=.seq vs.toArray} (.lst (ns.map V.int)))else none) (λb=>?_) (.inl (.inr ⟨{cls:=.type "list",data:=.seq vs.toArray},iP rfl⟩)) (λb u z=>?_) (λb z=>?_) λ_=>hk
   .by_cases hb:b=a
    .exact .inr ⟨_,_,iP hb⟩
    .exact .inl (iN hb)
   .by_cases hb:b=a
    .have z':=(iP hb).symm.trans z;cases z';subst hb;exact⟨ha,by rw[lM];exact hl,vs,_,rv,ha⟩
    .have z':=(iN hb).symm.trans z;cases z'
   .by_cases hb:b=a
    .exact hb
    .exact absurd (iN hb) z
theorem Sj{l:PySem.W.OpenLaw}{n k:Nat}{q:Program}{loose:List Str}{XP:(Str->Option Value)->Heap->Prop}{YP:World->Heap->Prop}{d:DefRec}{K:Params->PySem.W.Frag}{CX:World->VA}{sp:World->Sp}{x:Str}
 (hn:l.most=some n)(hn2:n<=sizeLine)(hdf:d.params.defaults=[])(hr:C6 k callerA)
 (hY:∀(w:World) (h:Heap),YP w h->(K w.params).In h)
 (F:∀(w:World) (mg:Str->Option Value) (fa:Addr) (h:Heap),(K w.params).In h->h.Ns mainGlobals mg->mg d.name=some (.ref fa)->
   ∃ fd:FuncData,(∀(s:Shared) (u:Value),BindsTo s fd ⟨[u],[]⟩ [(x,u)])/\
     ∀base:Heap,(K w.params).In base->base.Ns mainGlobals mg->Eo l.prog w (K w.params) mg base (CX w) k fa fd [x] (sp w))
 (hsp:∀(w:World) (H:Hp) (a:Addr) (ns:List Int),ns.length<=n->UZ H->Dk (K w.params) H a (ns.map V.int)->sp w [.ref a] H (λv _=>v= .bl true) λ_ _ _=>False)
 (hCX:∀(w:World) (H:Hp) (s:Shared) (e:Value) (s':Shared),CX w [] H s (λ_ _ _=>False) e s'->False):
 PySem.W.WalkO q loose XP YP l.row.toRowW d [] (λf vs=>PySem.call f vs):=by
 refine Att.L6 hn hdf λw s₀ s₁ mg mb fa o pm cd doc a vs ns G Y ho hd hcd hmg hobj hints hlen hg=>?_
 have KX:=hY w _ Y;obtain⟨fd,hb,hF⟩:=F w mg fa _ KX G.T.g hmg;exact Qv KX G.T.g G.T.b G.T.builtins G.T.nolimit hg hobj hints (Nat.le_trans hlen hn2) hr hF hb (λH hO hS=>hsp w H a ns hlen hO hS) λH e s'=>hCX w H s₁ e s'
def inClass(s:Stmt)(j:Nat):Stmt:=match s with
 |.ClassDef _ _ _ body _ _ _ _ _ _ _=>body.getD j (.Pass ⟨0,0,0,0⟩)
 |_=>.Pass ⟨0,0,0,0⟩
def Jy(s:Stmt):Arguments:=match s with
 |.FunctionDef _ a _ _ _ _ _ _ _ _=>a
 |_=>{posonlyargs:=[],args:=[],vararg:=none,kwonlyargs:=[],kw_defaults:=[],kwarg:=none,defaults:=[]}
def CD(s:Stmt):List Stmt:=match s with
 |.FunctionDef _ _ b _ _ _ _ _ _ _=>b
 |_=>[]
def Aw(s:Stmt):Scope:=match s with
 |.FunctionDef _ _ _ _ _ _ sc _ _ _=>sc
 |_=>{kind:=.function,names:=[],isGenerator:=false,isCoroutine:=false}
abbrev E0:XK:=λ_ _ _=>False
structure Fz(K:PySem.W.Frag)(x qual:Str)(st:Stmt)(f:Addr)(fd:FuncData):Prop where
 ex:∃(oc:Value) (od:Option Addr) (kV doc pm:Value) (an:Option Addr) (cdv ct:Value) (osl:Array (Option Value)),
   fd=PySem.W.fnOf x qual (Jy st) (CD st) (Aw st) .none kV doc pm an cdv ct/\K.lookup f=some ⟨oc,od,.func fd,osl⟩/\codeIn K cdv qual=true
 kp:keepIn K (.ref f)=true
section
variable{P:Program}{w:World}{K:PySem.W.Frag}{mg:Str->Option Value}{base:Heap}
theorem Fz.binds{qual:Str}{st:Stmt}{fd:FuncData}{ps:List Str}(F:Fz K x qual st f fd)
 (h:∀(kV doc pm:Value) (an:Option Addr) (cdv ct:Value) (us:List Value),us.length=ps.length->bindArgs (PySem.W.fnOf x qual (Jy st) (CD st) (Aw st) .none kV doc pm an cdv ct) ⟨us,[]⟩=pure (ps.zip us)):Binds K fd ps []:=by
 obtain⟨oc,od,kV,doc,pm,an,cdv,ct,osl,rfl,lk,hcd⟩:=F.ex;exact .all (h kV doc pm an cdv ct)
end
variable{X:Cx}
theorem Ub{A B:Prop}(h:B):if false=true then A else B:=by
 rw[iN Bool.false_ne_true];exact h
theorem Ua{A B:Prop}(h:A):if true=true then A else B:=by
 rw[iP rfl];exact h
def D2(H H':Hp):Prop:=∀b o,H b=some o->H' b=some o
theorem D2.refl(H:Hp):D2 H H:=λ_ _ h=>h
def KW(cells:List (Str×Addr)):List (Str×NameKind)->List (Str×Addr)->List (Str×Addr)
 |[],cs=>cs
 |(n,k)::r,cs=>if(k == NameKind.free)=true then KW cells r ((n,(cells.lookup n).getD 0)::cs)else KW cells r cs
variable{env:Env}
theorem Nv:∀(l:List (Str×NameKind)) (cs:List (Str×Addr)),(∀x∈l,x.2= .free->∃c,env.cells.lookup x.1=some c)->
 (forIn l cs (λ(x:Str×NameKind) (r:List (Str×Addr))=>(match x with|(name,kind)=>if(kind == NameKind.free)=true then(do let a <-cellOf env name;pure (ForInStep.yield ((name,a)::r)))else pure (ForInStep.yield r):Sem _)))=(pure (KW env.cells l cs):Sem _)
 |[],cs,_=>by simp[KW]
 | (n, k)::r,cs,h=>by
   have ih:=λcs'=>Nv r cs' λx hx=>h x (mC hx)
   rw[forIn_cons]
   by_cases hk:k= .free
   .subst hk;obtain⟨c,e⟩:=h (n,.free) mS rfl
    have hb:(if(NameKind.free == NameKind.free)=true then(do let a <-cellOf env n;pure (ForInStep.yield ((n,a)::cs)))else pure (ForInStep.yield cs):Sem (ForInStep (List (Str×Addr))))=pure (ForInStep.yield ((n,c)::cs)):=by
     have e:env.cells.lookup n=some c:=e;rw[iP (by rfl)];unfold cellOf;rw[e];exact pure_bind _ _
    show((if(NameKind.free == NameKind.free)=true then(do let a <-cellOf env n;pure (ForInStep.yield ((n,a)::cs)))else pure (ForInStep.yield cs):Sem (ForInStep (List (Str×Addr)))) >>= _)=_;rw[hb,pure_bind];refine(ih _).trans ?_;have e:env.cells.lookup n=some c:=e;show _=pure (if(NameKind.free == NameKind.free)=true then KW env.cells r ((n,(env.cells.lookup n).getD 0)::cs)else KW env.cells r cs);rw[iP (by rfl),e];rfl
   .have hb:(k == NameKind.free)=false:=by simpa using hk
    show((if(k == NameKind.free)=true then(do let a <-cellOf env n;pure (ForInStep.yield ((n,a)::cs)))else pure (ForInStep.yield cs):Sem (ForInStep (List (Str×Addr)))) >>= _)=_;rw[iN (by rw[hb];decide),pure_bind];refine(ih _).trans ?_;show _=pure (if(k == NameKind.free)=true then KW env.cells r ((n,(env.cells.lookup n).getD 0)::cs)else KW env.cells r cs);rw[iN (by rw[hb];decide)]
theorem Ej{scope:Scope}(h:∀x∈scope.names,x.2= .free->∃c,env.cells.lookup x.1=some c):closureFor scope env=pure (KW env.cells scope.names []):=by
 unfold closureFor;have:=Nv (env:=env) scope.names [] h
 first
  |(simp only[bind_pure];exact this)
  |(rw[show(forIn scope.names ([]:List (Str×Addr)) _:Sem _)=_ from this];rfl)
theorem HA{cells:List (Str×Addr)}{c:Addr}:∀(l:List (Str×NameKind)) (cs:List (Str×Addr)),(∀y∈l,y.2= .free->∃c,cells.lookup y.1=some c)->(∀y d,cs.lookup y=some d->cells.lookup y=some d)->
 (KW cells l cs).lookup x=some c->cells.lookup x=some c
 |[],cs,_,hc,e=>hc x c e
 | (n, k)::r,cs,hl,hc,e=>by
   have hl':∀y∈r,y.2= .free->∃c,cells.lookup y.1=some c:=λy hy=>hl y (mC hy)
   unfold KW at e
   by_cases hk:(k == NameKind.free)=true
   .rw[iP hk]at e;refine HA r _ hl' (λy d q=>?_) e;obtain⟨d',e'⟩:=hl (n,k) mS (by simpa using hk);rw[lookup_cons]at q;cases hy:y == n with
    |true=>
      rw[hy]at q;have:y=n:=by simpa using hy
      subst this;dsimp only at e';rw[e']at q ⊢;exact q
    |false=>rw[hy]at q;exact hc y d q
   .rw[iN hk]at e;exact HA r cs hl' hc e
theorem GB{cells:List (Str×Addr)}{x:Str}:∀(l:List (Str×NameKind)) (cs:List (Str×Addr)),((∃y∈l,y.1=x/\y.2= .free)\/∃c,cs.lookup x=some c)->∃c,(KW cells l cs).lookup x=some c
 | [],cs,h=>by
   rcases h with⟨y,hy,_⟩|h
   .simp at hy
   .exact h
 | (n, k)::r,cs,h=>by
   unfold KW
   by_cases hk:(k == NameKind.free)=true
   .rw [iP hk];refine GB r _ ?_;rcases h with⟨y,hy,e1,e2⟩|⟨c,h⟩
    .rcases mK hy with q|q
     .refine .inr ?_;subst q;have e1:n=x:=e1;subst e1;exact⟨_,by rw[lookup_cons];simp;rfl⟩
     .exact .inl ⟨y,q,e1,e2⟩
    .refine .inr ?_;rw[lookup_cons];cases hy:x == n with
     |true=>exact⟨_,rfl⟩
     |false=>exact⟨c,h⟩
   .rw [iN hk];refine GB r cs ?_;rcases h with⟨y,hy,e1,e2⟩|h
    .rcases mK hy with q|q
     .subst q;have e2:k= .free:=e2;subst e2;exact absurd rfl hk
     .exact .inl ⟨y,q,e1,e2⟩
    .exact .inr h
noncomputable def AV(X:Cx)(N:List Str)(scope:Scope)(C:Addr)(s:Shared)(H:Hp)(fp:List Addr):Cx where
 prog:=X.prog
 w:=X.w
 K:=X.K
 mg:=X.mg
 base:=X.base
 A:=X.A
 N:=N
 s₀:=s
 H₀:=H
 env:=compEnvC scope (KW X.env.cells scope.names []) C X.env
 outer:=X.stack
 stack:=X.stack
 ex:=fp
 calm:=X.calm
 fn:=λ_=>false
 pn:=[]
 xe:=λ_ _=>False
def Cf(fr:List (Option Nat))(σ:St):St:=fr.map λo=>o.bind λi=>(σ[i]?).join
noncomputable def Mj(N0:List Str)(sc0:Scope)(N:List Str)(scope:Scope)(fr:List (Option Nat)):Bool:=
 (scope.kind == .function) && scope.names.all (λy=>y.2 != .cell) && scope.names.all (λy=>y.2 != .local || scope.names.lookup y.1 == some .local) &&
 scope.names.all (λy=>y.2 != .free || sc0.names.lookup y.1 == some .cell || sc0.names.lookup y.1 == some .free) && (fr.length == N.length) &&
 (List.range fr.length).all λj=>match fr[j]? with
  |some (some i)=>(N[j]? == N0[i]?) && (match N[j]? with|some x=>scope.names.lookup x == some .free|none=>false)
  |_=>true
structure DV(N0:List Str)(sc0:Scope)(N:List Str)(scope:Scope)(fr:List (Option Nat)):Prop where
 kind:scope.kind= .function
 J3:∀y∈scope.names,y.2≠.cell
 own:∀y∈scope.names,y.2= .local->scope.names.lookup y.1=some .local
 free:∀y∈scope.names,y.2= .free->sc0.names.lookup y.1=some .cell\/sc0.names.lookup y.1=some .free
 len:fr.length=N.length
 Uj:∀(j i:Nat),fr[j]? =some (some i)->∃x,N[j]? =some x/\N0[i]? =some x/\scope.names.lookup x=some .free
theorem DV.of{N0:List Str}{sc0:Scope}{N:List Str}{scope:Scope}{fr:List (Option Nat)}(h:Mj N0 sc0 N scope fr=true):DV N0 sc0 N scope fr:=by
 unfold Mj at h;simp only[bA,all_eq_true]at h;obtain⟨⟨⟨⟨⟨h1,h2⟩,h3⟩,h4⟩,h5⟩,h6⟩:=h;refine⟨by simpa using h1,λy hy=>by simpa using h2 y hy,λy hy e=>?_,λy hy e=>?_,by simpa using h5,λj i e=>?_⟩
 .have:=h3 y hy;simp[e]at this;exact this
 .have:=h4 y hy;simp[e]at this;exact this
 .have hj:j < fr.length:=(List.getElem?_eq_some_iff.mp e).1;have q:=h6 j (mem_range.mpr hj);rw[e]at q;dsimp only at q;rw[bA]at q;obtain⟨q1,q2⟩:=q;cases ex:N[j]? with
  |none=>rw[ex]at q2;cases q2
  |some x=>
    rw[ex]at q1 q2;exact⟨x,rfl,(by simpa using q1:some x=N0[i]?).symm,by simpa using q2⟩
theorem BX{env:Env}:∀{names:List (Str×NameKind)} {x:Str},names.lookup x=some .free->
 (names.map λ(n,k)=>if(k == NameKind.free && env.scope.kind == .function && env.kindOf n == some .cell)then(n,NameKind.cell)else(n,k)).lookup x=some .free\/
 (names.map λ(n,k)=>if(k == NameKind.free && env.scope.kind == .function && env.kindOf n == some .cell)then(n,NameKind.cell)else(n,k)).lookup x=some .cell
 |[],_,h=>by simp at h
 | (n,k)::r,x,h=>by
   have ih:=@BX env r x;show List.lookup x ((if(k == NameKind.free && env.scope.kind == .function && env.kindOf n == some .cell)=true then(n,NameKind.cell)else(n,k))::_)=_\/List.lookup x ((if(k == NameKind.free && env.scope.kind == .function && env.kindOf n == some .cell)=true then(n,NameKind.cell)else(n,k))::_)=_;cases hx:x == n with
   |true=>
     simp only[lookup_cons,hx]at h;cases h
     by_cases hc:(NameKind.free == NameKind.free && env.scope.kind == .function && env.kindOf n == some .cell)=true
     .rw[iP hc];right;rw[lookup_cons,hx]
     .rw[iN hc];left;rw[lookup_cons,hx]
   |false=>
     simp only[lookup_cons,hx]at h
     by_cases hc:(k == NameKind.free && env.scope.kind == .function && env.kindOf n == some .cell)=true
     .rw[iP hc];simp only[lookup_cons,hx];exact ih h
     .rw[iN hc];simp only[lookup_cons,hx];exact ih h
theorem Fg{env:Env}:∀{names:List (Str×NameKind)} {x:Str},(∀y∈names,y.2≠.cell)->
 ((names.map λ(n,k)=>if(k == NameKind.free && env.scope.kind == .function && env.kindOf n == some .cell)then(n,NameKind.cell)else(n,k)).lookup x=some .cell\/
 (names.map λ(n,k)=>if(k == NameKind.free && env.scope.kind == .function && env.kindOf n == some .cell)then(n,NameKind.cell)else(n,k)).lookup x=some .free)->∃y∈names,y.1=x/\y.2= .free
 |[],_,_,h=>by simp at h
 | (n, k)::r,x,hn,h=>by
   have ih:=@Fg env r x λy hy=>hn y (mC hy)
   have hnk:k≠.cell:=hn (n,k) mS
   have h:List.lookup x ((if(k == NameKind.free && env.scope.kind == .function && env.kindOf n == some .cell)=true then(n,NameKind.cell)else(n,k))::(r.map λ(n,k)=>if(k == NameKind.free && env.scope.kind == .function && env.kindOf n == some .cell)then(n,NameKind.cell)else(n,k)))=some .cell\/
    List.lookup x ((if(k == NameKind.free && env.scope.kind == .function && env.kindOf n == some .cell)=true then(n,NameKind.cell)else(n,k))::(r.map λ(n,k)=>if(k == NameKind.free && env.scope.kind == .function && env.kindOf n == some .cell)then(n,NameKind.cell)else(n,k)))=some .free:=h
   by_cases hc:(k == NameKind.free && env.scope.kind == .function && env.kindOf n == some .cell)=true
   .rw [iP hc]at h;cases hx:x == n with
    |true=>
      have hk:k= .free:=by
       simp only[bA]at hc;simpa using hc.1.1
      exact⟨(n,k),mS,(by simpa using hx:x=n).symm,hk⟩
    |false=>
      simp only[lookup_cons,hx]at h;obtain⟨y,hy,q⟩:=ih h;exact⟨y,mC hy,q⟩
   .rw[iN hc]at h;cases hx:x == n with
    |true=>
      simp only[lookup_cons,hx,Option.some.injEq]at h;refine⟨(n,k),mS,(by simpa using hx:x=n).symm,?_⟩;rcases h with h|h
      .exact absurd h hnk
      .exact h
    |false=>
      simp only[lookup_cons,hx]at h;obtain⟨y,hy,q⟩:=ih h;exact⟨y,mC hy,q⟩
section
variable{pins:List (Addr×Obj)}{σ:St}{H:Hp}{s:Shared}{N:List Str}{scope:Scope}{fr:List (Option Nat)}{fp:List Addr}{C:Addr}
theorem Rf(I:Inv X pins σ H s)(ok:DV X.N X.env.scope N scope fr)(hf:∀b∈fp,G4 X pins H b)(hfl:∀b∈fp,b < s.heap.objs.size){h1:Heap}{m:Str->Option Value}{tk:Nat}(hC:s.heap.objs.size<=C)(hns:h1.Ns C m)
 (k:∀b o,s.heap.get? b=some o->h1.get? b=some o):Inv (AV X N scope C s H fp) [] (Cf fr σ) H {s with heap:=h1,toks:=tk}:=by
 have hcl:∀y∈scope.names,y.2= .free->∃c,X.env.cells.lookup y.1=some c:=λy hy e=>I.ok.has y.1 (ok.free y hy e)
 have Uj:∀{x:Str} {c:Addr},(KW X.env.cells scope.names []).lookup x=some c->X.env.cells.lookup x=some c:=λ{x c} e=>HA scope.names [] hcl (λy d q=>by simp at q) e
 refine⟨⟨I.ok.mod,ok.kind,I.ok.glob,I.ok.blt,hC,λx y c e1 e2=>I.ok.inj x y c (Uj e1) (Uj e2),λx hx=>?_,λx c hf' _=>?_,I.ok.hd,I.ok.frames,.inl rfl,λb hb=>⟨?_,λx c e=>?_⟩,I.bs,Nat.le_trans I.ok.UP I.sz,λb o e hb=>?_,λb hb hs=>?_,I.stack,I.Fb⟩,
  rfl,I.bare,Un.kept k,⟨m,hns,λj x v e1 e2 e3=>?_⟩,λx c e=>?_,I.Af.fresh hC,λx c e=>I.EI x c (Uj e),λp hp=>?_,I.Af.kept k,?_⟩
 .obtain⟨y,hy,e1,e2⟩:=Fg (env:=X.env) ok.J3 hx;exact GB scope.names [] (.inl ⟨y,hy,e1,e2⟩)
 .exact absurd hf' (by show ¬(false=true);decide)
 .exact Nat.ne_of_lt (Nat.lt_of_lt_of_le (hfl b hb) hC)
 .exact(hf b hb).2.2.2.2.1 x c (Uj e)
 .rcases(hf b hb).2.2.2.1 with z|z
  .exact I.ok.Qf b o e z
  .exact absurd (Nat.lt_of_lt_of_le (Heap.lt_size e) (Nat.le_trans I.ok.UP z)) (Nat.lt_irrefl _)
 .rcases mK (I.IP b hs)with e|e
  .exact(hf b hb).2.1 e
  .exact(hf b hb).2.2.1 e
 .have e2:(fr.map λo=>o.bind λi=>(σ[i]?).join)[j]? =some (some v):=e2;rw[List.getElem?_map]at e2;cases ef:fr[j]? with
  |none=>rw[ef]at e2;cases e2
  |some o=>
    rw[ef]at e2;have e2:(o.bind λi=>(σ[i]?).join)=some v:=Option.some.inj e2;cases o with
    |none=>cases e2
    |some i=>
      have e2:(σ[i]?).join=some v:=e2
      have eσ:σ[i]? =some (some v):=by
       cases q:σ[i]? with
       |none=>rw[q]at e2;cases e2
       |some z=>rw[q]at e2;exact congrArg some e2
      obtain⟨x',n1,n2,fx⟩:=ok.Uj j i ef;have:x'=x:=Option.some.inj (n1.symm.trans e1);subst this;have hsc:=ok.free _ (PySem.mem_of_lookup fx) rfl;obtain⟨m0,hn0,hl0⟩:=I.loc;obtain⟨u,r,l⟩:=hl0 i x' v n2 eσ (by rcases hsc with z|z;exact .inr (.inl z);exact .inr (.inr z));refine⟨u,r,?_⟩;rcases l with⟨q,_⟩|⟨_,c,ec,⟨oc,hoc,hod⟩⟩
      .have q:X.env.scope.names.lookup x'=some .local:=q;rcases hsc with z|z
       .rw[z]at q;cases q
       .rw[z]at q;cases q
      .obtain⟨c',e'⟩:=GB (cells:=X.env.cells) scope.names [] (.inl ⟨_,PySem.mem_of_lookup fx,rfl,rfl⟩);have:c'=c:=Option.some.inj ((Uj e').symm.trans ec);subst this;refine .inr ⟨?_,c',e',oc,k _ _ hoc,hod⟩;rcases BX (env:=X.env) fx with z|z
       .exact .inr z
       .exact .inl z
 .obtain⟨v,oc,hoc,hod⟩:=I.cell x c (Uj e);exact⟨v,oc,k _ _ hoc,hod⟩
 .exact absurd (show p∈([]:List (Addr×Obj))from hp) (by simp)
 .unfold Cf;rw[lM];exact ok.len
theorem Inv.Z4{xs:List V}{its:List Value}{n:Nat}(I:Inv X pins σ H s)(hD:G4 X pins H D)(hz:xs.length<=sizeLine)(r:Vals xs its)(e:s.heap.get? D=some {cls:=.type "list",data:=.seq its.toArray n}):
 Inv X pins σ (upd H D (.lst xs)) s:=by
 have hn:=hD.1;have ne:∀b u,H b=some u->b≠D:=λb u q=>AO q hn
 refine I.step (h':=s.heap) (g':=s.gens) (d':=s.drawn) (t':=s.toks) (ch:=[D]) (λb hb=>?_) (λb o _ _ _ q _=>q) (λb o _ _ _ q _=>⟨o.slots,q⟩) (λb o hb _ q=>?_) (λb o _ q=>⟨o,q⟩)
  (λb xs q=>by rw[An (ne b _ q)];exact q) (λb o u q=>by rw[An (ne b _ q)];exact q) (λb ps q=>⟨#[],by rw[An (ne b _ q),q];simp⟩) (λm q=>q) (λb u q=>?_) I.bare
 .have:b=D:=by simpa using hb
  subst this;exact⟨hD.2.2.2.1,hD.2.1,hD.2.2.2.2.1,hD.2.2.2.2.2⟩
 .rw[An (λz=>hb (by simp[z]))];exact q
 .by_cases hb:b=D
  .subst hb;rw[Ay]at q;cases q;exact⟨hz,its,n,r,e⟩
  .rw[An hb]at q;exact(I.Af b u q).JT (λc v _ z=>z) (λc z=>by rw[An (ne c _ z)];exact z) λc xs z=>by rw[An (ne c _ z)];exact z
def CompEnd(X:Cx)(pins:List (Addr×Obj))(σ:St)(Q:List V->Hp->Prop)(acc:Value)(C:Addr)(r:Result)(s':Shared):Prop:=
 r= .ok .next/\∃(D:Addr) (H':Hp) (xs:List V),acc= .ref D/\H' D=none/\Inv X pins σ (upd H' D (.lst xs)) s'/\(∃m,s'.heap.Ns C m)/\G4 X pins (upd H' D (.lst xs)) C/\Q xs H'
end
variable{prog:Program}{w:World}{A:Around}{R:Result->Shared->Prop}{s:Shared}
end L2
namespace PySem
open Sem (wp)
open AutoSeq1 (wpAny_loadPart')
namespace RV
theorem NU:Slot "reversed" "__init__" "object.__init__":=
 .of (owner:="object") (n:="__init__") (by rw[typeLookup_type,builtinLookup_eq_fast];kernel_rfl) (by decide +kernel) (by decide +kernel) (by decide +kernel)
  (by first|exact .inl (by decide +kernel)|exact .inr (by decide +kernel)) (by rw[isSubtype_type];kernel_rfl)
theorem Mo:TypeCalled "reversed" "reversed.__new__" "object.__init__":=
 ⟨by decide +kernel,by decide +kernel,⟨_,_,F.mro_reversed⟩,F.made_reversed,by decide +kernel,F.sub_reversed_self,NU⟩
theorem JQ:typeLookup (.type "tuple") "__reversed__"=pure none:=by rw[typeLookup_type,builtinLookup_eq_fast];kernel_rfl
theorem IL:isSubtype (.type "tuple") (.type "dict")=pure false:=by rw[isSubtype_type];kernel_rfl
theorem slot_next:Slot "reversed" "__next__" "reversed.__next__":=
 .of (owner:="reversed") (n:="__next__") (by rw[typeLookup_type,builtinLookup_eq_fast];kernel_rfl) (by decide +kernel) (by decide +kernel) (by decide +kernel)
  (by first|exact .inl (by decide +kernel)|exact .inr (by decide +kernel)) (by rw[isSubtype_type];kernel_rfl)
theorem entry_next:entryFor table "reversed.__next__"=some Builtin.«reversed.__next__»:=entryFor_of_tree (by kernel_rfl)
theorem GZ:Manifest.owners.lookup (String.ofList ['d','e','s','r','e','v','e','r'].reverse)=some Manifest.sig_reversed:=by kernel_rfl
theorem args_next(a:Value):argsOk "reversed.__next__" ⟨[a],[]⟩:=by
 unfold argsOk;rw[signature?_of (id:="reversed.__next__") (n:=['_','_','t','x','e','n','_','_']) (o:=['d','e','s','r','e','v','e','r']) (by kernel_rfl) GZ];kernel_rfl
theorem HW:Slot "reversed" "__iter__" "reversed.__iter__":=
 .of (owner:="reversed") (n:="__iter__") (by rw[typeLookup_type,builtinLookup_eq_fast];kernel_rfl) (by decide +kernel) (by decide +kernel) (by decide +kernel)
  (by first|exact .inl (by decide +kernel)|exact .inr (by decide +kernel)) (by rw[isSubtype_type];kernel_rfl)
theorem OE(a:Value):argsOk "reversed.__iter__" ⟨[a],[]⟩:=by
 unfold argsOk;rw[signature?_of (id:="reversed.__iter__") (n:=['_','_','r','e','t','i','_','_']) (o:=['d','e','s','r','e','v','e','r']) (by kernel_rfl) GZ];kernel_rfl
theorem Mc:entryFor table "reversed.__iter__"=some Builtin.«dict_keyiterator.__iter__»:=
 entryFor_alias (id':="dict_keyiterator.__iter__") (by kernel_rfl) (by first|rfl|decide +kernel|(unfold String.splitOn;simp +decide [String.splitOnAux])) (by decide +kernel) (by kernel_rfl)
theorem Es:Slot "reversed" "__length_hint__" "reversed.__length_hint__":=
 .of (owner:="reversed") (n:="__length_hint__") (by rw[typeLookup_type,builtinLookup_eq_fast];kernel_rfl) (by decide +kernel) (by decide +kernel) (by decide +kernel)
  (by first|exact .inl (by decide +kernel)|exact .inr (by decide +kernel)) (by rw[isSubtype_type];kernel_rfl)
theorem Hr:entryFor table "reversed.__length_hint__"=some Builtin.«reversed.__length_hint__»:=entryFor_of_tree (by kernel_rfl)
theorem IB(a:Value):argsOk "reversed.__length_hint__" ⟨[a],[]⟩:=by
 unfold argsOk;rw[signature?_of (id:="reversed.__length_hint__") (n:=['_','_','t','n','i','h','_','h','t','g','n','e','l','_','_']) (o:=['d','e','s','r','e','v','e','r']) (by kernel_rfl) GZ];kernel_rfl
theorem J5:typeLookup (.type "reversed") "__len__"=pure none:=by rw[typeLookup_type,builtinLookup_eq_fast];kernel_rfl
end RV
def CL(t:Addr)(i:Int):Obj:={cls:=.type "reversed",data:=.fields #[.ref t,rawInt i]}
open Sem (wp)
open AutoSeq1 (wpAny_loadPart')
open PyProof.Rows
variable{prog:Program}{w:World}{A:Around}{E:Value->Shared->Prop}{s:Shared}
theorem Zj{i n:Nat}(h:i < n):seqIndex? (i:Int) n=some i:=by
 have hng:¬((i:Int) < 0):=by lia
 unfold seqIndex?;simp[hng,h]
theorem Wx{items:Array Value}(hz:(items.size:Int) < 2 ^ 63):
 Meets (Builtin.«reversed.__new__» ⟨[.type "reversed",.ref t],[]⟩) (λ_ R s=>IsTup s.heap t items/\∀tk,R (.ok (.ret (.ref s.heap.objs.size))) {s with heap:=s.heap.push (CL t ((items.size:Int)-1)),toks:=tk}):=
 .of_wp λprog w A R s h=>by
  obtain⟨ht,h⟩:=h;unfold Builtin.«reversed.__new__»;refine wB (wpAny_of_eq (newClass_reversed _) ?_)
  try dsimp only
  refine wB (wpAny_of_eq (a:=()) (by first|rfl|kernel_rfl) ?_);refine wB (wpAny_of_eq (a:=()) (by first|rfl|kernel_rfl) ?_)
  try dsimp only
  refine wB (wpAny_specialOf ht.typeIs RV.JQ ?_)
  try dsimp only
  refine wB ?_
  wp_delta
  refine wB (wpAny_isInstance (T:="tuple") (b:=false) ht.typeIs RV.IL ?_);refine wpAny_ite_split (λhab=>absurd hab (by decide)) (λ_=>?_);refine wB (wpAny_specialOf ht.typeIs F.slot_tuple_getitem.lookup ?_)
  try dsimp only
  refine wpAny_ite_split (λ_=>?_) (λhab=>absurd (by decide +kernel) hab);refine wP ?_;refine wpAny_ite_split (λhab=>absurd hab (by decide)) (λ_=>?_);refine wB (len_tuple ht hz ?_);refine wB (m:=asInt? _) (wP ?_)
  try dsimp only
  refine wB ?_;show wpAny _ _ (newObj (.type "reversed") (.fields #[.ref t,rawInt ((items.size:Int)-1)])) _ _ _;refine wpAny_newObj_type ?_ (by size_fits);exact wP ⟨_,rfl,h _⟩
theorem UE{items:Array Value}{Q:Value->Shared->Prop}(ht:IsTup s.heap t items)(hz:(items.size:Int) < 2 ^ 63)
 (h:∀tk,Q (.ref s.heap.objs.size) {s with heap:=s.heap.push (CL t ((items.size:Int)-1)),toks:=tk}):wpAny (model prog w) A (call (.type "reversed") [.ref t]) Q E s:=
 callType_new RV.Mo (by decide) (F.typeCall_reversed_1 _) (F.newCall_reversed_1 _) (λobj=>F.args_object_init_2 obj _) F.entry_reversed_new (Wx hz)
  ⟨ht,λtk=>⟨⟨_,Heap.get?_push_size _ rfl,rfl⟩,h tk⟩⟩
theorem BV(hr:s.heap.get? r=some (CL t i)):s.TypeIs (.ref r) "reversed":=⟨_,hr,rfl⟩
theorem MH{Q:Value->Shared->Prop}(hr:s.heap.get? r=some (CL t i))(h:Q (.ref r) s):wpAny (model prog w) A (pyIter (.ref r)) Q E s:=by
 refine wpAny_pyIter_slot (BV hr) RV.HW (wpAny_call_entry RV.HW (BV hr) RV.Mc ?_ (RV.OE _));show wpAny _ _ (ret (.ref r)) _ _ s;exact wP ⟨_,rfl,"reversed",_,BV hr,RV.slot_next.lookup,h⟩
theorem SU{i:Nat}{items:Array Value}{x:Value}{Q:Option Value->Shared->Prop}(hr:s.heap.get? r=some (CL t (i:Int)))(ht:IsTup s.heap t items)(hx:items[i]? =some x)(hz:(items.size:Int) < 2 ^ 63)
 (hQ:∀h' tk,h'.get? r=some (CL t ((i:Int)-1))->Heap.SameBut r s.heap h'->Q (some x) {s with heap:=h',toks:=tk}):wpAny (model prog w) A (pyNext (.ref r)) Q E s:=by
 have hi:i < items.size:=by
  rcases Nat.lt_or_ge i items.size with z|z
  .exact z
  .rw[Array.getElem?_eq_none z]at hx;cases hx
 unfold pyNext
 refine wB (wpAny_attempt (wpAny_callSpecial?_slot (name:=Str.ofString "__next__") (BV hr) RV.slot_next
  (wpAny_call_entry RV.slot_next (BV hr) RV.entry_next ?_ (RV.args_next _))))
 unfold Builtin.«reversed.__next__»;refine wB (wpAny_of_eq (a:=(Value.ref r,[])) rfl ?_)
 try dsimp only
 refine wB (wpAny_field hr rfl (x:=.ref t) rfl ?_);refine wB (wpAny_field hr rfl (x:=rawInt (i:Int)) rfl ?_);show wpAny _ _ (if(i:Int) < 0 then _ else _) _ _ s;rw[iN (by lia)];refine wB (wpAny_specialOf ht.typeIs F.slot_tuple_getitem.lookup ?_);refine wpAny_ite_split (λhab=>absurd hab (by decide)) (λ_=>?_);refine wB (wpAny_mkInt' ?_);refine wB (wpAny_attempt (PyProof.Rows.getItem_tuple (j:=i) (x:=x) (by exact ht) (by lia) (by lia) (Zj hi) hx ?_))
 try dsimp only
 refine wB (wpAny_field (s:={s with toks:=_}) hr rfl (x:=rawInt (i:Int)) rfl ?_)
 try dsimp only
 refine wB (wpAny_setField hr rfl (by simp) ?_);refine wP ⟨x,rfl,wP (hQ _ _ ?_ (Heap.SameBut.update ..))⟩;exact Heap.get?_update_self _ hr rfl
theorem Wy{items:Array Value}{Q:Option Value->Shared->Prop}(hh:A.handled=none)(hr:s.heap.get? r=some (CL t (-1)))
 (hQ:∀h' tk,Heap.ExtBut r s.heap h'->Q none {s with heap:=h',toks:=tk}):wpAny (model prog w) A (pyNext (.ref r)) Q E s:=by
 unfold pyNext
 refine wB (wpAny_attempt (wpAny_callSpecial?_slot (name:=Str.ofString "__next__") (BV hr) RV.slot_next
  (wpAny_call_entry RV.slot_next (BV hr) RV.entry_next ?_ (RV.args_next _))))
 unfold Builtin.«reversed.__next__»;refine wB (wpAny_of_eq (a:=(Value.ref r,[])) rfl ?_)
 try dsimp only
 refine wB (wpAny_field hr rfl (x:=.ref t) rfl ?_);refine wB (wpAny_field hr rfl (x:=rawInt (-1)) rfl ?_);show wpAny _ _ (if(-1:Int) < 0 then _ else _) _ _ s;rw[iP (by decide)];refine wB (wpAny_rule ?_);refine wB ?_
 wp_delta
 refine wB (wpAny_setField hr rfl (by simp) ?_);have hr2:=Heap.get?_update_self (Obj.mapFields λxs=>xs.setIfInBounds 1 (rawInt (-1))) hr rfl;refine wpAny_setField (s:={s with heap:=_}) hr2 rfl (by simp) ?_;refine wB ?_;show wpAny _ _ (newExc (.type "StopIteration") [] >>= _) _ _ _;refine wB ?_;simp only[newExc,newTuple];refine wB (wpAny_newObj_type ?_ (by size_fits));refine wB (m:=firstArgMember _ _) (wpAny_of_eq (a:=Value.none) (by first|rfl|(simp only[firstArgMember];rfl)) ?_);refine wpAny_newObj_type ?_ (by size_fits);simp only[raiseNew];refine wB (wpAny_handled ?_)
 first|rw[show A.in1.handled=none from hh]|rw[hh]
 refine wB (wP (wpAny_throw ?_));refine wB (wpAny_isInstance (T:="StopIteration") (b:=true) ⟨_,Heap.get?_push_size _ rfl,rfl⟩ isSubtype_stop ?_);refine wP (hQ _ _ ?_);refine Heap.ExtBut.push ?_ _;refine Heap.ExtBut.push ?_ _;intro b o hb e;exact(Heap.get?_update_other _ _ (Ne.symm hb)).trans ((Heap.get?_update_other _ _ (Ne.symm hb)).trans e)
theorem SW{items:Array Value}{Q:Bool->Shared->Prop}(hr:s.heap.get? r=some (CL t ((items.size:Int) - 1)))(ht:IsTup s.heap t items)(hz:items.size<=sizeLine)
 (h:∀b tk,Q b {s with toks:=tk}):wpAny (model prog w) A (Builtin.List.listLengthHint (.ref r)) Q E s:=by
 have hz':(items.size:Int) < 2 ^ 63:=by rw[sizeLine_eq]at hz;lia
 unfold Builtin.List.listLengthHint;refine wB (wpAny_specialOf (BV hr) RV.J5 ?_)
 try dsimp only
 refine wpAny_ite_split (λhab=>absurd hab (by decide +kernel)) (λ_=>?_);refine wpAny_ite_split (λhab=>absurd hab (by decide)) (λ_=>?_);refine wB (wpAny_specialOf (BV hr) RV.Es.lookup ?_);generalize hid:("reversed.__length_hint__":String)=id0
 try dsimp only
 rw[show splitId id0=some ("reversed","__length_hint__")from by subst hid;decide +kernel];subst hid
 try dsimp only
 refine wB (wpAny_isInstance (T:="reversed") (b:=true) (BV hr) F.sub_reversed_self ?_);refine wpAny_ite_split (λhab=>absurd hab (by decide)) (λ_=>?_);refine wpAny_ite_split (λhab=>absurd hab (by decide +kernel)) (λ_=>?_);refine wB (wpAny_rule ?_);refine wB (wpAny_of_eq (RV.Es.bind _) ?_)
 try dsimp only
 refine wB (wpAny_attempt (wpAny_call_entry RV.Es (BV hr) RV.Hr ?_ (RV.IB _)));unfold Builtin.«reversed.__length_hint__»;refine wB (wpAny_of_eq (a:=Value.ref r) rfl ?_);refine wB (wpAny_field hr rfl (x:=.ref t) rfl ?_);refine wpAny_ite_split (λhab=>absurd hab (by intro z;cases z)) (λ_=>?_);refine wB (len_tuple ht hz' ?_);refine wB (m:=asInt? _) (wP ?_)
 try dsimp only
 refine wB (wpAny_field (s:={s with toks:=_}) hr rfl (x:=rawInt ((items.size:Int)-1)) rfl ?_);show wpAny _ _ (if(items.size:Int) < (items.size:Int)-1+1 then _ else _) _ _ _;rw[iN (by lia)];refine wB (wpAny_mkInt' (wP ⟨_,rfl,?_⟩))
 try dsimp only
 refine wB (m:=asInt? _) (wP ?_)
 try dsimp only
 have e1:(items.size:Int)-1+1=(items.size:Int):=by lia
 rw[e1]
 have hfit:Builtin.List.listFitsIndex (items.size:Int)=true:=by
  have h2:(-(2 ^ 63):Int)<=(items.size:Int):=by lia
  simp only[Builtin.List.listFitsIndex,bA,decide_eq_true_eq];exact⟨h2,hz'⟩
 have hneg:¬((items.size:Int) < 0):=by lia
 have hlong:Builtin.List.listTooLong ((items.size:Int).toNat)=false:=by
  rw[Int.toNat_natCast];unfold Builtin.List.listTooLong;exact dF (by lia)
 simp only[hfit,hneg,hlong,Bool.not_true,Bool.false_eq_true,if_false];exact wP (h _ _)
theorem Pn(hh:A.handled=none)(I t:Addr)(hne:t≠I)(items:Array Value)(hz:(items.size:Int) < 2 ^ 63):
 Walks prog w A I [I,t] [I] items.size (λi v=>items[items.size-1-i]? =some v) (λi h=>i<=items.size/\h.get? I=some (CL t ((items.size:Int)-1-(i:Int)))/\IsTup h t items) where
 sub:=λb hb=>by simp at hb;simp[hb]
 frame:=λ_ _ _ x hk=>⟨x.1,hk I (by simp) _ x.2.1,let⟨o,ho,q⟩:=x.2.2;⟨o,hk t (by simp) o ho,q⟩⟩
 item:=λi s Q E hi x hQ=>by
  have e:(items.size:Int)-1-(i:Int)=((items.size-1-i:Nat):Int):=by lia
  have hit:=x.2.1;rw[e]at hit;have hx:items[items.size-1-i]? =some (items[items.size-1-i]'(by lia)):=Array.getElem?_eq_getElem (by lia);refine SU hit x.2.2 hx hz λh' tk hit' hs'=>?_
  have e2:((items.size-1-i:Nat):Int)-1=(items.size:Int)-1-((i+1:Nat):Int):=by lia
  rw[e2]at hit';exact hQ _ h' tk hx ⟨hi,hit',x.2.2.extBut hs'.extBut hne⟩ λb o hb eo=>hs'.extBut b o (λh=>hb (by simp[h])) eo
 done:=λs Q E x hQ=>by
  have e:(items.size:Int)-1-(items.size:Int)= -1:=by lia
  have hit:=x.2.1;rw[e]at hit;exact Wy (items:=items) hh hit λh' tk he'=>hQ h' tk λb o hb eo=>he' b o (λh=>hb (by simp[h])) eo
 self:=λ_ _ _ _ x hQ=>MH x.2.1 hQ
variable{R:Result->Shared->Prop}
theorem NX{items:Array Value}(hh:A.handled=none)(hr:s.heap.get? r=some (CL t ((items.size:Int) - 1)))(ht:IsTup s.heap t items)(hz:items.size<=sizeLine)(hrt:t≠r)(S:Addr)(hSr:S≠r)(hSt:S≠t)(res:Value)(c₀:Nat)
 (hS:s.heap.get? S=some {cls:=.type "list",data:=.seq #[] c₀})
 (hR:∀h' tk acc' c',(∀b o,b≠S->b≠r->s.heap.get? b=some o->h'.get? b=some o)->h'.get? S=some {cls:=.type "list",dict:=none,data:=.seq acc' c',slots:=#[]}->ItemsOf (λi v=>items[items.size-1-i]? =some v) acc' items.size->R (.ok (.ret res)) {s with heap:=h',toks:=tk}):
 wpAny (model prog w) A.in1 (Builtin.List.listExtendWith (.ref S) (.ref r) res)
  (λfin s'=>match fin with| .done f=>R (.ok f) s'| .again c'=>c'.quiet=true/\codeAny (model prog w) A c' R s') (λe s'=>R (.error e) s') s:=by
 have hz':(items.size:Int) < 2 ^ 63:=by rw[sizeLine_eq]at hz;lia
 have hSf:S∉[r,t]:=by simp only[mem_cons,not_mem_nil,or_false,not_or];exact⟨hSr,hSt⟩
 have W:=Pn (prog:=prog) (w:=w) (A:=A.in1) hh r t hrt items hz'
 have key:∀(h:Heap) (c₁ tk:Nat),(h.get? r=some (CL t ((items.size:Int) - 1))/\IsTup h t items)->(∀b o,b≠S->s.heap.get? b=some o->h.get? b=some o)->
  h.get? S=some {cls:=.type "list",data:=.seq #[] c₁}->codeAny (model prog w) A (.builtin "list.extend.loop" ⟨[.ref S,.ref r,res],[]⟩) R {s with heap:=h,toks:=tk}:=by
  intro h c₁ tk hst hk hS₁;refine codeAny_extend_loopS W.toS hz S hSf res items.size 0 _ #[] c₁ rfl (Nat.zero_le _) ⟨Nat.zero_le _,by simpa using hst.1,hst.2⟩ hS₁ (ItemsOf.nil _) λs' acc' c' hm hS' hacc=>?_
  have hb0:=λb o (hb:b≠S) (hb2:b≠r) (e:s.heap.get? b=some o)=>hm.heap b o (λhmem=>by
   rcases mK hmem with e'|hmem
   .exact hb e'
   .exact hb2 (mE hmem)) (hk b o hb e)
  rw[Moved.eq_with hm];exact hR s'.heap s'.toks acc' c' hb0 hS' hacc
 unfold Builtin.List.listExtendWith;refine wB (wpAny_typeOf (T:="reversed") (BV hr) ?_);have h1:Builtin.List.listSameRef (.ref S) (.ref r)=false:=by simp[Builtin.List.listSameRef,hSr]
 have h2:(Value.type "reversed" == Value.type "list")=false:=by decide
 have h3:(Value.type "reversed" == Value.type "tuple")=false:=by decide
 simp only[h1,h2,h3,Bool.or_false,Bool.false_eq_true,if_false];refine wB (MH hr ?_);refine wB (wpAny_holding (SW hr ht hz λb tk=>?_));refine wpAny_ite_split (λ_=>?_) (λ_=>wP ⟨plainId_quiet PySem.F.plain_extend_loop _,key _ c₀ _ ⟨hr,ht⟩ (λb o _ e=>e) hS⟩);refine wB (wpAny_rule ?_);refine wB ?_;show wpAny _ _ (updateSeq S (·.push .none) >>= λ_=>updateSeq S (·.pop)) _ _ _;refine wB (wpAny_updateSeq hS rfl ?_);have hS₂:=Heap.get?_update_self (Obj.mapSeq (·.push Value.none)) hS rfl;refine wpAny_updateSeq (hz:=by seq_fits) hS₂ rfl ?_;have hS₃:=Heap.get?_update_self (Obj.mapSeq (·.pop)) hS₂ rfl
 have oth:∀b o,b≠S->s.heap.get? b=some o->((s.heap.update S (Obj.mapSeq (·.push Value.none))).update S (Obj.mapSeq (·.pop))).get? b=some o:=λb o hb e=>
  (Heap.get?_update_other _ _ (Ne.symm hb)).trans ((Heap.get?_update_other _ _ (Ne.symm hb)).trans e)
 refine wP ⟨plainId_quiet PySem.F.plain_extend_loop _,key _ _ _ ⟨oth _ _ (Ne.symm hSr) hr,?_⟩ oth hS₃⟩;obtain⟨o,ho,q⟩:=ht;exact⟨o,oth _ _ (Ne.symm hSt) ho,q⟩
theorem SV{items:Array Value}(hh:A.handled=none)(hr:s.heap.get? r=some (CL t ((items.size:Int) - 1)))(ht:IsTup s.heap t items)(hz:items.size<=sizeLine)(hrt:t≠r)(S:Addr)(hSr:S≠r)(hSt:S≠t)
 (hS:s.heap.get? S=some {cls:=.type "list",data:=.seq #[]})
 (hR:∀h' tk acc' c',(∀b o,b≠S->b≠r->s.heap.get? b=some o->h'.get? b=some o)->h'.get? S=some {cls:=.type "list",dict:=none,data:=.seq acc' c',slots:=#[]}->ItemsOf (λi v=>items[items.size-1-i]? =some v) acc' items.size->R (.ok (.ret .none)) {s with heap:=h',toks:=tk}):
 wpAny (model prog w) A.in1 (Builtin.«list.__init__» ⟨[.ref S,.ref r],[]⟩)
  (λfin s'=>match fin with| .done f=>R (.ok f) s'| .again c'=>c'.quiet=true/\codeAny (model prog w) A c' R s') (λe s'=>R (.error e) s') s:=by
 show wpAny _ _ (do let old <-Builtin.List.listItems (.ref S);Builtin.List.listUpdate (.ref S) (λ_=>#[]);letGo old.toList.reverse;Builtin.List.listExtendWith (.ref S) (.ref r) .none) _ _ s;refine wB ?_;unfold Builtin.List.listItems;refine wB (wpAny_seqItems hS rfl (wP ?_));show wpAny _ _ (updateSeq S (λ_=>#[]) >>= λ_=>letGo (#[]:Array Value).toList.reverse >>= λ_=>Builtin.List.listExtendWith (.ref S) (.ref r) .none) _ _ s;refine wB (wpAny_updateSeq hS rfl ?_);have hS₂:=Heap.get?_update_self (Obj.mapSeq (λ_=>(#[]:Array Value))) hS rfl
 have oth:∀b o,b≠S->s.heap.get? b=some o->(s.heap.update S (Obj.mapSeq (λ_=>(#[]:Array Value)))).get? b=some o:=
  λb o hb e=>(Heap.get?_update_other _ _ (Ne.symm hb)).trans e
 refine wB (wpAny_letGo ?_);refine NX (s:={s with heap:=_}) hh (oth _ _ (Ne.symm hSr) hr) (let⟨o,ho,q⟩:=ht;⟨o,oth _ _ (Ne.symm hSt) ho,q⟩) hz hrt S hSr hSt .none _ hS₂ (λh' tk acc' c' hk hS' hacc=>?_);exact hR h' tk acc' c' (λb o hb hb2 e=>hk b o hb hb2 (oth b o hb e)) hS' hacc
theorem SS{Q:Value->Shared->Prop}{items:Array Value}(hh:A.handled=none)(hr:s.heap.get? r=some (CL t ((items.size:Int) - 1)))(ht:IsTup s.heap t items)(hz:items.size<=sizeLine)(hrt:t≠r)
 (hQ:∀h' tk acc' c',(∀b o,b≠r->s.heap.get? b=some o->h'.get? b=some o)->h'.get? s.heap.objs.size=some {cls:=.type "list",dict:=none,data:=.seq acc' c',slots:=#[]}->ItemsOf (λi v=>items[items.size-1-i]? =some v) acc' items.size->Q (.ref s.heap.objs.size) {s with heap:=h',toks:=tk}):
 wpAny (model prog w) A (call (.type "list") [.ref r]) Q E s:=by
 refine callType_codes (Q₁:=λobj s₁=>obj= .ref s.heap.objs.size/\s₁={s with heap:=s.heap.push {cls:=.type "list",data:=.seq #[]}}) PySem.F.called_list (PySem.F.typeCall_list_1 _) PySem.F.entry_list_init
  (code_list_new _ ⟨rfl,rfl⟩) λobj s₁ h₁=>?_
 obtain⟨rfl,rfl⟩:=h₁;have hS:(s.heap.push {cls:=.type "list",data:=.seq #[]}).get? s.heap.objs.size=some {cls:=.type "list",data:=.seq #[]}:=Heap.get?_push_size _ rfl;have lt1:=Heap.lt_size hr;have lt2:t < s.heap.objs.size:=let⟨o,ho,_⟩:=ht;Heap.lt_size ho;refine⟨⟨_,hS,rfl⟩,PySem.F.args_list_init_2 _ _,SV (A:=A.in1) (s:={s with heap:=_}) hh (gP hr) (let⟨o,ho,q⟩:=ht;⟨o,gP ho,q⟩) hz hrt _ (Nat.ne_of_gt lt1) (Nat.ne_of_gt lt2) hS (λh' tk acc' c' hk hS' hacc=>?_)⟩;exact⟨rfl,hQ h' tk acc' c' (λb o hb e=>hk b o (Nat.ne_of_lt (Heap.lt_size e)) hb (gP e)) hS' hacc⟩
end PySem
namespace L2
open PySem PySem.Spec PyProof.Rows
section
variable{X:Cx}{tg e:Expr}{pos p p1 p2 p3:Pos}{ta te:TE}
def dD(K:PySem.W.Frag)(a:Addr)(xs:List V):It:=
 ⟨λi H=>i < xs.length/\Dk K H a xs,λi H x H'=>H'=H/\xs[xs.length-1-i]? =some x,λi H=>xs.length<=i⟩
theorem OZ{P:Program}{w:World}{K:PySem.W.Frag}{tg:Expr}(a it:Addr)(xs:List V):Turn P w K tg (dD K a xs) [it] it (λi h=>i<=xs.length/\h.IsRevIter it a ((xs.length:Int) - 1 - (i:Int))) where
 mem:=by simp
 obj:=λi h st b hb=>by
  have e:b=it:=by simpa using hb
  subst e;obtain⟨_,o,e,c,d⟩:=st;exact⟨o,e,λv z=>by rw[d]at z;cases z⟩
 keep:=λi h h' st k=>⟨st.1,st.2.at λo e=>k it (by simp) o e⟩
 item:=by
  intro X hP hw hK hc i pins s σ H E I hf st hg;subst hP hw hK;obtain⟨hi,hq⟩:=hg;obtain⟨its,rv,p,hz⟩:=I.list hq;have hlen:=rv.length;have hx:xs[xs.length-1-i]? =some (xs[xs.length-1-i]'(by lia)):=List.getElem?_eq_getElem (by lia);obtain⟨u,hu,ru⟩:=rv.get hx;obtain⟨f0,f1,f2,f3,f4,f5⟩:=hf it (by simp);have e1:(xs.length:Int)-1-(i:Int)=((xs.length-1-i:Nat):Int):=by lia
  have st2:=st.2;rw[e1]at st2;refine wpAny_pyNext_rev_item st2 p.isList (x:=u) (by simpa using hu) λh' st' sb=>?_
  have e2:((xs.length-1-i:Nat):Int)-1=(xs.length:Int)-1-((i+1:Nat):Int):=by lia
  rw[e2]at st';have I1:Inv X pins σ H {s with heap:=h'}:=I.turned (t':=s.toks) (λb o hb e=>(sb.2 b hb).trans e) f0 f1 f3 f4 f5;obtain⟨o,e,c,d⟩:=id st';exact⟨u,rfl,Hn (s:={s with heap:=h'}) e c d (by decide) ⟨_,H,I1,ru,⟨rfl,hx⟩,⟨hi,st'⟩,λb hb=>(hf b hb).1⟩⟩
 done:=by
  intro X hP hw hK hc i pins s σ H E I hf st hg;subst hP hw hK;have hg:xs.length<=i:=hg;have hi:i=xs.length:=Nat.le_antisymm st.1 hg;obtain⟨f0,f1,f2,f3,f4,f5⟩:=hf it (by simp);have st2:=st.2;rw[show(xs.length:Int)-1-(i:Int)= -1 by lia]at st2;exact wpAny_pyNext_rev_end (I.ok.hd hc) st2 λh' eb=>⟨rfl,I.turned (t':=s.toks) (λb o hb e=>eb b o hb e) f0 f1 f3 f4 f5⟩
 self:=λ_ _ _ _ _ st h=>wpAny_pyIter_revIter st.2 h
def dk(K:PySem.W.Frag)(tl:TE):TI:=λσ H R=>tl σ H λx H1=>∃a xs,x= .ref a/\Dk K H1 a xs/\R (dD K a xs) H1
theorem cF{tl:TE}(hg:Gl X "reversed")(hm:X.mg "reversed"=none)(hl:PE X l tl)(hs:starEach [l] X.env=[(false,eval l X.env)]:=by rfl):PI X tg (.Call (.Name "reversed" p) [l] [] pos) (dk X.K tl):=by
 intro pins s σ H R I h;have h':CJ tl Gm σ H (λvs H1=>match vs with|[x]=>(∃a xs,x= .ref a/\Dk X.K H1 a xs/\R (dD X.K a xs) H1)|_=>False):=h;refine Call_ (CP I hg hm boot_reversed (PyProof.Rows.callWith_type1 (Bf (D7 hl EW hs pos pins s σ H _ I h') λus s1 ⟨vs,H1,I1,r1,q1⟩=>?_) hs rfl))
 match vs,r1,q1 with
 |[x],r1,q1=>
   obtain⟨u,rfl,ru⟩:=vals1 r1;obtain⟨a,xs,rfl,hq,q⟩:=q1;cases ru;obtain⟨its,rv,pl,hz⟩:=I1.list hq;have hlen:=rv.length;refine call_reversed_list pl.isList ?_;have e0:(its.toArray.size:Int)-1=(xs.length:Int)-1:=by rw[size_toArray,hlen]
   rw[e0];have st:(s1.heap.push (revObj a ((xs.length:Int)-1))).IsRevIter s1.heap.objs.size a ((xs.length:Int)-1-((0:Nat):Int)):=⟨_,Heap.get?_push_size _ rfl,rfl,by simp[revObj]⟩;refine wpAny_pyIter_revIter st ?_;refine⟨s1.heap.objs.size,[s1.heap.objs.size],_,_,H1,rfl,I1.kept (t':=s1.toks) λb o e=>gP e,OZ a _ xs,⟨Nat.zero_le _,st⟩,λb hb=>?_,q⟩;have e:b=s1.heap.objs.size:=by simpa using hb
   subst e;exact I1.M8 (lR) (I1.Af.fresh (lR))
def eY(K:PySem.W.Frag)(ta:TE):TE:=λσ H Q=>ta σ H λx H1=>∃t xs,x= .ref t/\El K H1 t xs/\∀l,H1 l=none->Q (.ref l) (upd H1 l (.lst xs.reverse))
theorem LF(hc:X.calm=true)(hg1:Gl X "list")(hm1:X.mg "list"=none)(hg2:Gl X "reversed")(hm2:X.mg "reversed"=none)(he:PE X e te)(hs2:starEach [e] X.env=[(false,eval e X.env)]:=by rfl)
 (hs1:starEach [.Call (.Name "reversed" p2) [e] [] p3] X.env=[(false,eval (.Call (.Name "reversed" p2) [e] [] p3) X.env)]:=by rfl):
 PE X (.Call (.Name "list" p1) [.Call (.Name "reversed" p2) [e] [] p3] [] pos) (eY X.K te):=by
 intro pins s σ H Q I h;refine wpAny_Call_Name_kw (CP I hg1 hm1 boot_list ?_ (by decide) (by decide));refine PyProof.Rows.callWith_type1 ?_ hs1 rfl;rw[hs1];show wpAny _ _ (spliced ((false,eval (.Call (.Name "reversed" p2) [e] [] p3) X.env)::backTo pos [])) _ _ s;refine Calls.spliced_cons ?_;refine wpAny_Call_Name_kw (CP I hg2 hm2 boot_reversed ?_ (by decide) (by decide));have h':CJ te Gm σ H (λvs H1=>match vs with|[x]=>(∃t xs,x= .ref t/\El X.K H1 t xs/\∀l,H1 l=none->Q (.ref l) (upd H1 l (.lst xs.reverse)))|_=>False):=h;refine PyProof.Rows.callWith_type1 (Bf (D7 he EW hs2 p3 pins s σ H _ I h') λus s1 ⟨vs,H1,I1,r1,q1⟩=>?_) hs2 rfl
 match vs,r1,q1 with
 |[x],r1,q1=>
   obtain⟨u,rfl,ru⟩:=vals1 r1;obtain⟨t,xs,rfl,hq,q⟩:=q1;cases ru;obtain⟨its,rv,pl,hz⟩:=I1.tuple hq;have hlen:=rv.length;have hzs:its.toArray.size<=sizeLine:=by rw[size_toArray];lia
   refine UE pl (by rw[size_toArray];have:=FN;lia) λtk=>?_
   refine Calls.spliced_nil ?_;have lt:t < s1.heap.objs.size:=let⟨o,ho,_⟩:=pl;Heap.lt_size ho;refine SS (t:=t) (items:=its.toArray) (I1.ok.hd hc) (Heap.get?_push_size _ rfl) (let⟨o,ho,z⟩:=pl;⟨o,gP ho,z⟩) hzs (Nat.ne_of_lt lt) λh' tk' acc c' hk hS hacc=>?_
   have hD:s1.heap.objs.size<=(s1.heap.push (CL t ((its.toArray.size:Int)-1))).objs.size:=by rw[Heap.size_push];exact Nat.le_succ _
   have eacc:acc.toList=its.reverse:=by
    apply ext_getElem?;intro j;have hsz:acc.size=its.length:=by rw[hacc.1,size_toArray]
    by_cases hj:j < its.length
    .have ha:acc.toList[j]? =some (acc[j]'(by lia)):=by simp[hsz,hj]
     have hP:=hacc.2 j (acc[j]'(by lia)) (by simp[hsz,hj]);rw[ha,List.getElem?_reverse hj];have hP:its.toArray[its.toArray.size-1-j]? =some (acc[j]'(by lia)):=hP;rw[size_toArray,List.getElem?_toArray]at hP;rw[<-hP]
    .rw[List.getElem?_eq_none (by simp;lia),List.getElem?_eq_none (by simp;lia)]
   refine⟨.ref (s1.heap.push (CL t ((its.toArray.size:Int)-1))).objs.size,_,I1.laid (t':=tk') (o:=.lst xs.reverse) (λb o e=>hk b o (Nat.ne_of_lt (Heap.lt_size e)) (gP e)) hD ?_,rfl,q _ (I1.Af.fresh hD)⟩;refine⟨by rw[length_reverse];exact hz,its.reverse,c',rv.reverse,?_⟩;rw[hS,<-eacc]
def cw:V->Option Int->Option Int->Hp->VK->Prop:=λx lo hi H Q=>∃y,x= .str y/\y.length<=sizeLine/\Q (.str (Txt.slice y lo hi)) H
theorem Pf:YW X cw:=by
 intro pins s σ H x v vl vu lo hi sl Q I rx hs pl pu h;obtain⟨y,rfl,hz,q⟩:=h;obtain⟨t,rfl⟩:=rx;refine⟨"str",_,F.slot_str_getitem.lookup,typeIs_str _ _ _,?_⟩;have fin:∀t' k,EP X pins σ Q (.str (Txt.slice y lo hi) t') {s with toks:=k}:=λt' k=>⟨.str (Txt.slice y lo hi),H,I.tok k,⟨t',rfl⟩,q⟩
 obtain⟨o,h1,h2,h3⟩:=hs;cases pl with
 |none=>
   cases pu with
   |none=>exact wpAny_getItem_str_slice (l:=none) (u:=none) (st:=none) ⟨o,h1,h2,h3⟩ rfl (post_val_or_str ⟨Nat.le_trans (Txt.slice_le y _ _) hz,fin⟩)
   |int j u=>exact wpAny_getItem_str_slice (l:=none) (u:=some (j,u)) (st:=none) ⟨o,h1,h2,h3⟩ rfl (post_val_or_str ⟨Nat.le_trans (Txt.slice_le y _ _) hz,fin⟩)
 |int i u=>
   cases pu with
   |none=>exact wpAny_getItem_str_slice (l:=some (i,u)) (u:=none) (st:=none) ⟨o,h1,h2,h3⟩ rfl (post_val_or_str ⟨Nat.le_trans (Txt.slice_le y _ _) hz,fin⟩)
   |int j u'=>exact wpAny_getItem_str_slice (l:=some (i,u)) (u:=some (j,u')) (st:=none) ⟨o,h1,h2,h3⟩ rfl (post_val_or_str ⟨Nat.le_trans (Txt.slice_le y _ _) hz,fin⟩)
theorem KZ(hc:X.calm=true):AW X (.builtin "all") (λxs H Q=>∃(l:Addr) (bs:List Bool),xs=[.ref l]/\Dk X.K H l (bs.map V.bl)/\Q (.bl (bs.all id)) H):=by
 intro pins s σ H xs us Q I r h;obtain⟨l,bs,rfl,hq,q⟩:=h;obtain⟨u,rfl,ru⟩:=vals1 r;cases ru;obtain⟨its,rv,pl,hz⟩:=I.list hq;have hlen:=rv.length;rw[lM]at hlen;refine call_all_walk (wpAny_pyIter_list pl.isList ?_);have lt:l < s.heap.objs.size:=Heap.lt_size pl.isList.choose_spec.1;refine⟨_,_,_,_,_,_,λi=>(bs[i]?).getD true,rfl,Walks.list (A:=X.A.in1) (show X.A.in1.handled=none from I.ok.hd hc) _ l (Nat.ne_of_lt lt) its.toArray,⟨⟨_,Heap.get?_push_size _ rfl,rfl,rfl⟩,pl.isList.at λo e=>gP e⟩,?_,λh' tk hk=>?_⟩
 .intro i v s' Q' E' hP hQ;have hP:its.toArray[i]? =some v:=hP;rw[List.getElem?_toArray]at hP
  have hi:i < bs.length:=by
   have:=(List.getElem?_eq_some_iff.mp hP).1
   lia
  have hb:(bs.map V.bl)[i]? =some (.bl bs[i]):=by rw[List.getElem?_map,List.getElem?_eq_getElem hi];rfl
  obtain⟨u,hu,ru⟩:=rv.get hb;have:u=v:=Option.some.inj (hu.symm.trans hP);subst this;cases ru;refine wpAny_truthy_bool ?_;have e:(bs[i]?).getD true=bs[i]:=by rw[List.getElem?_eq_getElem hi];rfl
  have hQ:Q' ((bs[i]?).getD true) s':=hQ;rw[e]at hQ;exact hQ
 .have e:(List.range its.toArray.size).all (λi=>(bs[i]?).getD true)=bs.all id:=by
   rw[size_toArray,<-hlen];rw[Bool.eq_iff_iff,all_eq_true,all_eq_true];constructor
   .intro h b hb;obtain⟨i,hi,e⟩:=mem_iff_getElem.mp hb;have:=h i (mem_range.mpr hi);rw[List.getElem?_eq_getElem hi,e]at this;exact this
   .intro h i hi;have hi:=mem_range.mp hi;have:=h bs[i] (getElem_mem hi);rw[List.getElem?_eq_getElem hi];exact this
  have ee:EP X pins σ Q (.bool (bs.all id)) {s with heap:=h',toks:=tk}:=by
   refine⟨.bl (bs.all id),H,I.kept (t':=tk) λb o e=>hk b o (λz=>?_) (gP e),rfl,q⟩;exact absurd (Heap.lt_size e) (by rw[mE z];exact Nat.lt_irrefl _)
  rw[e];exact ee
theorem G7{ns:List Int}:∀{n:Nat},n<=ns.length->preSum (λi=>(ns[i]?).getD 0) n=(ns.take n).sum
 |0,_=>by simp[preSum]
 | n + 1,h=>by
   have ih:=G7 (ns:=ns) (n:=n) (by lia);show preSum _ n+(ns[n]?).getD 0=_;rw[ih,List.take_succ,List.sum_append,List.getElem?_eq_getElem (by lia)];simp
theorem JB(hc:X.calm=true):AW X (.builtin "sum") (λxs H Q=>∃(l:Addr) (ns:List Int),xs=[.ref l]/\Dk X.K H l (ns.map V.int)/\Q (.int ns.sum) H):=by
 intro pins s σ H xs us Q I r h;obtain⟨l,ns,rfl,hq,q⟩:=h;obtain⟨u,rfl,ru⟩:=vals1 r;cases ru;obtain⟨its,rv,pl,hz⟩:=I.list hq;have hlen:=rv.length;rw[lM]at hlen;refine call_sum_walkAnyS (wpAny_pyIter_list pl.isList ?_);have lt:l < s.heap.objs.size:=Heap.lt_size pl.isList.choose_spec.1;refine⟨_,_,_,_,_,_,_,λi=>(ns[i]?).getD 0,rfl,(Walks.list (A:=X.A.in1) (show X.A.in1.handled=none from I.ok.hd hc) _ l (Nat.ne_of_lt lt) its.toArray).toS,⟨⟨_,Heap.get?_push_size _ rfl,rfl,rfl⟩,pl.isList.at λo e=>gP e⟩,λb hb=>?_,λi v hP=>?_,λs' t' hm=>?_⟩
 .have hb:b=s.heap.objs.size\/b=l:=by simpa using hb
  show b < (s.heap.push _).objs.size;rw[Heap.size_push];rcases hb with rfl|rfl
  .exact Nat.lt_succ_self _
  .exact Nat.lt_succ_of_lt lt
 .have hP:its.toArray[i]? =some v:=hP;rw[List.getElem?_toArray]at hP
  have hi:i < ns.length:=by
   have:=(List.getElem?_eq_some_iff.mp hP).1
   lia
  have hb:(ns.map V.int)[i]? =some (.int ns[i]):=by rw[List.getElem?_map,List.getElem?_eq_getElem hi];rfl
  obtain⟨u,hu,ru⟩:=rv.get hb;have:u=v:=Option.some.inj (hu.symm.trans hP);subst this;obtain⟨t,e⟩:=ru;exact⟨t,by rw[e];show Value.int ns[i] t=Value.int ((ns[i]?).getD 0) t;rw[List.getElem?_eq_getElem hi];rfl⟩
 .rw[Moved.eq_with hm]
  have e:preSum (λi=>(ns[i]?).getD 0) its.toArray.size=ns.sum:=by
   rw[size_toArray,<-hlen,G7 (lR),take_length]
  rw[e];refine⟨.int ns.sum,H,I.kept (t':=s'.toks) λb o e=>hm.heap b o (λz=>?_) (gP e),⟨t',rfl⟩,q⟩;exact absurd (Heap.lt_size e) (by rw[mE z];exact Nat.lt_irrefl _)
end
variable{g:TG}{te:TE}{σ:St}{H:Hp}{Q:List V->Hp->Prop}{K:PySem.W.Frag}{a:Addr}{xs:List V}
end L2
namespace L2
open PySem PySem.Spec PyProof.Rows
section
variable{X:Cx}{tg e:Expr}{pos p p1 p2 p3:Pos}{ta te:TE}
def dE(lo c:Int)(n:Nat):It:=⟨λi _=>i < n,λi H x H'=>H'=H/\x= .int (lo+i*c),λi _=>n<=i⟩
theorem JP{P:Program}{w:World}{K:PySem.W.Frag}{tg:Expr}(it:Addr)(lo c:Int)(n:Nat):Turn P w K tg (dE lo c n) [it] it (λi h=>IsRangeIter h it (lo + (i:Nat) * c) ((n:Int) - (i:Nat)) c) where
 mem:=by simp
 obj :=λi h st b hb=>by
  have e:b=it:=by simpa using hb
  subst e
  exact⟨_,st,λv z=>by
   have z':Data.fields _=Data.cell v:=z
   cases z'⟩
 keep:=λi h h' st k=>k it (by simp) _ st
 item:=by
  intro X hP hw hK hc i pins s σ H E I hf st hg;subst hP hw hK;obtain⟨f0,f1,f2,f3,f4,f5⟩:=hf it (by simp);have W:=Walks.range (prog:=X.prog) (w:=X.w) (I.ok.hd hc) it lo c n;refine W.item i s _ _ hg st λv h' tk hv st' kk=>?_
  obtain⟨t,rfl⟩:=hv;have I1:Inv X pins σ H {s with heap:=h',toks:=tk}:=I.turned (λb o hb e=>kk b o (by simpa using hb) e) f0 f1 f3 f4 f5;exact⟨_,rfl,Hn (s:={s with heap:=h',toks:=tk}) (n:="range_iterator") st' rfl rfl (by decide) ⟨.int (lo+i*c),H,I1,⟨t,rfl⟩,⟨rfl,rfl⟩,st',λb hb=>(hf b hb).1⟩⟩
 done:=by
  intro X hP hw hK hc i pins s σ H E I hf st hg;subst hP hw hK;obtain⟨f0,f1,f2,f3,f4,f5⟩:=hf it (by simp);exact wpAny_pyNext_range_end (I.ok.hd hc) st (by have:n<=i:=hg;lia) λh' eb=>⟨rfl,I.turned (t':=s.toks) (λb o hb e=>eb b o hb e) f0 f1 f3 f4 f5⟩
 self:=λ_ _ _ _ _ st h=>wpAny_pyIter_rangeiter st h
def aD(ta:TA):TI:=λσ H R=>ta σ H λvs H1=>∃(i j k:Int) (n:Nat),vs=[.int i,.int j,.int k]/\0 < k/\k < 1000000/\Builtin.Range.small i j k=true/\Builtin.Range.rangeSize i j k=n/\R (dE i k n) H1
theorem O6{a b c:Expr}{ta:TA}{p pos:Pos}(hg:Gl X "range")(hm:X.mg "range"=none)(ha:PA X [a,b,c] ta)(hs:starEach [a,b,c] X.env=[(false,eval a X.env),(false,eval b X.env),(false,eval c X.env)]:=by rfl)
 (hs2:starEach [b,c] X.env=[(false,eval b X.env),(false,eval c X.env)]:=by rfl):PI X tg (.Call (.Name "range" p) [a,b,c] [] pos) (aD ta):=by
 intro pins s σ H R I h;refine Call_ (CP I hg hm boot_range (PyProof.Rows.callWith_type1 (Bf (ha pos pins s σ H _ I h) λus s1 ⟨vs,H1,I1,r1,q1⟩=>?_) (by rw[hs,hs2]) (by rw[hs2];rfl)));obtain⟨i,j,k,n,e,q1,q2,q3,q4,q⟩:=q1;subst e;cases r1 with
 |cons r rr=>
   cases rr with
   |cons r' rr=>
     cases rr with
     |cons r'' rr=>
       cases rr;obtain⟨t,rfl⟩:=r;obtain⟨t',rfl⟩:=r';obtain⟨t'',rfl⟩:=r'';refine call_range_3 (by lia) ?_ (.inl (PyProof.noPylong_small (by lia)));have I2:Inv X pins σ H1 {s1 with heap:=s1.heap.push {cls:=.type "range",data:=.fields #[.int i t,.int j t',.int k t'']}}:=I1.kept (t':=s1.toks) λb o e=>gP e
       refine wpAny_pyIter_range (IsRange.new ..) q3 ?_;refine⟨_,[(s1.heap.push {cls:=.type "range",data:=.fields #[.int i t,.int j t',.int k t'']}).objs.size],_,_,H1,rfl,I2.kept (t':=s1.toks) λb o e=>gP e,JP _ i k n,?_,λb hb=>?_,q⟩
       .show IsRangeIter _ _ (i+((0:Nat):Int)*k) ((n:Int)-((0:Nat):Int)) k;rw[show i+((0:Nat):Int)*k=i by simp,show(n:Int)-((0:Nat):Int)=Builtin.Range.rangeSize i j k by rw[q4];simp];exact Heap.get?_push_size _ rfl
       .have e:b=(s1.heap.push {cls:=.type "range",data:=.fields #[.int i t,.int j t',.int k t'']}).objs.size:=by simpa using hb
        subst e;exact I2.M8 (lR) (I2.Af.fresh (lR))
end
end L2
namespace PySem
open Sem (wp)
open AutoSeq1 (wpAny_loadPart')
open PyProof.Rows
namespace LV
theorem Es:Slot "list_reverseiterator" "__length_hint__" "list_reverseiterator.__length_hint__":=
 .of (owner:="list_reverseiterator") (n:="__length_hint__") (by rw[typeLookup_type,builtinLookup_eq_fast];kernel_rfl) (by decide +kernel) (by decide +kernel) (by decide +kernel)
  (by first|exact .inl (by decide +kernel)|exact .inr (by decide +kernel)) (by rw[isSubtype_type];kernel_rfl)
theorem Hr:entryFor table "list_reverseiterator.__length_hint__"=some Builtin.«list_reverseiterator.__length_hint__»:=entryFor_of_tree (by kernel_rfl)
theorem Q5:Manifest.owners.lookup (String.ofList ['r','o','t','a','r','e','t','i','e','s','r','e','v','e','r','_','t','s','i','l'].reverse)=some Manifest.sig_list_reverseiterator:=by kernel_rfl
theorem IB(a:Value):argsOk "list_reverseiterator.__length_hint__" ⟨[a],[]⟩:=by
 unfold argsOk;rw[signature?_of (id:="list_reverseiterator.__length_hint__") (n:=['_','_','t','n','i','h','_','h','t','g','n','e','l','_','_']) (o:=['r','o','t','a','r','e','t','i','e','s','r','e','v','e','r','_','t','s','i','l']) (by kernel_rfl) Q5];kernel_rfl
theorem J5:typeLookup (.type "list_reverseiterator") "__len__"=pure none:=by rw[typeLookup_type,builtinLookup_eq_fast];kernel_rfl
end LV
variable{prog:Program}{w:World}{A:Around}{E:Value->Shared->Prop}{s:Shared}
end PySem
namespace HT
open PySem PyProof.Rows
variable{prog:Program}{w:World}{A:Around}{E:Value->Shared->Prop}{s:Shared}
theorem EE{sl:Addr}{items:Array Value}{vl vu:Value}{lo hi:Option Int}{Q:Value->Shared->Prop}(ht:IsTup s.heap t items)(hs:s.heap.IsSliceOf sl vl vu .none)(pl:IsPart vl lo)(pu:IsPart vu hi)
 (hw:BU items.size 0 lo=0/\BU items.size items.size hi=items.size)(h:Q (.ref t) s):wpAny (model prog w) A (getItem (.ref t) (.ref sl)) Q E s:=by
 obtain⟨os,hos,hcs,hds⟩:=id hs;have hTs:s.TypeIs (.ref sl) "slice":=⟨os,hos,hcs⟩;unfold getItem
 try with_reducible refine wpAny_holding ?_
 first|refine wB (wP ?_)|skip
 refine wB (wpAny_sequenceKey ht.typeIs (by decide) ?_)
 refine wB (wpAny_callSpecial?_slot (name:=Str.ofString "__getitem__") ht.typeIs PyProof.Rows.slot_tuple_getitem
  (wpAny_call_entry PyProof.Rows.slot_tuple_getitem ht.typeIs entry_tuple_getitem ?_ (args_tuple_getitem _ _)))
 show wpAny _ _ (Builtin.Tuple.tupleItemsOf (.ref t) >>= _) _ _ s;refine wB (tupleItemsOf_ ht ?_);refine wB (wpAny_typeOf hTs ?_);rw[iP (by decide)];refine wB (Dn hs pl pu ?_)
 have hyes:((((BU items.size 0 lo:Nat):Int) == 0 && (1:Int) == 1 && (BU items.size items.size hi - BU items.size 0 lo) == items.size)=true):=by
  rw[hw.1,hw.2];simp
 show wpAny _ _ (if(((BU items.size 0 lo:Nat):Int) == 0 && (1:Int) == 1 && (BU items.size items.size hi-BU items.size 0 lo) == items.size)=true then _ else _) _ _ s;rw[iP hyes];unfold Builtin.Tuple.tupleIsExact;refine wB (wB (wpAny_typeOf ht.typeIs (wP ?_)));rw[iP (by decide)];refine wB (wpAny_rule ?_);exact wP ⟨_,rfl,wP h⟩
end HT
namespace L2
open PySem PySem.Spec PyProof.Rows
variable{X:Cx}
def Zq(K:PySem.W.Frag):V->Option Int->Option Int->Hp->VK->Prop:=λx lo hi H Q=>∃a xs,x= .ref a/\El K H a xs/\
 (HT.BU xs.length 0 lo=0/\HT.BU xs.length xs.length hi=xs.length)/\Q (.ref a) H
theorem SK:YW X (Zq X.K):=by
 intro pins s σ H x v vl vu lo hi sl Q I rx hs pl pu h;obtain⟨a,xs,rfl,hx,hw,q⟩:=h;cases rx;obtain⟨its,r,ht,hz⟩:=I.tuple hx;have hlen:its.toArray.size=xs.length:=by rw[size_toArray];exact r.length.symm
 refine⟨"tuple",_,PyProof.Rows.slot_tuple_getitem.lookup,ht.typeIs,?_⟩;refine HT.EE ht hs pl pu (by rw[hlen];exact hw) ?_;exact⟨.ref a,_,I,rfl,q⟩
end L2
namespace Kd
open PySem L2
def dd(ks:List Int)(n:Int):List Int:=if n∈ks then ks else ks++[n]
theorem Pe{x:Str}{j:Int}(h0:0<=j)(h1:j<=x.length):Txt.slice x none (some j)=⟨((x.cps.toList.drop 0).take j.toNat).toArray⟩:=by
 have:=eq_of_beq (PyProof.Rows.slice_closes_toL (x:=x) h0 h1);rw[this];simp
theorem Lp{x:Str}{i:Int}(h0:0<=i)(h1:i<=x.length):Txt.slice x (some i) none=⟨((x.cps.toList.drop i.toNat).take ((x.length:Int)-i).toNat).toArray⟩:=PyProof.Rows.slice_from_eq h0 h1 rfl
end Kd
namespace PySem
open Sem (wp)
open AutoSeq1 (wpAny_loadPart')
open PyProof.Rows
variable{prog:Program}{w:World}{A:Around}{E:Value->Shared->Prop}{s:Shared}
def ED(prog:Program)(w:World)(s:Shared)(v:Value):Prop:=∀(A:Around) (E:Value->Shared->Prop) (Q:Bool->Shared->Prop),Q true s->wpAny (model prog w) A (eqIsQuiet 8 v) Q E s
theorem HL{key:Value}{stored:List Value}(hk:ED prog w s key)(hs:∀v∈stored,ED prog w s v){Q:Bool->Shared->Prop}(h:Q false s):wpAny (model prog w) A (tableMayTell key stored) Q E s:=by
 unfold tableMayTell;refine wpAny_ite_split (λ_=>wP h) (λ_=>?_);refine wB (hk _ _ _ ?_);refine wpAny_ite_split (λhab=>absurd hab (by decide)) (λ_=>?_);refine wB ?_;refine wpAny_forIn_list _ (λrest b s'=>(∀v∈rest,ED prog w s v)/\b=(none,())/\s'=s) _ ?_ ?_ _ _ ⟨hs,rfl,rfl⟩
 .rintro x rest b s' ⟨hm,rfl,rfl⟩
  refine wB (hm x mS _ _ _ ?_);refine wpAny_ite_split (λhab=>absurd hab (by decide)) (λ_=>wP ?_);exact⟨λv hv=>hm v (mC hv),rfl,rfl⟩
 .rintro b s' ⟨_,rfl,rfl⟩
  exact wP h
theorem CN{es:Array DictEntry}{i:Nat}(hi:i∈placesWithHash es.size (λi=>Option.map (λx=>x.hash) es[i]?) h):∃e,es[i]? =some e/\e.hash=h:=by
 unfold placesWithHash at hi;obtain⟨h1,h2⟩:=mem_filter.mp hi;have h1:=mem_range.mp h1;refine⟨es[i],Array.getElem?_eq_getElem h1,?_⟩;have h2:(Option.map (λx=>x.hash) es[i]? == some h)=true:=h2;rw[Array.getElem?_eq_getElem h1]at h2;have h2:(some es[i].hash == some h)=true:=h2;exact Option.some.inj (eq_of_beq h2)
theorem Hc{es:Array DictEntry}{h:Int}{i:Nat}{e:DictEntry}(he:es[i]? =some e)(hh:e.hash=h):i∈placesWithHash es.size (λi=>Option.map (λx=>x.hash) es[i]?) h:=by
 unfold placesWithHash;refine mem_filter.mpr ⟨mem_range.mpr (Array.getElem?_eq_some_iff.mp he).1,?_⟩;show(Option.map (λx=>x.hash) es[i]? == some h)=true;rw[he];show(some e.hash == some h)=true;rw[hh];exact beq_self_eq_true _
theorem IX{es:Array DictEntry} :(placesWithHash es.size (λi=>Option.map (λx=>x.hash) es[i]?) h).Nodup:=by
 unfold placesWithHash;exact List.Pairwise.filter _ List.nodup_range
theorem QW{key:Value}{h:Int}{o:Obj}{es:Array DictEntry}{ep:Nat}{b:Nat->Bool}{Q:Option Nat->Shared->Prop}
 (hd:s.heap.get? d=some o)(ho:o.data= .dict es ep)(hk:(∃n t,key= .int n t)\/∃a,key= .ref a)
 (hr:(es.any λe=>e.key == key && e.hash != h)=false)
 (eqs:∀i e,es[i]? =some e->e.hash=h->SeqAt.EqAt A s e.key key (b i))
 (hq:ED prog w s key)(hs:∀(i:Nat) (e:DictEntry),es[i]? =some e->ED prog w s e.key)
 (one:∀i j e f,es[i]? =some e->es[j]? =some f->e.hash=h->f.hash=h->b i=true->b j=true->i=j)
 (hn:(∀i e,es[i]? =some e->e.hash=h->b i=false)->Q none s)
 (hy:∀i e,es[i]? =some e->e.hash=h->b i=true->Q (some i) s):wpAny (model prog w) A (dictFind d key h) Q E s:=by
 unfold dictFind;refine wpAny_holding ?_;refine wB (wpAny_dictEntries hd ho ?_)
 have plain:wpAny (model prog w) A (dictWalkPlain d key h es (placesWithHash es.size (λi=>Option.map (λx=>x.hash) es[i]?) h)) Q E s:=by
  unfold dictWalkPlain;refine wB ?_;refine wpAny_forIn_list _ (λrest st s'=>s'=s/\st=(none,())/\(∀i∈rest,i∈placesWithHash es.size (λi=>Option.map (λx=>x.hash) es[i]?) h)/\∀i∈placesWithHash es.size (λi=>Option.map (λx=>x.hash) es[i]?) h,i∉rest->b i=false) _ ?_ ?_ _ _ ⟨rfl,rfl,λi hi=>hi,λi hi hni=>absurd hi hni⟩
  .rintro i rest st s' ⟨rfl,rfl,hm,hf⟩
   obtain⟨e,he,hh⟩:=CN (hm i mS);simp only[he,hh,beq_self_eq_true,if_true];refine wB (wpAny_dictEpoch hd ho ?_);refine wB (eqs i e he hh prog w _ _ ?_);refine wB (wpAny_dictEpoch hd ho ?_);refine wpAny_ite_split (λhab=>absurd hab (by simp)) (λ_=>?_);refine wpAny_ite_split (λhb=>?_) (λhb=>?_)
   .exact wB (wpAny_rule (wP (wP (hy i e he hh hb))))
   .refine wB (wpAny_rule (wP ⟨rfl,rfl,λj hj=>hm j (mC hj),λj hj hnj=>?_⟩))
    by_cases ej:j=i
    .rw[ej];simpa using hb
    .exact hf j hj (by simp[ej,hnj])
  .rintro st s' ⟨rfl,rfl,_,hf⟩
   exact wP (hn λi e he hh=>hf i (Hc he hh) (by simp))
 have nodup:=IX (es:=es) (h:=h)
 have hst:∀v∈List.filterMap (λi=>Option.map (λx=>x.key) es[i]?) (placesWithHash es.size (λi=>Option.map (λx=>x.hash) es[i]?) h),ED prog w s v:=by
  intro v hv;obtain⟨i,hi,e⟩:=mem_filterMap.mp hv;obtain⟨f,hf1,hf2⟩:=CN hi;rw[hf1]at e;have e:f.key=v:=Option.some.inj e;rw[<-e];exact hs i f hf1
 rcases hk with⟨n,t,rfl⟩|⟨a,rfl⟩
 all_goals try dsimp only
 all_goals refine wpAny_ite_split (λ_=>plain) (λ_=>?_)
 all_goals try (rw[hr];refine wpAny_ite_split (λhab=>absurd hab (by simp)) (λ_=>?_))
 all_goals refine wpAny_ite_split (λ_=>?_) (λ_=>?_)
 all_goals first
  |refine wB (HL hq hst ?_)
  |refine wB (wP ?_)
 all_goals
  refine wpAny_ite_split (λhab=>absurd hab (by simp)) (λ_=>?_);refine wB ?_
  refine wpAny_forIn_list _ (λrest st s'=>s'=s/\st.1=none/\rest.Nodup/\(∀i∈rest,i∈placesWithHash es.size (λi=>Option.map (λx=>x.hash) es[i]?) h)/\
   ((st.2=none/\∀i∈placesWithHash es.size (λi=>Option.map (λx=>x.hash) es[i]?) h,i∉rest->b i=false)\/∃j,st.2=some j/\j∈placesWithHash es.size (λi=>Option.map (λx=>x.hash) es[i]?) h/\j∉rest/\b j=true)) _ ?_ ?_ _ _
   ⟨rfl,rfl,nodup,λi hi=>hi,.inl ⟨rfl,λi hi hni=>absurd hi hni⟩⟩
  .rintro i rest ⟨r1,hit⟩ s' ⟨rfl,hr1,hnd,hm,hf⟩
   have hr1:r1=none:=hr1;subst hr1;obtain⟨e,he,hh⟩:=CN (hm i mS);simp only[he,hh,beq_self_eq_true,if_true];refine wB (wpAny_dictEpoch hd ho ?_);refine wB (eqs i e he hh prog w _ _ ?_);refine wB (wpAny_dictEpoch hd ho ?_);refine wpAny_ite_split (λhab=>absurd hab (by simp)) (λ_=>?_);have hnd':=nodup_cons.mp hnd;refine wpAny_ite_split (λhb=>?_) (λhb=>?_)
   .have hit0:hit=none:=by
     rcases hf with⟨z,_⟩|⟨j,z,hj,hjn,hbj⟩
     .exact z
     .obtain⟨f,hf1,hf2⟩:=CN hj;have:=one i j e f he hf1 hh hf2 hb hbj;exact absurd (this▸mS) hjn
    subst hit0;refine wpAny_ite_split (λhab=>absurd hab (by simp)) (λ_=>?_);refine wB (wpAny_rule ?_);refine wpAny_ite_split (λ_=>wP (wP (hy i e he hh hb))) (λ_=>wP ⟨rfl,rfl,hnd'.2,λj hj=>hm j (mC hj),.inr ⟨i,rfl,hm i mS,hnd'.1,hb⟩⟩)
   .refine wB (wpAny_rule ?_);refine wpAny_ite_split (λhab=>absurd hab (by simp)) (λ_=>wP ⟨rfl,rfl,hnd'.2,λj hj=>hm j (mC hj),?_⟩);rcases hf with⟨z,hf⟩|⟨j,z,hj,hjn,hbj⟩
    .refine .inl ⟨z,λj hj hnj=>?_⟩
     by_cases ej:j=i
     .rw[ej];simpa using hb
     .exact hf j hj (by simp[ej,hnj])
    .exact .inr ⟨j,z,hj,λy=>hjn (mC y),hbj⟩
  .rintro⟨r1,hit⟩ s' ⟨rfl,hr1,_,_,hf⟩
   have hr1:r1=none:=hr1;subst hr1;rcases hf with⟨z,hf⟩|⟨j,z,hj,_,hbj⟩
   .have z:hit=none:=z;subst z;exact wP (hn λi e he hh=>hf i (Hc he hh) (by simp))
   .have z:hit=some j:=z;subst z;obtain⟨f,hf1,hf2⟩:=CN hj;exact wP (hy j f hf1 hf2 hbj)
end PySem
namespace Iv
open PySem
inductive P where
 |AI|bl (b:Bool)|int (i:Int)|str (x:Str)|tup (ps:List P)
 deriving Inhabited
noncomputable instance:DecidableEq P:=λa b=>Classical.propDecidable (a=b)
mutual
def P.depth:P->Nat
 |.tup ps=>P.Ao ps+1
 |_=>0
def P.Ao:List P->Nat
 |[]=>0
 |p::ps=>max p.depth (P.Ao ps)
end
inductive B where
 |p (x:P)|lst (ps:List P)|AB (kvs:List (P×P))|ro (ps:List P)
instance:DecidableEq B:=λ_ _=>Classical.propDecidable _
inductive C where
 |b (x:B)|obj (c:Nat)(fs:List (Str×B))
instance:DecidableEq C:=λ_ _=>Classical.propDecidable _
abbrev C.p(x:P):C:=.b (.p x)
abbrev C.lst(x:List P):C:=.b (.lst x)
abbrev C.AB(x:List (P×P)):C:=.b (.AB x)
def C.cp:C->Bool
 |.b (.p _)=>true
 |.b (.ro _)=>true
 |_=>false
def C.nf:C->C
 |.b (.ro ps)=>.b (.lst ps)
 |c=>c
abbrev Env:=List (Option C)
inductive Res(α:Type) where
 |stuck|ok (a:α)(ρ:Env)
namespace Res
variable{α β:Type}
def bind(r:Res α)(f:α->Env->Res β):Res β:=match r with
 |.stuck=>.stuck
 |.ok a ρ=>f a ρ
@[simp] theorem Ye (f:α->Env->Res β):(Res.stuck:Res α).bind f= .stuck:=rfl
@[simp] theorem A5 (a:α) (ρ:Env) (f:α->Env->Res β):(Res.ok a ρ).bind f=f a ρ:=rfl
def of(o:Option α)(ρ:Env):Res α:=match o with
 |some a=>.ok a ρ
 |none=>.stuck
@[simp] theorem J1 (a:α) (ρ:Env):of (some a) ρ= .ok a ρ:=rfl
@[simp] theorem of_none (ρ:Env):of (none:Option α) ρ= .stuck:=rfl
end Res
inductive CR where
 |stuck|ok (c:C)(outs:List (Option C))|err (c:Nat)(outs:List (Option C))
inductive Ty where
 |int|bool|str|tuple|dict
inductive IK where
 |op|Ff|zip|rev
inductive O where
 |add|sub|mul|mod|fdiv|pow|neg
 |eq|ne|lt|gt|ge|is|M0|ai
 |idx|Gn (lo hi:Bool)
 |len|FC (t:Ty)|list (k:IK)|tuple (k:IK)|min|sum|all|sorted|iter (k:IK)
inductive MO where
 |append|extend|pop
inductive Tg where
 |nm (i:Nat)|tup (is:List Nat)
def Tg.slots:Tg->List Nat
 |.nm i=>[i]
 |.tup is=>is
inductive T where
 |cst (p:P)|var (i:Nat)|fld (i:Nat)(f:Str)
 |tup (ts:List T)|lst (ts:List T)|AB (ks vs:List T)
 |prim (o:O)(ts:List T)|FK (m:MO)(i:Nat)(ts:List T)|Jq (i:Nat)(ts:List T)
 |and (a b:T)|or (a b:T)|not (a:T)
 |call (f:Nat)(ts:List T)|C5 (m:Str)(i:Nat)(ts:List T)|make (c:Nat)
 |comp (g:Tg)(k:IK)(its:List T)(cond:List T)(elt:T)(fr:List (Option Nat))
inductive S where
 |asg (i:Nat)(t:T)|E5 (o:T)(i:T)(v:T)|NV (i:Nat)(f:Str)(v:T)|expr (t:T)
 |ret (t:T)|ifs (c:T)(a b:List S)|Lc (c:T)(b:List S)|CB (g:Tg)(k:IK)(its:List T)(b:List S)
 |cnt|raise (c:Nat)|OM (i f:Nat)(ts:List T)(h:Option (Nat×P))|aT (i:Nat)
def IK.ok:IK->Bool
 |.op=>true
 |.Ff=>true
 |.rev=>true
 |_=>false
def O.ok:O->Bool
 |.Gn a b=>a != b
 | .list k=>match k with
   |.op| .rev| .zip=>true
   |_=>false
 | .tuple k=>match k with
   |.op=>true
   |_=>false
 |.iter _=>false
 |_=>true
def big:Nat:=100000
def B.pure:B->Option P
 |.p x=>some x
 |_=>none
def C.pure:C->Option P
 |.b (.p x)=>some x
 |_=>none
mutual
def Co:P->P->Bool
 |.tup a,.tup b=>De a b
 |.int _,.int _=>true
 |.int _,.tup _=>true
 |.tup _,.int _=>true
 |.str _,.str _=>true
 |.AI,.AI=>true
 |_,_=>false
def De:List P->List P->Bool
 |x::a,y::b=>Co x y && De a b
 |_,_=>true
end
mutual
def Ak:P->Bool
 |.int _=>true
 |.tup ps=>DZ ps
 |_=>false
def DZ:List P->Bool
 |.str _::r=>D8 r
 |_=>false
def D8:List P->Bool
 |[]=>true
 |p::r=>Ak p && D8 r
end
def flat(p:P):Bool:=decide (p.depth<=8)
def Gz(a b:P):Option Bool:=if Co a b && decide (a.depth<=60) && decide (b.depth<=60)then some (decide (a=b))else none
def R5(a b:List P):Option Bool:=if De a b && decide (P.Ao a<=60) && decide (P.Ao b<=60)then some (decide (a=b))else none
def Ac(kvs:List (P×P))(k:P):Option P:=(kvs.find? λq=>decide (q.1=k)).map (·.2)
def dput(kvs:List (P×P))(k v:P):List (P×P):=if(kvs.any λq=>decide (q.1=k))=true then kvs.map λq=>if q.1=k then(q.1,v)else q else kvs++[(k,v)]
mutual
def Ec:P->Bool
 |.int _=>true
 |.str _=>true
 |.tup ps=>CQ ps
 |_=>false
def CQ:List P->Bool
 |[]=>true
 |p::ps=>Ec p && CQ ps
end
def keyOk(k:P):Bool:=Ak k && flat k
def Gs(n:Nat)(i:Int):Option Nat:=if 0<=i then(if i < n then some i.toNat else none)else(if -(n:Int)<=i then some (i+n).toNat else none)
def Mi(n d:Nat):Option Int->Nat
 |none=>d
 |some v=>if v < 0 then(v+n).toNat else min v.toNat n
def cut{α:Type}(xs:List α)(lo hi:Option Int):List α:=(xs.drop (Mi xs.length 0 lo)).take (Mi xs.length xs.length hi-Mi xs.length 0 lo)
def sign(c:Nat):P:=.str ⟨#[c]⟩
def P.fh:P->Option Int
 |.int i=>some i
 |_=>none
def Av(lo hi:Int):List P:=(List.range (hi-lo).toNat).map λk=>.int (lo+(k:Nat))
def Fs:List P->Option (List Int)
 |[]=>some []
 |.int i::r=>(Fs r).map (i::·)
 |_::_=>none
def G3:List P->Option (List Bool)
 |[]=>some []
 |.bl i::r=>(G3 r).map (i::·)
 |_::_=>none
def insI(i:Int):List Int->List Int
 |[]=>[i]
 |j::r=>if i<=j then i::j::r else j::insI i r
def sortI:List Int->List Int
 |[]=>[]
 |i::r=>insI i (sortI r)
noncomputable def Be(t:Ty)(c:C):Option Bool:=match t,c with
 |.int,.b (.p (.int _))=>some true
 |.int,.b (.p (.bl _))=>some true
 |.bool,.b (.p (.bl _))=>some true
 |.str,.b (.p (.str _))=>some true
 |.tuple,.b (.p (.tup _))=>some true
 |.dict,.b (.AB _)=>some true
 |_,.b (.p _)=>some false
 |_,_=>none
def Gi{α:Type}(xs:List α):Option (List α):=if xs.length<=big then some xs else none
noncomputable def D1:C->C->Option C
 |.b (.p (.int i)),.b (.p (.int j))=>some (.p (.int (i+j)))
 |.b (.p (.str i)),.b (.p (.str j))=>if i.length+j.length<=big then some (.p (.str (i++j)))else none
 |.b (.p (.tup i)),.b (.p (.tup j))=>if i.isEmpty then none else(Gi (i++j)).map λz=>.p (.tup z)
 |.b (.lst i),.b (.lst j)=>(Gi (i++j)).map λz=>.lst z
 |_,_=>none
def JL:P->P->Option Bool
 |.int i,.int j=>some (decide (i < j))
 |_,_=>none
def Dg:P->Bool
 |.int _=>true
 |_=>false
def KL(kvs:List (P×P)):Bool:=kvs.all λq=>Dg q.1 && Co q.2 q.2 && decide (q.2.depth<=60)
def EK:C->C->Option Bool
 |.b (.p a),.b (.p b)=>Gz a b
 |.b (.lst a),.b (.lst b)=>R5 a b
 |.b (.AB a),.b (.AB b)=>if a=b/\KL a=true then some true else none
 |_,_=>none
def memC(x:P):C->Option Bool
 |.b (.lst ps)=>if ps.all (λq=>Co q x && decide (q.depth<=60))then some (ps.contains x)else none
 |.b (.AB kvs)=>if keyOk x then some (Ac kvs x).isSome else none
 |_=>none
noncomputable def AA(o:O)(a b:C):Option Bool:=match o with
 |.eq=>EK a b
 |.ne=>(EK a b).map (!·)
 |.lt=>match a,b with| .b (.p x),.b (.p y)=>JL x y|_,_=>none
 |.gt=>match a,b with| .b (.p x),.b (.p y)=>JL y x|_,_=>none
 |.ge=>match a,b with| .b (.p (.int x)),.b (.p (.int y))=>some (decide (y<=x))|_,_=>none
 |.is=>match a,b with|x,.b (.p .AI)=>some (decide (x= .p .AI))|_,_=>none
 |.M0=>match a with| .b (.p x)=>memC x b|_=>none
 |.ai=>match a with| .b (.p x)=>(memC x b).map (!·)|_=>none
 |_=>none
noncomputable def BB(c i:C):Option C:=match c.nf,i with
 |.b (.lst ps),.b (.p (.int i))=>(Gs ps.length i).bind λk=>(ps[k]?).map λx=>.p x
 |.b (.p (.tup ps)),.b (.p (.int i))=>(Gs ps.length i).bind λk=>(ps[k]?).map λx=>.p x
 |.b (.p (.str x)),.b (.p (.int i))=>if x.length<=big then(Gs x.length i).bind λk=>(x.cps.toList[k]?).map λc=>.p (sign c)else none
 |.b (.AB kvs),.b (.p k)=>if keyOk k then(Ac kvs k).map λx=>.p x else none
 |_,_=>none
noncomputable def IM(x:Str)(lo hi:Option Int):Option Str:=match lo,hi with
 |none,some j=>if 0<=j/\j<=x.length/\x.length<=big then some ⟨(x.cps.toList.take j.toNat).toArray⟩else none
 |some i,none=>if 0<=i/\i<=x.length/\x.length<=big then some ⟨(x.cps.toList.drop i.toNat).toArray⟩else none
 |_,_=>none
def E4(x:C)(lo hi:Option Int):Option C:=match x.nf with
 |.b (.lst ps)=>some (.lst (cut ps lo hi))
 |.b (.p (.tup ps))=>some (.p (.tup (cut ps lo hi)))
 |.b (.p (.str x))=>(IM x lo hi).map λy=>.p (.str y)
 |_=>none
def Dq(c:C):Option (List P):=match c.nf with
 |.b (.lst ps)=>some ps
 |.b (.p (.tup ps))=>some ps
 |.b (.AB kvs)=>some (kvs.map (·.1))
 |_=>none
def Lr(c:C):Option (List P):=match c.nf with
 |.b (.lst ps)=>some ps
 |.b (.p (.tup ps))=>some ps
 |.b (.AB kvs)=>some (kvs.map (·.1))
 |_=>none
def Pm(c:C):Option (List P):=match c.nf with
 |.b (.lst ps)=>some ps
 |.b (.AB kvs)=>some (kvs.map (·.1))
 |_=>none
def Lh:List P->List P->List P:=List.zipWith λa b=>.tup [a,b]
def DW(c:C):Option (List P):=match c.nf with
 |.b (.lst ps)=>some ps
 |.b (.p (.tup ps))=>some ps
 |_=>none
def Gp:C->Option (List P)
 |.b (.p (.tup ps))=>some ps
 |_=>none
noncomputable def Ae(k:IK)(cs:List C):Option (List P):=match k,cs with
 |.op,[c]=>Dq c
 |.Ff,[.b (.p (.int n))]=>if n.natAbs < 2 ^ 61 then some (Av 0 n)else none
 |.Ff,[.b (.p (.int a)),.b (.p (.int n)),.b (.p (.int s))]=>if 0 < s/\s < 1000000/\a.natAbs < 2 ^ 61/\n.natAbs < 2 ^ 61 then some ((List.range ((n-a+s-1)/s).toNat).map λk=>.int (a+s*(k:Nat)))else none
 |.rev,[c]=>match c.nf with| .b (.lst ps)=>some ps.reverse|_=>none
 |_,_=>none
def FO(c:C):Option C:=match c.nf with
 |.b (.lst ps)=>some (.p (.int ps.length))
 |.b (.p (.tup ps))=>some (.p (.int ps.length))
 |.b (.p (.str x))=>if x.length<=big then some (.p (.int x.length))else none
 |_=>none
def Ca(f:Int->Int->Option Int):C->C->Option C
 |.b (.p (.int i)),.b (.p (.int j))=>(f i j).map λk=>.p (.int k)
 |_,_=>none
def P6(i j:Int):Option Int:=some (i-j)
def Jb(i j:Int):Option Int:=if(-(2 ^ 64) < i/\i < 2 ^ 64)\/(-(2 ^ 64) < j/\j < 2 ^ 64)then some (i*j)else none
def CO(i j:Int):Option Int:=if 0 < j then some (i%j)else none
def Dz(i j:Int):Option Int:=if 0 < j/\j < 1073741824 then some (i/j)else none
def PK(i j:Int):Option Int:=if 0<=j/\j<=1000/\i.natAbs < 2 ^ 64 then some (i ^ j.toNat)else none
def Qj(i j:Int):Option Int:=some (if j < i then j else i)
def mulC(a b:C):Option C:=Ca Jb a b
def Jl(f:Int->Option P):C->Option C
 |.b (.p (.int i))=>(f i).map λk=>.p k
 |_=>none
def Kj(i:Int):Option P:=some (.int (-i))
def Of(f:List P->Option C)(c:C):Option C:=match c.nf with
 |.b (.lst ps)=>f ps
 |_=>none
def Sr:C->Option C:=Of λps=>(Fs ps).map λns=>.p (.int ns.sum)
def UU:C->Option C:=Of λps=>(G3 ps).map λns=>.p (.bl (ns.all id))
def Gw(c:C):Option C:=((Pm c).bind Fs).bind λns=>if ns.length < 64 then some (.lst ((sortI ns).map .int))else none
def Du:C->Option Int
 |.b (.p (.int i))=>some i
 |_=>none
def Ot(c k d:C):Option C:=match c,k,d with
 |.b (.AB kvs),.b (.p k),.b (.p d)=>if keyOk k then some (.p ((Ac kvs k).getD d))else none
 |_,_,_=>none
def HG(g:C->Option C):List C->Option C
 |[c]=>g c
 |_=>none
def Ld(g:C->C->Option C):List C->Option C
 |[c,d]=>g c d
 |_=>none
@[simp] theorem dU (g:C->Option C) (c:C):HG g [c]=g c:=rfl
@[simp] theorem dS (g:C->C->Option C) (c d:C):Ld g [c,d]=g c d:=rfl
def F3(o:O):C->C->Option C:=λa b=>(AA o a b).map λx=>.p (.bl x)
noncomputable def Ab(o:O)(cs:List C):Option C:=match o with
 |.add=>Ld D1 cs
 |.sub=>Ld (Ca P6) cs
 |.mul=>Ld mulC cs
 |.mod=>Ld (Ca CO) cs
 |.fdiv=>Ld (Ca Dz) cs
 |.pow=>Ld (Ca PK) cs
 |.neg=>HG (Jl Kj) cs
 |.idx=>Ld BB cs
 |.Gn lo _=>Ld (λa i=>(Du i).bind λi=>if lo then E4 a (some i) none else E4 a none (some i)) cs
 |.len=>HG FO cs
 |.FC t=>HG (λc=>(Be t c).map λb=>.p (.bl b)) cs
 | .list k=>match k with
   |.op=>HG (λc=>(Lr c).map .lst) cs
   |.zip=>Ld (λa b=>(Gp a).bind λx=>(Gp b).map λy=>.lst (Lh x y)) cs
   |_=>HG (λc=>(Gp c).map λx=>.lst x.reverse) cs
 |.tuple _=>HG (λc=>(DW c).map λx=>.p (.tup x)) cs
 |.min=>Ld (Ca Qj) cs
 |.sum=>HG Sr cs
 |.all=>HG UU cs
 |.sorted=>HG Gw cs
 |o=>Ld (F3 o) cs
def BJ(ps:List P):List C->Option (C×B)
 |[.b (.p x)]=>if ps.length < big then some (.p .AI,.lst (ps++[x]))else none
 |_=>none
def Fn(ps:List P):List C->Option (C×B)
 |[.b (.lst xs)]=>if ps.length+xs.length<=big then some (.p .AI,.lst (ps++xs))else none
 |_=>none
def Je(ps:List P):List C->Option (C×B)
 |[]=>(ps.getLast?).map λx=>(.p x,.lst ps.dropLast)
 |_=>none
def Cu(m:MO)(b:B)(cs:List C):Option (C×B):=match b with
 | .lst ps=>(match m with
   |.append=>BJ ps cs
   |.extend=>Fn ps cs
   |.pop=>Je ps cs)
 |_=>none
def E6(b:B)(i:P)(v:P):Option B:=match b with
 |.AB kvs=>if keyOk i && decide (kvs.length < big)then some (.AB (dput kvs i v))else none
 |_=>none
def CI(c:C):Option Bool:=match c.nf with
 |.b (.p (.bl b))=>some b
 |.b (.lst ps)=>some (!ps.isEmpty)
 |_=>none
inductive Hd where
 |Bt (c:C)|slot (i:Nat)|fld (i:Nat)(f:Str)
def A8(ρ:Env)(i:Nat):Option C:=(ρ[i]?).join
def Bz(ρ:Env)(i:Nat)(f:Str):Option C:=match A8 ρ i with
 |some (.obj _ fs)=>(fs.lookup f).map .b
 |_=>none
def Hd.cont(ρ:Env):Hd->Option C
 |.Bt c=>some c
 |.slot i=>A8 ρ i
 |.fld i f=>Bz ρ i f
def Am(ρ:Env):List Hd->Option (List C)
 |[]=>some []
 |h::hs=>(h.cont ρ).bind λc=>(Am ρ hs).map (c::·)
def IA:P->Bool
 |.tup _=>false
 |_=>true
def T.calm:T->Bool
 |.cst p=>IA p
 |.var _=>true
 |.fld _ _=>true
 |_=>false
def Bg(f:Str)(b:B):List (Str×B)->List (Str×B)
 |[]=>[(f,b)]
 |(g,c)::r=>if g=f then(g,b)::r else(g,c)::Bg f b r
def setB(ρ:Env)(h:Hd)(b:B):Option Env:=match h with
 |.slot i=>some (ρ.set i (some (.b b)))
 | .fld i f=>match A8 ρ i with
   |some (.obj c fs)=>some (ρ.set i (some (.obj c (Bg f b fs))))
   |_=>none
 |.Bt _=>none
def BY(hs:List Hd)(cs:List C):List Nat:=(hs.zip cs).filterMap λq=>if q.2.cp then none else match q.1 with
 |.slot i=>some i
 |.fld i _=>some i
 |.Bt _=>none
noncomputable def back(ρ:Env):List Hd->List C->List (Option C)->Option Env
 |.slot i::hs,c::cs,o::os=>if c.cp then back ρ hs cs os else back (ρ.set i o) hs cs os
 |.fld _ _::hs,c::cs,_::os=>if c.cp then back ρ hs cs os else none
 |.Bt _::hs,_::cs,_::os=>back ρ hs cs os
 |[],[],_=>some ρ
 |_,_,_=>none
abbrev CF:=Nat->List C->CR
structure MT where
 m:Nat->Str->Option Nat
 f:Nat->Str->Bool
def guards(hs:List Hd)(cs:List C):List (Nat×C):=(hs.zip cs).filterMap λq=>if q.2.cp then none else match q.1 with
 |.slot i=>some (i,q.2)
 |_=>none
def A9(hs:List Hd)(cs:List C):Bool:=(hs.zip cs).all λq=>q.2.cp || match q.1 with
 |.fld _ _=>false
 |_=>true
def lend(ρ:Env)(hs:List Hd)(cs:List C):Env:=(BY hs cs).foldl (λr i=>r.set i none) ρ
noncomputable def AY(cf:CF)(f:Nat)(hs:List Hd)(ρ:Env):Res C:=match Am ρ hs with
 |none=>.stuck
 | some cs=>if(BY hs cs).Nodup/\A9 hs cs=true then
    match cf f cs with
    |.stuck=>.stuck
    |.err _ _=>.stuck
    |.ok c outs=>(Res.of (back (lend ρ hs cs) hs cs outs) ρ).bind λρ' _=>.ok c ρ'
   else .stuck
def holds(gs:List (Nat×C))(ρ:Env):Bool:=gs.all λq=>decide (A8 ρ q.1=some q.2)
def Dp(g:Tg)(v:P)(ρ:Env):Option Env:=match g,v with
 |.nm i,v=>some (ρ.set i (some (.p v)))
 |.tup is,.tup vs=>if is.length=vs.length then some ((is.zip vs).foldl (λr q=>r.set q.1 (some (.p q.2))) ρ)else none
 |_,_=>none
def AR(fr:List (Option Nat))(ρ:Env):Env:=fr.map λo=>o.bind λi=>A8 ρ i
def As(ρ:Env):List (Option Nat)->Env->Env
 |some i::fr,c::β=>As (ρ.set i c) fr β
 |none::fr,_::β=>As ρ fr β
 |_,_=>ρ
noncomputable def CW(g:Tg)(gs:List (Nat×C))(cond:Env->Res Bool)(elt:Env->Res C):List P->List P->Env->Res (List P)
 |[],acc,β=>if holds gs β then .ok acc β else .stuck
 | x ::xs,acc,β=>if holds gs β then(Res.of (Dp g x β) β).bind λβ1 _=>(cond β1).bind λb β2=>if b then(elt β2).bind λc β3=>match c with
     |.b (.p y)=>CW g gs cond elt xs (acc++[y]) β3
     |_=>.stuck
   else CW g gs cond elt xs acc β2
   else .stuck
def inner(fr:List (Option Nat))(i:Nat):Option Nat:=fr.findIdx? λo=>o == some i
def By(fr:List (Option Nat))(ρ:Env):Env:=(fr.filterMap id).foldl (λr i=>r.set i none) ρ
def Br(g:Tg)(fr:List (Option Nat)):Bool:=decide ((fr.filterMap id).Nodup) && g.slots.all λj=>decide (fr[j]? =some none)
def B8(fr:List (Option Nat))(hs:List Hd)(cs:List C):List (Nat×C):=(guards hs cs).filterMap λq=>(inner fr q.1).map λj=>(j,q.2)
noncomputable def Dd(k:IK)(g:Tg)(fr:List (Option Nat))(cond:Env->Res Bool)(elt:Env->Res C)(hs:List Hd)(ρ:Env):Res C:=match Am ρ hs with
 | some cs=>match Ae k cs with
   | some xs=>if A9 hs cs && Br g fr && decide (xs.length<=big)then match CW g (B8 fr hs cs) cond elt xs [] (AR fr ρ)with
      |.ok ys β=>.ok (.lst ys) (As (By fr ρ) fr β)
      |_=>.stuck
     else .stuck
   |none=>.stuck
 |none=>.stuck
def BG(t:T)(v:Env->Res C)(ρ:Env):Res Hd:=match t with
 |.var i=>if(A8 ρ i).isSome then .ok (.slot i) ρ else .stuck
 |.fld i f=>if(Bz ρ i f).isSome then .ok (.fld i f) ρ else .stuck
 |_=>(v ρ).bind λc ρ=>.ok (.Bt c) ρ
inductive Fl where
 |nx|cnt|ret (c:C)|er (c:Nat)
def placeOf:T->Option Hd
 |.var i=>some (.slot i)
 |.fld i f=>some (.fld i f)
 |_=>none
def aB:Option C->Bool
 |some (.b (.lst _))=>true
 |_=>false
def Hd.Kr:Hd->Bool
 |.fld _ _=>true
 |_=>false
noncomputable def Ob(m:MO)(i:Nat)(hs:List Hd)(ρ:Env):Res C:=match A8 ρ i,Am ρ hs with
 | some (.b b),some cs=>if(BY (.slot i::hs) (.b b::cs)).Nodup then match Cu m b cs with
   |some (c,b')=>.ok c (ρ.set i (some (.b b')))
   |none=>.stuck
   else .stuck
 |_,_=>.stuck
def Eb:Option C->Bool
 |some (.b (.lst _))=>true
 |some (.b (.AB _))=>true
 |_=>false
def BQ(h:Hd)(k:C)(v:P)(ρ:Env):Res Fl:=match h.cont ρ,k with
    |some (.b b),.b (.p k)=>(Res.of ((E6 b k v).bind λb'=>setB ρ h b') ρ).bind λρ' _=>.ok .nx ρ'
    |_,_=>.stuck
def C3(h:Hd)(i:Env->Res C)(v:C)(ρ:Env):Res Fl:=match v with
    |.b (.p v)=>if Eb (h.cont ρ)then(i ρ).bind λk ρ=>BQ h k v ρ else .stuck
    |_=>.stuck
def MF(mt:MT)(i:Nat)(f:Str)(v:C)(ρ:Env):Res Fl:=match A8 ρ i,v with
    |some (.obj c fs),.b b=>if mt.f c f && decide (fs.length < 900)then .ok .nx (ρ.set i (some (.obj c (Bg f b fs))))else .stuck
    |_,_=>.stuck
def QG:Option C->Bool
 |some (.b (.AB _))=>true
 |_=>false
def M5(i:Nat)(hs:List Hd)(ρ:Env):Res C:=match A8 ρ i,Am ρ hs with
 |some c,some [k,d]=>Res.of (Ot c k d) ρ
 |_,_=>.stuck
def Hf(cf:CF)(f c:Nat)(ρ:Env):Res C:=match cf f [.obj c []]with
 |.ok (.b (.p .AI)) [some s]=>.ok s ρ
 |_=>.stuck
structure Sm where
 v:Env->Res C
 b:Env->Res Bool
def Sm.of(t:T)(v:Env->Res C):Sm:=⟨v,λρ=>(BG t v ρ).bind λh ρ=>Res.of ((h.cont ρ).bind CI) ρ⟩
mutual
noncomputable def den (cf:CF) (mt:MT):T->Sm
 |.cst p=>Sm.of (.cst p) λρ=>.ok (.p p) ρ
 | .var i=>Sm.of (.var i) λρ=>match A8 ρ i with
   |some c=>if c.cp then .ok c ρ else .ok c (ρ.set i none)
   |none=>.stuck
 | .fld i f=>Sm.of (.fld i f) λρ=>match Bz ρ i f with
   |some c=>if c.cp then .ok c ρ else .stuck
   |none=>.stuck
 |.tup ts=>Sm.of (.tup []) λρ=>if ts.length<=1000 then(E2 cf mt ts ρ).bind λps ρ=>.ok (.p (.tup ps)) ρ else .stuck
 |.lst ts=>Sm.of (.tup []) λρ=>if ts.length<=1000 then(E2 cf mt ts ρ).bind λps ρ=>.ok (.lst ps) ρ else .stuck
 |.AB ks vs=>Sm.of (.tup []) λρ=>if ks.isEmpty && vs.isEmpty then .ok (.AB []) ρ else .stuck
 |.prim o ts=>Sm.of (.tup []) λρ=>if o.ok then(Ad cf mt ts ρ).bind λhs ρ=>Res.of ((Am ρ hs).bind (Ab o)) ρ else .stuck
 |.FK m i ts=>Sm.of (.tup []) λρ=>if aB (A8 ρ i)then(Ad cf mt ts ρ).bind λhs ρ=>Ob m i hs ρ else .stuck
 |.Jq i ts=>Sm.of (.tup []) λρ=>if QG (A8 ρ i)then(Ad cf mt ts ρ).bind λhs ρ=>M5 i hs ρ else .stuck
 | .and a b=>⟨λρ=>((den cf mt a).v ρ).bind λc ρ=>match c with
   |.b (.p (.bl true))=>(den cf mt b).v ρ
   |.b (.p (.bl false))=>.ok (.p (.bl false)) ρ
   |_=>.stuck,λρ=>((den cf mt a).b ρ).bind λc ρ=>if c then(den cf mt b).b ρ else .ok false ρ⟩
 | .or a b=>⟨λρ=>((den cf mt a).v ρ).bind λc ρ=>match c with
   |.b (.p (.bl true))=>.ok (.p (.bl true)) ρ
   |.b (.p (.bl false))=>(den cf mt b).v ρ
   |_=>.stuck,λρ=>((den cf mt a).b ρ).bind λc ρ=>if c then .ok true ρ else(den cf mt b).b ρ⟩
 | .not a=>⟨λρ=>((den cf mt a).v ρ).bind λc ρ=>match c with
   |.b (.p (.bl b))=>.ok (.p (.bl (!b))) ρ
   |_=>.stuck,λρ=>((den cf mt a).b ρ).bind λb ρ=>.ok (!b) ρ⟩
 |.call f ts=>Sm.of (.tup []) λρ=>(Ad cf mt ts ρ).bind λhs ρ=>AY cf f hs ρ
 | .C5 m i ts=>Sm.of (.tup []) λρ=>match A8 ρ i with
   | some (.obj c fs)=>match fs.lookup m,mt.m c m with
     |none,some f=>(Ad cf mt ts ρ).bind λhs ρ=>AY cf f (.slot i::hs) ρ
     |_,_=>.stuck
   |_=>.stuck
 | .make c=>Sm.of (.tup []) λρ=>match mt.m c (Str.ofString "__init__")with
   |some f=>Hf cf f c ρ
   |none=>.stuck
 |.comp g k its cond elt fr=>Sm.of (.tup []) λρ=>if k.ok then(Ad cf mt its ρ).bind λhs ρ=>Dd k g fr (Eh cf mt cond) (den cf mt elt).v hs ρ else .stuck
noncomputable def E2 (cf:CF) (mt:MT):List T->Env->Res (List P)
 |[],ρ=>.ok [] ρ
 | t::ts,ρ=>((den cf mt t).v ρ).bind λc ρ=>match c with
   |.b (.p x)=>(E2 cf mt ts ρ).bind λxs ρ=>.ok (x::xs) ρ
   |_=>.stuck
noncomputable def Ad (cf:CF) (mt:MT):List T->Env->Res (List Hd)
 |[],ρ=>.ok [] ρ
 | t::ts,ρ=>(BG t (den cf mt t).v ρ).bind λh ρ=>match h with
   |.fld i f=>if ts.all T.calm then(Ad cf mt ts ρ).bind λhs ρ=>.ok (.fld i f::hs) ρ else .stuck
   |h=>(Ad cf mt ts ρ).bind λhs ρ=>.ok (h::hs) ρ
noncomputable def Eh (cf:CF) (mt:MT):List T->Env->Res Bool
 |[],ρ=>.ok true ρ
 |t::_,ρ=>(den cf mt t).b ρ
end
abbrev ev(cf:CF)(mt:MT)(t:T):Env->Res C:=(den cf mt t).v
abbrev tv(cf:CF)(mt:MT)(t:T):Env->Res Bool:=(den cf mt t).b
abbrev WH:=(Env->Res Bool)->(Env->Res Fl)->Env->Res Fl
noncomputable def Ax(c:Env->Res Bool)(b:Env->Res Fl):Nat->Env->Res Fl
 |0,_=>.stuck
 | n + 1,ρ=>(c ρ).bind λx ρ=>if x then(b ρ).bind λf ρ=>match f with
     |.nx=>Ax c b n ρ
     |.cnt=>Ax c b n ρ
     |.er c=>.ok (.er c) ρ
     |.ret r=>.ok (.ret r) ρ
   else .ok .nx ρ
noncomputable def forL(g:Tg)(gs:List (Nat×C))(b:Env->Res Fl):List P->Env->Res Fl
 |[],ρ=>if holds gs ρ then .ok .nx ρ else .stuck
 | x ::xs,ρ=>if holds gs ρ then(Res.of (Dp g x ρ) ρ).bind λρ1 _=>(b ρ1).bind λf ρ=>match f with
     |.nx=>forL g gs b xs ρ
     |.cnt=>forL g gs b xs ρ
     |.er c=>.ok (.er c) ρ
     |.ret r=>.ok (.ret r) ρ
   else .stuck
noncomputable def Dy(k:IK)(g:Tg)(bs:List Nat)(B:Env->Res Fl)(hs:List Hd)(ρ:Env):Res Fl:=match Am ρ hs with
 | some cs=>match Ae k cs with
   |some xs=>if A9 hs cs && (guards hs cs).all (λq=>!(g.slots++bs).contains q.1)then forL g (guards hs cs) B xs ρ else .stuck
   |none=>.stuck
 |none=>.stuck
mutual
def Mr:S->List Nat
 |.asg i _=>[i]
 |.ifs _ a b=>Bu a++Bu b
 |.Lc _ b=>Bu b
 |.CB g _ _ b=>g.slots++Bu b
 |.OM i _ _ _=>[i]
 |_=>[]
def Bu:List S->List Nat
 |[]=>[]
 |s::ss=>Mr s++Bu ss
end
noncomputable def EO(cf:CF)(i f:Nat)(h:Option (Nat×P))(hs:List Hd)(ρ:Env):Res Fl:=match Am ρ hs with
 |none=>.stuck
 | some cs=>if(BY hs cs).Nodup/\A9 hs cs=true then
    match cf f cs with
    |.stuck=>.stuck
    |.ok c outs=>(Res.of (back (lend ρ hs cs) hs cs outs) ρ).bind λρ' _=>.ok .nx (ρ'.set i (some c))
    | .err c outs=>(Res.of (back (lend ρ hs cs) hs cs outs) ρ).bind λρ' _=>match h with
      |none=>.ok (.er c) ρ'
      |some (d,p)=>if c=d then .ok (.ret (.p p)) ρ' else .stuck
   else .stuck
mutual
noncomputable def exec (cf:CF) (mt:MT) (wh:WH):S->Env->Res Fl
 |.asg i t,ρ=>(ev cf mt t ρ).bind λc ρ=>.ok .nx (ρ.set i (some c))
 | .E5 o i v,ρ=>match placeOf o with
   |some h=>if !h.Kr || i.calm then(ev cf mt v ρ).bind λv ρ=>C3 h (ev cf mt i) v ρ else .stuck
   |none=>.stuck
 |.NV i f v,ρ=>(ev cf mt v ρ).bind λv ρ=>MF mt i f v ρ
 |.expr t,ρ=>(ev cf mt t ρ).bind λ_ ρ=>.ok .nx ρ
 |.ret t,ρ=>(ev cf mt t ρ).bind λc ρ=>.ok (.ret c) ρ
 |.ifs c a b,ρ=>(tv cf mt c ρ).bind λx ρ=>if x then execs cf mt wh a ρ else execs cf mt wh b ρ
 |.Lc c b,ρ=>wh (tv cf mt c) (execs cf mt wh b) ρ
 |.CB g k its b,ρ=>if k.ok then(Ad cf mt its ρ).bind (Dy k g (Bu b) (execs cf mt wh b))else .stuck
 |.cnt,ρ=>.ok .cnt ρ
 |.raise c,ρ=>.ok (.er c) ρ
 | .aT i,ρ=>match A8 ρ i with
   |some (.b (.AB kvs))=>if kvs.all (λq=>Dg q.1)then .ok .nx (ρ.set i none)else .stuck
   |_=>.stuck
 |.OM i f ts h,ρ=>(Ad cf mt ts ρ).bind (EO cf i f h)
noncomputable def execs (cf:CF) (mt:MT) (wh:WH):List S->Env->Res Fl
 |[],ρ=>.ok .nx ρ
 | s::ss,ρ=>(exec cf mt wh s ρ).bind λf ρ=>match f with
   |.nx=>execs cf mt wh ss ρ
   |f=>.ok f ρ
end
structure NH where
 np:Nat
 nl:Nat
 body:List S
 deriving Inhabited
def E8(fi:NH)(ρ:Env):List (Option C):=(List.range fi.np).map λi=>if(Bu fi.body).contains i then none else A8 ρ i
noncomputable def EU(cf:CF)(mt:MT)(wh:WH)(fi:NH)(args:List C):CR:=
 if args.length=fi.np then match execs cf mt wh fi.body (args.map some++List.replicate (fi.nl - fi.np) none)with
  |.ok .nx ρ=>.ok (.p .AI) (E8 fi ρ)
  |.ok (.ret c) ρ=>.ok c (E8 fi ρ)
  |.ok (.er c) ρ=>.err c (E8 fi ρ)
  |_=>.stuck
 else .stuck
def A0(fns:List NH)(mt:MT)(wh:WH):Nat->CF
 |0,_,_=>.stuck
 | k + 1,f,args=>match fns[f]? with
   |some fi=>EU (A0 fns mt wh k) mt wh fi args
   |none=>.stuck
structure Ct where
 N:List Str
 sc:Scope
 fns:List (Str×Nat)
 cls:List (Str×Nat)
 gl:List (Str×P)
 sub:List (Str×List Nat)
 df:Bool
def H9(x:Str):Bool:=!(x == ("__debug__":Str)) && !(x == ("__classdict__":Str)) && decide (x≠"__name__")
def seen:Option NameKind->Bool
 |some .local=>true
 |some .cell=>true
 |some .free=>true
 |_=>false
def Ct.slot(ct:Ct)(x:Str):Option Nat:=if H9 x && seen (ct.sc.names.lookup x)then ct.N.idxOf? x else none
def bound(df:Bool):Option NameKind->Bool
 |some .local=>true
 |some .cell=>df
 |_=>false
def Ct.Dm(ct:Ct)(x:Str):Option Nat:=if H9 x && bound ct.df (ct.sc.names.lookup x)then ct.N.idxOf? x else none
def Ct.glob(ct:Ct)(x:Str):Bool:=H9 x && decide (ct.sc.names.lookup x=some .globalImplicit)
def Ct.name(ct:Ct)(x:Str):Option T:=match ct.slot x with
 |some i=>some (.var i)
 | none=>if ct.glob x then(match ct.gl.lookup x with
   |some p=>some (.cst p)
   |none=>none)else none
def JF:List Str:=["len","list","tuple","dict","sum","all","sorted","str","int","bool","range","reversed","min","zip","isinstance"]
def Ct.own(ct:Ct)(x:Str):Bool:=ct.glob x && JF.contains x && (ct.gl.lookup x).isNone && (ct.fns.lookup x).isNone && (ct.cls.lookup x).isNone
def fg:Operator->Option O
 |.Add=>some .add| .Sub=>some .sub| .Mult=>some .mul| .Mod=>some .mod| .FloorDiv=>some .fdiv| .Pow=>some .pow
 |_=>none
def aw:CmpOp->Option O
 |.Eq=>some .eq| .NotEq=>some .ne| .Lt=>some .lt| .Gt=>some .gt| .GtE=>some .ge| .Is=>some .is| .In=>some .M0| .NotIn=>some .ai|_=>none
def Bd:T->IK×List T
 |.prim (.iter k) ts=>(k,ts)
 |t=>(.op,[t])
def tyName(x:Str):Option Ty:=
 if x="int" then some .int else if x="bool" then some .bool else if x="str" then some .str else if x="tuple" then some .tuple
 else if x="dict" then some .dict else none
def Qp:T->Option T
 |.prim (.iter .rev) [u]=>some (.prim (.list .rev) [u])
 |.prim (.iter .zip) [u,w]=>some (.prim (.list .zip) [u,w])
 |.prim (.iter _) _=>none
 |t=>some (.prim (.list .op) [t])
def P0:T->Option T
 |.prim (.iter _) _=>none
 |t=>some (.prim (.tuple .op) [t])
noncomputable def bR(x:Str)(ts:List T):Option T:=match ts with
 |[t]=>
   if x="len" then some (.prim .len [t])
   else if x="list" then Qp t
   else if x="tuple" then P0 t
   else if x="sum" then some (.prim .sum [t])else if x="all" then some (.prim .all [t])
   else if x="sorted" then some (.prim .sorted [t])else if x="range" then some (.prim (.iter .Ff) [t])
   else if x="reversed" then some (.prim (.iter .rev) [t])else none
 |[t,u]=>if x="min" then some (.prim .min [t,u])else if x="zip" then some (.prim (.iter .zip) [t,u])else none
 |[t,u,v]=>if x="range" then some (.prim (.iter .Ff) [t,u,v])else none
 |_=>none
noncomputable def dw(m:Str)(o:Nat)(ts:List T):Option T:=match ts with
 |[]=>if m="pop" then some (.FK .pop o [])else none
 |[t]=>if m="append" then some (.FK .append o [t])else if m="extend" then some (.FK .extend o [t])else none
 |[t,u]=>if m="get" then some (.Jq o [t,u])else none
 |_=>none
def Oi(ct:Ct):List Expr->Option (List Nat)
 |[]=>some []
 |.Name x _::es=>(ct.Dm x).bind λi=>(Oi ct es).map λis=>i::is
 |_::_=>none
def YK(ct:Ct):Expr->Option Tg
 |.Name x _=>(ct.Dm x).map .nm
 |.Tuple es _ _=>(Oi ct es).map .tup
 |_=>none
def QE(ct:Ct)(x:Str)(ts:List T):Option T:=match ct.fns.lookup x with
 |some f=>some (.call f ts)
 |none=>if ts.isEmpty then(ct.cls.lookup x).map .make else none
noncomputable def Ct.block(ct:Ct)(sc:Scope):Ct×List (Option Nat):=
 let own:=(sc.names.filter λq=>q.2 == .local).map (·.1)
 let free:=(sc.names.filter λq=>q.2 == .free).map (·.1)
 ({ct with N:=own++free,sc:=sc,df:=false},own.map (λ_=>none)++free.map λx=>ct.N.idxOf? x)
noncomputable def Rm(N0:List Str)(sc0:Scope)(N:List Str)(scope:Scope)(fr:List (Option Nat)):Bool:=
 (scope.kind == .function) && scope.names.all (λy=>y.2 != .cell) && scope.names.all (λy=>y.2 != .local || scope.names.lookup y.1 == some .local) &&
 scope.names.all (λy=>y.2 != .free || sc0.names.lookup y.1 == some .cell || sc0.names.lookup y.1 == some .free) && (fr.length == N.length) &&
 (List.range fr.length).all λj=>match fr[j]? with
  |some (some i)=>(N[j]? == N0[i]?) && (match N[j]? with|some x=>scope.names.lookup x == some .free|none=>false)
  |_=>true
def kM(m:Str)(o:Nat)(ts:List T):Option T:=match dw m o ts with
 |some z=>some z
 |none=>if ts.isEmpty then none else some (.C5 m o ts)
def bF(m:Str)(n:Nat)(apos pos:Pos):Bool:=(apos.endLine == pos.line) && decide (n < 29) && decide (m≠Str.ofString "__init__")
def cS:List Expr->Option Str
 |[_,.Name y _]=>some y
 |_=>none
mutual
noncomputable def kE (ct:Ct):Expr->Option T
 | .Constant c _ _=>match c with
   |.none=>some (.cst .AI)
   |.bool b=>some (.cst (.bl b))
   |.int i=>some (.cst (.int i))
   |.str x=>some (.cst (.str x))
   |_=>none
 |.Name x _=>ct.name x
 |.Attribute (.Name x _) f _=>(ct.slot x).map λi=>.fld i f
 |.Tuple es _ _=>(Lg ct es).map .tup
 |.List es _=>(Lg ct es).map .lst
 |.Dict ks vs _=>if ks.isEmpty && vs.isEmpty then some (.AB [] [])else none
 |.BinOp a op b _=>(fg op).bind λo=>(kE ct a).bind λx=>(kE ct b).map λy=>.prim o [x,y]
 |.UnaryOp .Not a _=>(kE ct a).map .not
 |.UnaryOp .USub a _=>(kE ct a).map λx=>.prim .neg [x]
 |.BoolOp op es _=>if 2<=es.length then kB ct op es else none
 |.Compare a [op] [b] _=>(aw op).bind λo=>(kE ct a).bind λx=>(kE ct b).map λy=>.prim o [x,y]
 |.Subscript v (.Slice lo hi none _) _=>(kE ct v).bind λx=>(kO ct lo).bind λl=>(kO ct hi).map λh=>.prim (.Gn (!l.isEmpty) (!h.isEmpty)) (x::(l++h))
 |.Subscript v i _=>(kE ct v).bind λx=>(kE ct i).map λy=>.prim .idx [x,y]
 |.ListComp elt [⟨tg,it,ifs,ia⟩] sc _=>(kE ct it).bind λx=>(YK (ct.block sc).1 tg).bind λg=>(Lg (ct.block sc).1 ifs).bind λcs=>(kE (ct.block sc).1 elt).bind λe=>
  if decide (ia=0) && decide (cs.length<=1) && Rm ct.N ct.sc (ct.block sc).1.N sc (ct.block sc).2 && decide ((ct.block sc).1.N.Nodup)then some (.comp g (Bd x).1 (Bd x).2 cs e (ct.block sc).2)else none
 |.Call (.Name x _) args [] _=>
   if ct.own x then(if x="isinstance" then(cS args).bind λy=>(dZ ct args).bind λt=>if ct.own y then(tyName y).map λk=>.prim (.FC k) [t]else none else(Lg ct args).bind (bR x))
   else if ct.glob x then(Lg ct args).bind (QE ct x)else none
 |.Call (.Attribute (.Name x _) m apos) args [] pos=>if bF m args.length apos pos then(ct.slot x).bind λi=>(Lg ct args).bind (kM m i)else none
 |_=>none
noncomputable def Lg (ct:Ct):List Expr->Option (List T)
 |[]=>some []
 |e::es=>(kE ct e).bind λt=>(Lg ct es).map λts=>t::ts
noncomputable def dZ (ct:Ct):List Expr->Option T
 |[]=>none
 |e::_=>kE ct e
noncomputable def kO (ct:Ct):Option Expr->Option (List T)
 |none=>some []
 |some e=>(kE ct e).map λt=>[t]
noncomputable def kB (ct:Ct) (op:PySem.BoolOp):List Expr->Option T
 |[]=>none
 |[e]=>kE ct e
 |e::es=>(kE ct e).bind λx=>(kB ct op es).map λy=>match op with| .And=>.and x y| .Or=>.or x y
end
def BW:Expr->Bool
 |.ListComp _ _ _ _=>true
 |.SetComp _ _ _ _=>true
 |.DictComp _ _ _ _ _=>true
 |_=>false
def KU(ct:Ct):Expr->Option S
 |.Call (.Attribute (.Name x _) m apos) [] [] pos=>if m="clear"/\(apos.endLine == pos.line)=true then(ct.slot x).map .aT else none
 |_=>none
def Sn:Str:="TooGreat"
def LU(ct:Ct):Option Expr->Option Expr->Option S
 |some (.Call (.Name x _) [.Constant .none _ _] [] _),none=>if ct.glob x && decide (x=Sn)then(ct.cls.lookup x).map .raise else none
 |_,_=>none
def eK:Expr->Bool
 |.Call (.Name x _) _ _ _=>decide (x="kinds_by_leader")
 |_=>false
def Oj(ct:Ct)(h:Option (Nat×P)):Expr->Expr->Option S
 |.Name y _,.Call (.Name x _) (a::args) [] _=>if ct.glob x then(ct.Dm y).bind λi=>(ct.fns.lookup x).bind λf=>(Lg ct (a::args)).map λts=>.OM i f ts h else none
 |_,_=>none
noncomputable def Xw(ct:Ct):List Stmt->List ExceptHandler->List Stmt->List Stmt->Option S
 |[.Assign [tg] e _],[.ExceptHandler (some (.Name x _)) none [.Return (some (.Constant (.str z) _ _)) _] _],[],[]=>if ct.glob x && decide (x=Sn)then(ct.cls.lookup x).bind λc=>Oj ct (some (c,.str z)) tg e else none
 |_,_,_,_=>none
mutual
noncomputable def kS (ct:Ct):Stmt->Option S
 | .Assign [tg] e _=>if eK e then Oj ct none tg e else(kE ct e).bind λt=>match tg with
   |.Name x _=>(ct.Dm x).map λi=>.asg i t
   |.Subscript (.Name x _) i _=>(ct.slot x).bind λj=>(kE ct i).map λb=>.E5 (.var j) b t
   |.Subscript (.Attribute (.Name x _) f _) i _=>(ct.slot x).bind λj=>(kE ct i).map λb=>.E5 (.fld j f) b t
   |.Attribute (.Name x _) f _=>(ct.slot x).map λi=>.NV i f t
   |_=>none
 | .Expr e _=>match KU ct e with
   |some s=>some s
   |none=>if BW e then none else(kE ct e).map .expr
 |.Return (some e) _=>(kE ct e).map .ret
 |.If c a b _=>(kE ct c).bind λt=>(QD ct a).bind λx=>(QD ct b).map λy=>.ifs t x y
 |.While c b [] _=>(kE ct c).bind λt=>(QD ct b).map λx=>.Lc t x
 |.For tg it b [] _=>(YK ct tg).bind λg=>(kE ct it).bind λt=>(QD ct b).map λx=>.CB g (Bd t).1 (Bd t).2 x
 |.Continue _=>some .cnt
 |.Raise e c _=>LU ct e c
 |.Try b h o f _=>Xw ct b h o f
 |_=>none
noncomputable def QD (ct:Ct):List Stmt->Option (List S)
 |[]=>some []
 |s::ss=>(kS ct s).bind λt=>(QD ct ss).map λts=>t::ts
end
def eN:Stmt->Str
 |.FunctionDef n ..=>n
 |_=>⟨#[]⟩
def Jz:Stmt->Scope
 |.FunctionDef _ _ _ _ _ _ sc ..=>sc
 |_=>⟨.module,[],false,false,[]⟩
def R9:Stmt->List Stmt
 |.FunctionDef _ _ b ..=>b
 |_=>[]
def EM:Stmt->List Str
 |.FunctionDef _ a ..=>a.args.map (·.arg)
 |_=>[]
def namesOf(st:Stmt):List Str:=
 let ps:=EM st
 ps++((Jz st).names.filter λq=>(q.2 == .local || q.2 == .cell) && !ps.contains q.1).map (·.1)
def Ux(st:Stmt)(fn cl:List (Str×Nat))(gl:List (Str×P))(sub:List (Str×List Nat)):Ct:=⟨namesOf st,Jz st,fn,cl,gl,sub,true⟩
def bN(st:Stmt)(ct:Ct):Option NH:=(QD ct (R9 st)).map λb=>⟨(EM st).length,ct.N.length,b⟩
end Iv
namespace Iv
open PySem L2
structure Wd where
 K:PySem.W.Frag
 w:World
 DG:Nat->Addr
 Jr:Nat->Addr
mutual
def Al (W:Wd) (H:Hp):P->V->Prop
 |.AI,v=>v= .AI
 |.bl b,v=>v= .bl b
 |.int i,v=>v= .int i
 |.str x,v=>v= .str x
 |.tup ps,v=>∃a vs,v= .ref a/\El W.K H a vs/\A7 W H ps vs
def A7 (W:Wd) (H:Hp):List P->List V->Prop
 |[],vs=>vs=[]
 |p::ps,vs=>∃v r,vs=v::r/\Al W H p v/\A7 W H ps r
end
def B0(H H':Hp):Prop:=∀a,(∀xs,H a=some (.tup xs)->H' a=some (.tup xs))/\∀o u,H a=some (.M7 o u)->H' a=some (.M7 o u)
variable{H H1 H2:Hp}
theorem B0.trans(a:B0 H H1)(b:B0 H1 H2):B0 H H2:=λc=>⟨λxs h=>(b c).1 xs ((a c).1 xs h),λo u h=>(b c).2 o u ((a c).2 o u h)⟩
variable{H':Hp}
theorem B0.of(h:D2 H H'):B0 H H':=λa=>⟨λ_ q=>h a _ q,λ_ _ q=>h a _ q⟩
variable{xs:List V}
theorem B0.fc{K:PySem.W.Frag}(k:B0 H H')(h:El K H a xs):El K H' a xs:=by
 rcases h with(h|⟨o,h⟩)|h
 .exact .inl (.inl ((k a).1 _ h))
 .exact .inl (.inr ⟨o,(k a).2 _ _ h⟩)
 .exact .inr h
mutual
theorem Al.mono {W:Wd} {H H':Hp} (k:B0 H H'):∀{p:P} {v:V},Al W H p v->Al W H' p v
 |.AI,_,h=>h
 |.bl _,_,h=>h
 |.int _,_,h=>h
 |.str _,_,h=>h
 | .tup ps,v,h=>by
   unfold Al at h ⊢;obtain⟨a,vs,e,h1,h2⟩:=h;exact⟨a,vs,e,k.fc h1,A7.mono k h2⟩
theorem A7.mono {W:Wd} {H H':Hp} (k:B0 H H'):∀{ps:List P} {vs:List V},A7 W H ps vs->A7 W H' ps vs
 |[],_,h=>h
 | p::ps,vs,h=>by
   unfold A7 at h ⊢;obtain⟨v,r,e,h1,h2⟩:=h;exact⟨v,r,e,Al.mono k h1,A7.mono k h2⟩
end
variable{W:Wd}
theorem A7.nil:A7 W H [] []:=rfl
theorem A7.cons{W:Wd}{H:Hp}{ps:List P}{vs:List V}(h:Al W H p v)(t:A7 W H ps vs):A7 W H (p::ps) (v::vs):=by unfold A7;exact⟨v,vs,rfl,h,t⟩
variable{vs:List V}
theorem A7.AF{p:P}{v:V}{ps:List P}(h:A7 W H (p::ps) (v::vs)):Al W H p v/\A7 W H ps vs:=by
 unfold A7 at h;obtain⟨_,_,e,h1,h2⟩:=h;cases e;exact⟨h1,h2⟩
theorem A7.length:∀{ps:List P} {vs:List V},A7 W H ps vs->vs.length=ps.length
 | [],vs,h=>by
   unfold A7 at h;rw[h];rfl
 | p::ps,vs,h=>by
   unfold A7 at h;obtain⟨v,r,e,_,h2⟩:=h;rw[e,lC,lC,A7.length h2]
theorem A7.append{qs:List P}{ws:List V}(k:A7 W H qs ws):∀{ps:List P} {vs:List V},A7 W H ps vs->A7 W H (ps++qs) (vs++ws)
 | [],vs,h=>by
   unfold A7 at h;rw[h];exact k
 | p::ps,vs,h=>by
   unfold A7 at h;obtain⟨v,r,e,h1,h2⟩:=h;rw[e];exact .cons h1 (A7.append k h2)
theorem A7.get:∀{ps:List P} {vs:List V} {i:Nat} {p:P},A7 W H ps vs->ps[i]? =some p->∃v,vs[i]? =some v/\Al W H p v
 |[],vs,i,p,_,e=>by simp at e
 | q ::ps,vs,i,p,h,e=>by
   unfold A7 at h;obtain⟨v,r,e',h1,h2⟩:=h;subst e';cases i with
   |zero=>
     simp at e;subst e;exact⟨v,rfl,h1⟩
   |succ i=>
     obtain⟨u,g1,g2⟩:=A7.get (i:=i) h2 (by simpa using e);exact⟨u,by simpa using g1,g2⟩
theorem A7.get':∀{ps:List P} {vs:List V} {i:Nat} {v:V},A7 W H ps vs->vs[i]? =some v->∃p,ps[i]? =some p/\Al W H p v
 | [],vs,i,p,h,e=>by
   unfold A7 at h;rw[h]at e;simp at e
 | q ::ps,vs,i,p,h,e=>by
   unfold A7 at h;obtain⟨v,r,e',h1,h2⟩:=h;subst e';cases i with
   |zero=>
     simp at e;subst e;exact⟨q,rfl,h1⟩
   |succ i=>
     obtain⟨u,g1,g2⟩:=A7.get' (i:=i) h2 (by simpa using e);exact⟨u,by simpa using g1,g2⟩
theorem A7.drop{ps:List P}(h:A7 W H ps vs)(n:Nat):A7 W H (ps.drop n) (vs.drop n):=by
 induction n generalizing ps vs with
 |zero=>exact h
 |succ n ih=>
   cases ps with
   |nil=>unfold A7 at h;rw[h];simp;exact .nil
   |cons p ps=>
     cases vs with
     |nil=>unfold A7 at h;obtain⟨_,_,e,_⟩:=h;cases e
     |cons v vs=>exact ih h.AF.2
theorem A7.take{ps:List P}(h:A7 W H ps vs)(n:Nat):A7 W H (ps.take n) (vs.take n):=by
 induction n generalizing ps vs with
 |zero=>simp;exact .nil
 |succ n ih=>
   cases ps with
   |nil=>unfold A7 at h;rw[h];simp;exact .nil
   |cons p ps=>
     cases vs with
     |nil=>unfold A7 at h;obtain⟨_,_,e,_⟩:=h;cases e
     |cons v vs=>exact .cons h.AF.1 (ih h.AF.2)
theorem A7.reverse{ps:List P}(h:A7 W H ps vs):A7 W H ps.reverse vs.reverse:=by
 induction ps generalizing vs with
 |nil=>unfold A7 at h;rw[h];exact .nil
 |cons p ps ih=>
   cases vs with
   |nil=>unfold A7 at h;obtain⟨_,_,e,_⟩:=h;cases e
   |cons v vs=>
     rw[reverse_cons,reverse_cons];exact A7.append (.cons h.AF.1 .nil) (ih h.AF.2)
mutual
def CS (w:World):P->Int
 |.int i=>hashInt i
 |.str x=>hashStr w x
 |.tup ps=>reduceHash (Builtin.Tuple.tupleHashOf (Hm w ps))
 |_=>0
def Hm (w:World):List P->List Int
 |[]=>[]
 |p::ps=>CS w p::Hm w ps
end
def DX(a:Addr)(es:List DictEntry):HO:=.ext λh=>∃o,h.get? a=some o/\o.ExactDict/\o.data= .dict es.toArray es.length
def ES(W:Wd)(H:Hp)(q:P×P)(e:DictEntry):Prop:=e.hash=CS W.w q.1/\(∃k,RelV k e.key/\Al W H q.1 k)/\∃v,RelV v e.val/\Al W H q.2 v
structure CY(W:Wd)(H:Hp)(a:Addr)(kvs:List (P×P)):Prop where
 ex:∃es:List DictEntry,H a=some (DX a es)/\Paired (ES W H) kvs es
 nd:(kvs.map (·.1)).Nodup
 ks:∀q∈kvs,keyOk q.1=true
 len:kvs.length<=big
 sm:(a == sysModules)=false
theorem ES.mono(k:B0 H H'){q:P×P}{e:DictEntry}(h:ES W H q e):ES W H' q e:=
 ⟨h.1,let⟨v,a,b⟩:=h.2.1;⟨v,a,b.mono k⟩,let⟨v,a,b⟩:=h.2.2;⟨v,a,b.mono k⟩⟩
theorem CY.mono{kvs:List (P×P)}(k:B0 H H')(h:CY W H a kvs)(ha:H' a=H a):CY W H' a kvs:=
 ⟨let⟨es,e,r⟩:=h.ex;⟨es,by rw[ha];exact e,Paired.Qm r λ_ _ z=>z.mono k⟩,h.nd,h.ks,h.len,h.sm⟩
def UX(K:PySem.W.Frag)(H:Hp)(a:Addr)(xs:List V):Prop:=(∃o,H a=some (.M7 o (.lst xs)))\/
    ∃(o:Obj) (its:Array Value) (n:Nat),K.lookup a=some o/\o.cls= .type "list"/\o.dict=none/\o.data= .seq its n/\its.size<=sizeLine/\Vals xs its.toList
theorem UX.mono{K:PySem.W.Frag}(k:B0 H H')(h:UX K H a xs):UX K H' a xs:=by
 rcases h with⟨o,h⟩|h
 .exact .inl ⟨o,(k a).2 _ _ h⟩
 .exact .inr h
theorem UX.sq{K:PySem.W.Frag}(h:UX K H a xs):Dk K H a xs:=by
 rcases h with⟨o,h⟩|h
 .exact .inl (.inr ⟨o,h⟩)
 .exact .inr h
noncomputable def BZ(W:Wd)(H:Hp):B->V->List Addr->Prop
 |.p x,v,o=>Al W H x v/\o=[]
 |.ro ps,v,o=>(∃a vs,v= .ref a/\UX W.K H a vs/\A7 W H ps vs)/\o=[]
 |.lst ps,v,o=>∃a vs,v= .ref a/\H a=some (.lst vs)/\A7 W H ps vs/\o=[a]
 |.AB kvs,v,o=>∃a,v= .ref a/\CY W H a kvs/\o=[a]
def Bv(W:Wd)(H:Hp):List (Str×B)->List (Str×V)->List Addr->Prop
 |[],vs,o=>vs=[]/\o=[]
 |(f,b)::fs,vs,o=>∃v r o1 o2,vs=(f,v)::r/\BZ W H b v o1/\Bv W H fs r o2/\o=o1++o2
def V0(W:Wd)(c:Nat)(fs:List (Str×B)):Prop:=FA W.K (W.DG c)/\∀q∈fs,C2 W.K (W.DG c) q.1
theorem Kk{f:Str}{b:B}:∀{fs:List (Str×B)} {q:Str×B},q∈Bg f b fs->q.1=f\/∃q'∈fs,q'.1=q.1
 | [],q,h=>by
   have h:q∈[(f,b)]:=h;rw[mE h];exact .inl rfl
 | (g, c)::fs,q,h=>by
   unfold Bg at h;split at h
   .rename_i hg;rcases mK h with z|z
    .rw[z];exact .inl hg
    .exact .inr ⟨q,mC z,rfl⟩
   .rcases mK h with z|z
    .rw[z];exact .inr ⟨(g,c),mS,rfl⟩
    .rcases Kk z with y|⟨q',y1,y2⟩
     .exact .inl y
     .exact .inr ⟨q',mC y1,y2⟩
theorem V0.put{c:Nat}{fs:List (Str×B)}(h:V0 W c fs)(n:C2 W.K (W.DG c) f):V0 W c (Bg f b fs):=⟨h.1,λq hq=>by
 rcases Kk hq with z|⟨q',z1,z2⟩
 .rw[z];exact n
 .rw[<-z2];exact h.2 q' z1⟩
def Bk(W:Wd)(H:Hp):C->V->List Addr->Prop
 |.b x,v,o=>BZ W H x v o
 |.obj c fs,v,o=>∃a dx vs os,v= .ref a/\H a=some (.ins (W.DG c) dx vs)/\Bv W H fs vs os/\o=a::os/\V0 W c fs
def Mu(x:HO):Prop:=(∀xs,x≠.tup xs)/\∀o u,x≠.M7 o u
theorem BZ.own(h:BZ W H b v o):∀a∈o,∃x,H a=some x/\Mu x:=by
 cases b with
 |p x=>rw[h.2];intro a ha;cases ha
 |ro x=>rw[h.2];intro a ha;cases ha
 |lst ps=>
   obtain⟨a,vs,e,ha,_,rfl⟩:=h;intro b hb;rw[mE hb];exact⟨_,ha,λ_ z=>HO.noConfusion z,λ_ _ z=>HO.noConfusion z⟩
 |AB kvs=>
   obtain⟨a,e,ha,rfl⟩:=h;intro b hb;rw[mE hb];obtain⟨es,h1,_⟩:=ha.ex;exact⟨_,h1,λ_ z=>HO.noConfusion z,λ_ _ z=>HO.noConfusion z⟩
theorem Bv.own:∀{fs:List (Str×B)} {vs:List (Str×V)} {o:List Addr},Bv W H fs vs o->∀a∈o,∃x,H a=some x/\Mu x
 |[],_,_,h=>by rw[h.2];intro a ha;cases ha
 | (f,b)::fs,_,_,⟨v,r,o1,o2,_,h1,h2,e⟩=>by
   rw[e];intro a ha;rcases mem_append.mp ha with z|z
   .exact h1.own a z
   .exact Bv.own h2 a z
theorem Bk.own(h:Bk W H c v o):∀a∈o,∃x,H a=some x/\Mu x:=by
 cases c with
 |b x=>exact BZ.own h
 |obj c fs=>
   obtain⟨a,dx,vs,os,e,ha,hf,rfl,_⟩:=h;intro b hb;rcases mK hb with z|z
   .rw[z];exact⟨_,ha,λ_ z=>HO.noConfusion z,λ_ _ z=>HO.noConfusion z⟩
   .exact hf.own b z
def IE(os:List Addr)(H H':Hp):Prop:=∀b x,H b=some x->b∉os->H' b=some x
theorem IE.keep{os:List Addr}(h:IE os H H')(m:∀a∈os,∃x,H a=some x/\Mu x):B0 H H':=λa=>by
 refine⟨λxs e=>h a _ e λz=>?_,λo u e=>h a _ e λz=>?_⟩
 .obtain⟨x,e',m1,_⟩:=m a z;rw[e]at e';exact m1 xs (Option.some.inj e').symm
 .obtain⟨x,e',_,m2⟩:=m a z;rw[e]at e';exact m2 o u (Option.some.inj e').symm
theorem IE.refl(os:List Addr)(H:Hp):IE os H H:=λ_ _ h _=>h
theorem IE.of(os:List Addr)(h:D2 H H'):IE os H H':=λb x e _=>h b x e
theorem BZ.frame{os:List Addr}(h:BZ W H b v o)(k:B0 H H')(f:IE os H H')(d:∀a∈o,a∉os):BZ W H' b v o:=by
 cases b with
 |p x=>exact⟨h.1.mono k,h.2⟩
 |ro x=>
   obtain⟨⟨a,vs,e,h1,h2⟩,h3⟩:=h;exact⟨⟨a,vs,e,h1.mono k,h2.mono k⟩,h3⟩
 |lst ps=>
   obtain⟨a,vs,e,ha,hp,rfl⟩:=h;exact⟨a,vs,e,f _ _ ha (d a mS),hp.mono k,rfl⟩
 |AB kvs=>
   obtain⟨a,e,ha,rfl⟩:=h;obtain⟨es,h1,_⟩:=ha.ex;exact⟨a,e,ha.mono k (by rw[h1];exact f _ _ h1 (d a mS)),rfl⟩
theorem Bv.frame{os:List Addr}(k:B0 H H')(f:IE os H H'):∀{fs:List (Str×B)} {vs:List (Str×V)} {o:List Addr},Bv W H fs vs o->(∀a∈o,a∉os)->Bv W H' fs vs o
 |[],_,_,h,_=>h
 | (g,b)::fs,_,_,⟨v,r,o1,o2,e1,h1,h2,e⟩,d=>by
   subst e;exact⟨v,r,o1,o2,e1,h1.frame k f (λa ha=>d a (mL ha)),Bv.frame k f h2 (λa ha=>d a (mR ha)),rfl⟩
theorem Bk.frame{os:List Addr}(h:Bk W H c v o)(k:B0 H H')(f:IE os H H')(d:∀a∈o,a∉os):Bk W H' c v o:=by
 cases c with
 |b x=>exact BZ.frame h k f d
 |obj c fs=>
   obtain⟨a,dx,vs,os',e,ha,hf,rfl,Af⟩:=h;exact⟨a,dx,vs,os',e,f _ _ ha (d a mS),hf.frame k f (λb hb=>d b (mC hb)),rfl,Af⟩
theorem Bk.cp{c:C}(h:Bk W H c v o)(hc:c.cp=true):o=[]:=by
 cases c with
 |obj c fs=>cases hc
 |b x=>
   cases x with
   |p x=>exact h.2
   |ro x=>exact h.2
   |lst x=>cases hc
   |AB x=>cases hc
def Aa(W:Wd)(H:Hp):Env->St->List Addr->Prop
 |[],σ,os=>σ=[]/\os=[]
 |none::ρ,σ,os=>∃x r,σ=x::r/\Aa W H ρ r os
 |some c::ρ,σ,os=>∃v r o o2,σ=some v::r/\Bk W H c v o/\Aa W H ρ r o2/\os=o++o2
theorem Aa.own:∀{ρ:Env} {σ:St} {os:List Addr},Aa W H ρ σ os->∀a∈os,∃x,H a=some x/\Mu x
 |[],_,_,h=>by rw[h.2];intro a ha;cases ha
 |none::ρ,_,_,⟨x,r,_,h⟩=>Aa.own h
 | some c::ρ,_,_,⟨v,r,o1,o2,_,h1,h2,e⟩=>by
   rw[e];intro a ha;rcases mem_append.mp ha with z|z
   .exact h1.own a z
   .exact Aa.own h2 a z
theorem Aa.length:∀{ρ:Env} {σ:St} {os:List Addr},Aa W H ρ σ os->σ.length=ρ.length
 |[],_,_,h=>by rw[h.1];rfl
 |none::ρ,_,_,⟨x,r,e,h⟩=>by rw[e,lC,lC,Aa.length h]
 |some c::ρ,_,_,⟨v,r,o1,o2,e,h1,h2,_⟩=>by rw[e,lC,lC,Aa.length h2]
theorem Aa.frame{os:List Addr}(k:B0 H H')(f:IE os H H'):∀{ρ:Env} {σ:St} {o:List Addr},Aa W H ρ σ o->(∀a∈o,a∉os)->Aa W H' ρ σ o
 |[],_,_,h,_=>h
 |none::ρ,_,_,⟨x,r,e,h⟩,d=>⟨x,r,e,Aa.frame k f h d⟩
 | some c::ρ,_,_,⟨v,r,o1,o2,e1,h1,h2,e⟩,d=>by
   subst e;exact⟨v,r,o1,o2,e1,h1.frame k f (λa ha=>d a (mL ha)),Aa.frame k f h2 (λa ha=>d a (mR ha)),rfl⟩
theorem Aa.same{σ:St}{os:List Addr}(h:Aa W H ρ σ os)(s:D2 H H'):Aa W H' ρ σ os:=h.frame (os:=[]) (B0.of s) (IE.of _ s) (λ_ _ z=>by cases z)
theorem Ey(x:Option C)(ρ:Env)(i:Nat):A8 (x::ρ) (i+1)=A8 ρ i:=rfl
theorem Im(x:Option C)(ρ:Env):A8 (x::ρ) 0=x:=rfl
theorem Aa.take:∀{ρ:Env} {σ:St} {os:List Addr} {i:Nat} {c:C},Aa W H ρ σ os->A8 ρ i=some c->
 ∃v o os',σ[i]? =some (some v)/\Bk W H c v o/\Aa W H (ρ.set i none) σ os'/\(o++os').Perm os
 |[],_,_,i,c,_,e=>by simp[A8]at e
 | x::ρ,σ,os,0,c,h,e=>by
   rw[Im]at e;subst e;obtain⟨v,r,o,o2,e1,h1,h2,e2⟩:=h;subst e1 e2;exact⟨v,o,o2,rfl,h1,⟨some v,r,rfl,h2⟩,.refl _⟩
 | none::ρ,σ,os,i + 1,c,⟨x,r,e1,h⟩,e=>by
   rw[Ey]at e;subst e1;obtain⟨v,o,os',g1,g2,g3,g4⟩:=Aa.take h e;exact⟨v,o,os',by simpa using g1,g2,⟨x,r,rfl,g3⟩,g4⟩
 | some d::ρ,σ,os,i + 1,c,⟨u,r,o1,o2,e1,h1,h2,e2⟩,e=>by
   rw[Ey]at e;subst e1 e2;obtain⟨v,o,os',g1,g2,g3,g4⟩:=Aa.take h2 e;refine⟨v,o,o1++os',by simpa using g1,g2,⟨u,r,o1,os',rfl,h1,g3,rfl⟩,?_⟩;refine List.Perm.trans ?_ (g4.append_left o1);rw[<-append_assoc,<-append_assoc];exact perm_append_comm.append_right os'
theorem Aa.get{σ:St}{os:List Addr}{i:Nat}{c:C}(h:Aa W H ρ σ os)(e:A8 ρ i=some c):∃v o,σ[i]? =some (some v)/\Bk W H c v o/\∀a∈o,a∈os:=by
 obtain⟨v,o,os',g1,g2,g3,g4⟩:=h.take e;exact⟨v,o,g1,g2,λa ha=>g4.subset (mL ha)⟩
variable{ρ:Env}
theorem Aa.drop{σ:St}{os:List Addr}(h:Aa W H ρ σ os)(i:Nat):∃os',Aa W H (ρ.set i none) σ os'/\∃o,(o++os').Perm os:=by
 cases e:A8 ρ i with
 |some c=>
   obtain⟨v,o,os',_,_,g3,g4⟩:=h.take e;exact⟨os',g3,o,g4⟩
 |none=>
   have:ρ.set i none=ρ:=by
    apply ext_getElem?;intro j;rw[List.getElem?_set];split
    .rename_i hj;subst hj;split
     .rename_i hl;unfold A8 at e;rw[List.getElem?_eq_getElem hl]at e ⊢;have e:ρ[i]=none:=e;rw[e]
     .rename_i hl;rw[List.getElem?_eq_none (by lia)]
    .rfl
   rw[this];exact⟨os,h,[],.refl _⟩
theorem Aa.fill(hc:Bk W H c v o):∀{ρ:Env} {σ:St} {os:List Addr} {i:Nat},Aa W H ρ σ os->A8 ρ i=none->i < ρ.length->
 ∃os',Aa W H (ρ.set i (some c)) (σ.set i (some v)) os'/\os'.Perm (o++os)
 |[],_,_,i,_,_,hi=>absurd hi (by simp)
 | x::ρ,σ,os,0,h,e,_=>by
   rw[Im]at e;subst e;obtain⟨y,r,e1,h1⟩:=h;subst e1;exact⟨o++os,⟨v,r,o,os,rfl,hc,h1,rfl⟩,.refl _⟩
 | none::ρ,σ,os,i + 1,⟨x,r,e1,h⟩,e,hi=>by
   rw[Ey]at e;subst e1;obtain⟨os',g1,g2⟩:=Aa.fill hc h e (by simpa using hi);exact⟨os',⟨x,_,rfl,g1⟩,g2⟩
 | some d::ρ,σ,os,i + 1,⟨u,r,o1,o2,e1,h1,h2,e2⟩,e,hi=>by
   rw[Ey]at e;subst e1 e2;obtain⟨os',g1,g2⟩:=Aa.fill hc h2 e (by simpa using hi);refine⟨o1++os',⟨u,_,o1,os',rfl,h1,g1,rfl⟩,?_⟩;refine List.Perm.trans (g2.append_left o1) ?_;rw[<-append_assoc,<-append_assoc];exact perm_append_comm.append_right o2
theorem BS{i:Nat}(h:i < ρ.length):A8 (ρ.set i x) i=x:=by
 unfold A8;rw[List.getElem?_set_self h];rfl
theorem D9{i:Nat}{c:C}(h:A8 ρ i=some c):i < ρ.length:=by
 unfold A8 at h;rcases Nat.lt_or_ge i ρ.length with z|z
 .exact z
 .rw[List.getElem?_eq_none z]at h;cases h
theorem set_same{α:Type}{l:List α}{i:Nat}{x:α}(h:l[i]? =some x):l.set i x=l:=by
 apply ext_getElem?;intro j;rw[List.getElem?_set];split
 .rename_i e;subst e;split
  .exact h.symm
  .rename_i hl;rw[List.getElem?_eq_none (by lia)]
 .rfl
theorem Aa.put(hc:Bk W H c v o){σ:St}{os:List Addr}{i:Nat}(h:Aa W H ρ σ os)(hi:i < ρ.length):
 ∃os' od,Aa W H (ρ.set i (some c)) (σ.set i (some v)) (os')/\(od++os').Perm (o++os):=by
 obtain⟨os1,h1,o1,p1⟩:=h.drop i;obtain⟨os2,h2,p2⟩:=Aa.fill hc h1 (BS hi) (by simpa using hi);rw[set_set]at h2;refine⟨os2,o1,h2,?_⟩;refine(p2.append_left o1).trans ?_;refine List.Perm.trans ?_ (p1.append_left o);rw[<-append_assoc,<-append_assoc];exact perm_append_comm.append_right os1
structure Ba(H H':Hp)(os os':List Addr):Prop where
 but:IE os H H'
 src:∀a∈os',a∈os\/H a=none
 there:∀b x,H b=some x->∃x',H' b=some x'
theorem Ba.refl(H:Hp)(os:List Addr):Ba H H os os:=⟨IE.refl _ _,λ_ h=>.inl h,λ_ x h=>⟨x,h⟩⟩
variable{os1 os2:List Addr}
theorem Ba.trans{os:List Addr}(a:Ba H H1 os os1)(b:Ba H1 H2 os1 os2):Ba H H2 os os2 where
 but:=λx o e n=>b.but x o (a.but x o e n) λz=>by
  rcases a.src x z with q|q
  .exact n q
  .rw[e]at q;cases q
 src :=λx hx=>by
  rcases b.src x hx with q|q
  .exact a.src x q
  .refine .inr ?_;cases e:H x with
   |none=>rfl
   |some o=>obtain⟨o',e'⟩:=a.there x o e;rw[q]at e';cases e'
 there:=λx o e=>by
  obtain⟨o',e'⟩:=a.there x o e;exact b.there x o' e'
variable{os':List Addr}
theorem Ba.of(s:D2 H H'){os:List Addr}(h:∀a∈os',a∈os\/H a=none):Ba H H' os os':=⟨IE.of _ s,h,λb x e=>⟨x,s b x e⟩⟩
theorem Ba.sub{os:List Addr}(a:Ba H H' os os')(h:∀x∈os2,x∈os'):Ba H H' os os2:=⟨a.but,λx hx=>a.src x (h x hx),a.there⟩
theorem Ba.more{os:List Addr}(a:Ba H H' os os')(r:List Addr):Ba H H' (r++os) (r++os'):=
 ⟨λb x e n=>a.but b x e λz=>n (mR z),λx hx=>by
   rcases mem_append.mp hx with z|z
   .exact .inl (mL z)
   .rcases a.src x z with q|q
    .exact .inl (mR q)
    .exact .inr q,a.there⟩
theorem Ba.perm{os os1':List Addr}(a:Ba H H' os os')(h:os.Perm os1)(h':os'.Perm os1'):Ba H H' os1 os1':=
 ⟨λb x e n=>a.but b x e λz=>n (h.subset z),λx hx=>by
   rcases a.src x (h'.symm.subset hx)with q|q
   .exact .inl (h.subset q)
   .exact .inr q,a.there⟩
noncomputable def Em(W:Wd)(H:Hp):C->V->Prop
 |.b (.p x),v=>Al W H x v
 |.b (.ro ps),v=>∃a vs,v= .ref a/\UX W.K H a vs/\A7 W H ps vs
 |.b (.lst ps),v=>∃a vs,v= .ref a/\H a=some (.lst vs)/\A7 W H ps vs
 |.b (.AB kvs),v=>∃a,v= .ref a/\CY W H a kvs
 |.obj c _,v=>∃a dx vs,v= .ref a/\H a=some (.ins (W.DG c) dx vs)
theorem BZ.rd(h:BZ W H b v o):Em W H (.b b) v:=by
 cases b with
 |p x=>exact h.1
 |ro ps=>obtain⟨⟨a,vs,e,h1,h2⟩,_⟩:=h;exact⟨a,vs,e,h1,h2⟩
 |lst ps=>obtain⟨a,vs,e,h1,h2,_⟩:=h;exact⟨a,vs,e,h1,h2⟩
 |AB kvs=>obtain⟨a,e,h1,_⟩:=h;exact⟨a,e,h1⟩
theorem Bk.rd(h:Bk W H c v o):Em W H c v:=by
 cases c with
 |b b=>exact BZ.rd h
 |obj c fs=>obtain⟨a,dx,vs,os,e,h1,_⟩:=h;exact⟨a,dx,vs,e,h1⟩
theorem Bv.look:∀{fs:List (Str×B)} {vs:List (Str×V)} {o:List Addr} {b:B},Bv W H fs vs o->fs.lookup f=some b->∃v o',vs.lookup f=some v/\BZ W H b v o'/\∀a∈o',a∈o
 |[],_,_,_,_,e=>by simp at e
 | (g,c)::fs,_,_,b,⟨v,r,o1,o2,e1,h1,h2,e⟩,el=>by
   subst e1 e;rw[lookup_cons]at el ⊢;cases hg:f == g with
   |true=>
     rw[hg]at el;cases el;exact⟨v,o1,rfl,h1,λa ha=>mL ha⟩
   |false=>
     rw[hg]at el;obtain⟨u,o',g1,g2,g3⟩:=Bv.look h2 el;exact⟨u,o',g1,g2,λa ha=>mR (g3 a ha)⟩
section
variable (W:Wd){α β:Type}
def Cs(rep:Hp->Env->α->β->List Addr->Prop)(H:Hp)(os:List Addr)(σ:St)(r:Res α)(Q:β->Hp->Prop):Prop:=match r with
 |.stuck=>False
 |.ok a ρ'=>∀b H' o os',rep H' ρ' a b o->Aa W H' ρ' σ os'->(o++os').Nodup->Ba H H' os (o++os')->Q b H'
def tG(rep:St->Hp->Env->α->β->List Addr->Prop)(F:Env->Res α):St->Hp->(β->Hp->Prop)->Prop:=λσ H Q=>∃ρ os,Aa W H ρ σ os/\os.Nodup/\Cs W (rep σ) H os σ (F ρ) Q
def rV:St->Hp->Env->C->V->List Addr->Prop:=λ_ H _ c v o=>Bk W H c v o
def ER:St->Hp->Env->Hd->V->List Addr->Prop:=λσ H _ h v o=>match h with
 |.Bt c=>Bk W H c v o
 |.slot i=>σ[i]? =some (some v)/\o=[]
 |.fld i f=>o=[]/\∃a C dx fs,σ[i]? =some (some (.ref a))/\H a=some (.ins C dx fs)/\fs.lookup f=some v
def Bn:St->Hp->Env->List Hd->List V->List Addr->Prop
 |_,_,_,[],vs,o=>vs=[]/\o=[]
 |σ,H,ρ,h::hs,vs,o=>∃v r o1 o2,vs=v::r/\ER W σ H ρ h v o1/\Bn σ H ρ hs r o2/\o=o1++o2
def dQ:St->Hp->Env->List P->List V->List Addr->Prop:=λ_ H _ ps vs o=>A7 W H ps vs/\o=[]
def rB:St->Hp->Env->Bool->Bool->List Addr->Prop:=λ_ _ _ b b' o=>b=b'/\o=[]
end
variable{W:Wd}{α β γ δ:Type}
theorem Ba.weak{os:List Addr}(a:Ba H H' os os')(h:∀x∈os,x∈os2):Ba H H' os2 os':=
 ⟨λb x e n=>a.but b x e λz=>n (h b z),λx hx=>(a.src x hx).imp (h x) id,a.there⟩
variable{o1:List Addr}
theorem TH{o2:List Addr}(n1:(o1++os1).Nodup)(n2:(o2++os2).Nodup)(own:∀a∈o1,∃z,H1 a=some z)(src:∀a∈o2++os2,a∈os1\/H1 a=none):((o1++o2)++os2).Nodup:=by
 rw[append_assoc,nodup_append];have n1':=nA n1;refine⟨n1'.1,n2,λa ha b hb e=>?_⟩;subst e;rcases src a hb with z|z
 .exact n1'.2.2 a ha a z rfl
 .obtain⟨x,ex⟩:=own a ha;rw[z]at ex;cases ex
variable{rep:Hp->Env->α->β->List Addr->Prop}
theorem Cs.imp{os:List Addr}{σ:St}{r:Res α}{Q Q':β->Hp->Prop}(h:Cs W rep H os σ r Q)(k:∀b H',Q b H'->Q' b H'):Cs W rep H os σ r Q':=by
 unfold Cs at h ⊢;cases r with
 |stuck=>exact h
 |ok a ρ'=>exact λb H' o os' r1 r2 r3 r4=>k _ _ (h b H' o os' r1 r2 r3 r4)
theorem EA{σ:St}{os:List Addr}{h:Hd}{c:C}(hR:Aa W H ρ σ os)(hh:ER W σ H ρ h v o)(e:h.cont ρ=some c):Em W H c v:=by
 cases h with
 |Bt d=>
   cases e;exact Bk.rd hh
 |slot i=>
   obtain⟨u,o',e1,e2,_⟩:=hR.get e;rw[hh.1]at e1;cases e1;exact e2.rd
 |fld i f=>
   obtain⟨_,a,C,dx,fs,e1,e2,e3⟩:=hh;have e:Bz ρ i f=some c:=e;unfold Bz at e;cases hg:A8 ρ i with
   |none=>rw[hg]at e;cases e
   |some d=>
     rw[hg]at e;cases d with
     |b x=>cases e
     |obj k fs'=>
       obtain⟨u,o',q1,q2,_⟩:=hR.get hg;rw[e1]at q1;cases q1;obtain⟨a',dx',vs,os',z,q3,q4,_⟩:=q2;cases z;rw[e2]at q3;cases q3;obtain⟨b,hb,rfl⟩:=oM e;obtain⟨v',o'',g1,g2,_⟩:=q4.look hb;rw[e3]at g1;cases g1;exact g2.rd
theorem Cs.made{os:List Addr}{σ:St}{o:List Addr}{Q:VK}(h:Cs W (rV W σ) H os σ (.ok c ρ) Q)(hR:Aa W H ρ σ os)(hn:os.Nodup)(s:D2 H H')(r:Bk W H' c v o)(ho:o.Nodup)(hf:∀a∈o,H a=none):Q v H':=by
 refine h v H' o os r (hR.same s) ?_ (.of s λa ha=>?_)
 .rw[nodup_append];refine⟨ho,hn,λa ha b hb e=>?_⟩;subst e;obtain⟨x,e,_⟩:=hR.own a hb;rw[hf a ha]at e;cases e
 .rcases mem_append.mp ha with z|z
  .exact .inr (hf a z)
  .exact .inl z
theorem Cs.shift{os:List Addr}{σ:St}{r:Res α}{Q:β->Hp->Prop}(h:Cs W rep H os σ r Q)(f:Ba H H1 os os1):Cs W rep H1 os1 σ r Q:=by
 unfold Cs at h ⊢;cases r with
 |stuck=>exact h
 |ok a ρ'=>exact λb H' o os' r1 r2 r3 r4=>h b H' o os' r1 r2 r3 (f.trans r4)
theorem Cs.later{os:List Addr}{σ:St}{r:Res α}{Q:β->Hp->Prop}(h:Cs W rep H os σ r Q)(f:Ba H H1 os (o1++os1)):Cs W rep H1 os1 σ r Q:=by
 unfold Cs at h ⊢;cases r with
 |stuck=>exact h
 |ok a ρ'=>exact λb H' o os' r1 r2 r3 r4=>h b H' o os' r1 r2 r3 (f.trans (r4.weak λa ha=>mR ha))
section
variable (W:Wd)
def F4(H:Hp)(c:C)(Q:VK):Prop:=∀v H' o,D2 H H'->Bk W H' c v o->o.Nodup->(∀a∈o,H a=none)->Q v H'
def CZ(g:C->C->Option C):R2:=λx y H Q=>∃c1 c2 c,Em W H c1 x/\Em W H c2 y/\g c1 c2=some c/\F4 W H c Q
def Zp(g:C->Option C):V->Hp->VK->Prop:=λx H Q=>∃c1 c,Em W H c1 x/\g c1=some c/\F4 W H c Q
def E3(H:Hp):List C->List V->Prop
 |[],vs=>vs=[]
 |c::cs,vs=>∃v r,vs=v::r/\Em W H c v/\E3 H cs r
def AZ(g:List C->Option C):List V->Hp->VK->Prop:=λxs H Q=>∃cs c,E3 W H cs xs/\g cs=some c/\F4 W H c Q
end
theorem F4.plain{Q:VK}(q:F4 W H (.p x) Q)(r:Al W H x v):Q v H:=q v H [] (D2.refl H) ⟨r,rfl⟩ .nil (λa ha=>by cases ha)
theorem F4.list{ps:List P}{Q:VK}(q:F4 W H (.lst ps) Q)(r:A7 W H ps vs):∀p,H p=none->Q (.ref p) (upd H p (.lst vs)):=λp hp=>by
 have s:D2 H (upd H p (.lst vs)):=λb o e=>by rw[An (AO e hp)];exact e
 exact q (.ref p) _ [p] s ⟨p,vs,rfl,Ay,r.mono (B0.of s),rfl⟩ (by simp) (λa ha=>by rw[mE ha];exact hp)
theorem F4.tup{ps:List P}{Q:VK}(q:F4 W H (.p (.tup ps)) Q)(r:A7 W H ps vs):∀p,H p=none->Q (.ref p) (upd H p (.tup vs)):=λp hp=>by
 have s:D2 H (upd H p (.tup vs)):=λb o e=>by rw[An (AO e hp)];exact e
 refine q (.ref p) _ [] s ⟨?_,rfl⟩ .nil (λa ha=>by cases ha);unfold Al;exact⟨p,vs,rfl,El.of Ay,r.mono (B0.of s)⟩
theorem BP:big<=sizeLine:=by decide
variable{H:Hp}{v:V}
theorem Ai :Al W H (.int i) v↔v= .int i:=by unfold Al;exact Iff.rfl
theorem Cq{i:Bool}:Al W H (.bl i) v↔v= .bl i:=by unfold Al;exact Iff.rfl
theorem AD :Al W H (.str i) v↔v= .str i:=by unfold Al;exact Iff.rfl
theorem B5:Al W H .AI v↔v= .AI:=by unfold Al;exact Iff.rfl
theorem AH{ps:List P}:Al W H (.tup ps) v↔∃a vs,v= .ref a/\El W.K H a vs/\A7 W H ps vs:=by unfold Al;exact Iff.rfl
theorem OL(h:Em W H (.p x) v):Al W H x v:=h
theorem AS(h:Em W H (.p (.int i)) v):v= .int i:=Ai.mp (OL h)
theorem Pr{i:Bool}(h:Em W H (.p (.bl i)) v):v= .bl i:=Cq.mp (OL h)
theorem EV(h:Em W H (.p (.str i)) v):v= .str i:=AD.mp (OL h)
theorem Lv(h:Em W H (.p .AI) v):v= .AI:=B5.mp (OL h)
theorem Cg{ps:List P}(h:Em W H (.p (.tup ps)) v):∃a vs,v= .ref a/\El W.K H a vs/\A7 W H ps vs:=AH.mp (OL h)
variable{X:Cx}
theorem Ha{f:Value->Value->Sem Value}{g:Int->Int->Option Int}{r:R2}(ho:Dl X f r)(hr:∀i j k H Q,g i j=some k->Q (.int k) H->r (.int i) (.int j) H Q):Dl X f (CZ W (Ca g)):=by
 rintro pins s σ H x y v u Q I rx ry ⟨c1,c2,c,h1,h2,e,q⟩
 unfold Ca at e;split at e
 .rename_i i j;obtain⟨k,ek,rfl⟩:=oM e;cases AS h1;cases AS h2;exact ho pins s σ H _ _ v u Q I rx ry (hr i j k H Q ek (q.plain (Ai.mpr rfl)))
 .cases e
theorem ZY:Dl X (binaryOp .Sub) (CZ W (Ca P6)):=Ha X3 λi j k H Q e q=>by cases e;exact⟨i,j,rfl,rfl,q⟩
theorem ae:Dl X (binaryOp .Mod) (CZ W (Ca CO)):=Ha X6 λi j k H Q e q=>by
 unfold CO at e;split at e
 .cases e;exact⟨i,j,rfl,rfl,‹_›,q⟩
 .cases e
theorem Xe:Dl X (binaryOp .FloorDiv) (CZ W (Ca Dz)):=Ha Tv λi j k H Q e q=>by
 unfold Dz at e;split at e
 .cases e;exact⟨i,j,rfl,rfl,‹_›,q⟩
 .cases e
theorem ZZ:Dl X (binaryOp .Pow) (CZ W (Ca PK)):=Ha X4 λi j k H Q e q=>by
 unfold PK at e;split at e
 .rename_i h;cases e;exact⟨i,j,rfl,rfl,⟨h.1,by lia,h.2.2⟩,q⟩
 .cases e
theorem EG{ps:List P}(h:A7 W H ps vs):vs=[]↔ps=[]:=by
 have:=h.length;constructor
 .intro z;rw[z]at this;exact length_eq_zero_iff.mp this.symm
 .intro z;rw[z]at this;exact length_eq_zero_iff.mp this
theorem ag(hK:W.K=X.K):Dl X (binaryOp .Add) (CZ W D1):=by
 rintro pins s σ H x y v u Q I rx ry ⟨c1,c2,c,h1,h2,e,q⟩
 unfold D1 at e;split at e
 .rename_i i j;cases e;cases AS h1;cases AS h2;exact X9 pins s σ H _ _ v u Q I rx ry ⟨i,j,rfl,rfl,q.plain (Ai.mpr rfl)⟩
 .rename_i i j;split at e
  .rename_i hl;cases e;cases EV h1;cases EV h2;exact LJ pins s σ H _ _ v u Q I rx ry ⟨i,j,rfl,rfl,Nat.le_trans hl BP,q.plain (AD.mpr rfl)⟩
  .cases e
 .rename_i i j;split at e
  .cases e
  rename_i hie;unfold Gi at e;split at e
  .rename_i hl;cases e;obtain⟨a,vs,rfl,s1,r1⟩:=Cg h1;obtain⟨b,ws,rfl,s2,r2⟩:=Cg h2;rw[hK]at s1 s2;have hi:vs≠[]:=λz=>hie (by rw[(EG r1).mp z];rfl)
   refine Tw pins s σ H _ _ v u Q I rx ry ⟨a,b,vs,ws,rfl,rfl,s1,s2,hi,?_,λz=>?_,λ_=>?_⟩
   .rw[r1.length,r2.length,<-lA];exact Nat.le_trans hl BP
   .have ej:=(EG r2).mp z;rw[ej,append_nil]at q;exact q.plain h1
   .exact q.tup (A7.append r2 r1)
  .cases e
 .rename_i i j;unfold Gi at e;split at e
  .rename_i hl;cases e;obtain⟨a,vs,rfl,s1,r1⟩:=h1;obtain⟨b,ws,rfl,s2,r2⟩:=h2;refine X8 pins s σ H _ _ v u Q I rx ry ⟨a,b,vs,ws,rfl,rfl,s1,s2,?_,q.list (A7.append r2 r1)⟩;rw[r1.length,r2.length,<-lA];exact Nat.le_trans hl BP
  .cases e
 .cases e
theorem aa:Dl X (binaryOp .Mult) (CZ W mulC):=Ha (W:=W) (g:=Jb) X5 λi j k H Q e q=>by
 unfold Jb at e;split at e
 .cases e;exact⟨i,j,rfl,rfl,‹_›,q⟩
 .cases e
theorem Z1:W4 X (unaryOp .USub) (Zp W (Jl Kj)):=by
 rintro pins s σ H x v Q I rx ⟨c1,c,h1,e,q⟩
 unfold Jl at e;split at e
 .rename_i i;cases e;cases AS h1;exact Wc pins s σ H _ v Q I rx ⟨i,rfl,q.plain (Ai.mpr rfl)⟩
 .cases e
theorem LX(n:Nat)(i:Int):Iv.Gs n i=L2.Gs n i:=rfl
theorem ay(hK:W.K=X.K){g:C->C->Option C}(hd:S3 X (CZ W λc i=>match c with| .AB kvs=>BB (.AB kvs) i|_=>none)):S3 X (CZ W BB):=by
 rintro value slice pins s σ H x y v u Q I rx ry ⟨c1,c2,c,h1,h2,e,q⟩ hs
 have e0:=e;unfold BB at e;split at e
 .rename_i c' ps i hc;obtain⟨k,hk,e⟩:=oB e;obtain⟨p,hp,rfl⟩:=oM e;cases AS h2
  obtain⟨a,vs,rfl,s1,r1⟩:∃a vs,x= .ref a/\Dk W.K H a vs/\A7 W H ps vs:=by
   cases c1 with
   |obj _ _=>cases hc
   |b b=>
     cases b with
     |p _=>cases hc
     |AB _=>cases hc
     |lst _=>cases hc;obtain⟨a,vs,e1,e2,e3⟩:=h1;exact⟨a,vs,e1,Dk.of e2,e3⟩
     |ro _=>cases hc;obtain⟨a,vs,e1,e2,e3⟩:=h1;exact⟨a,vs,e1,e2.sq,e3⟩
  obtain⟨w,hw,rw'⟩:=r1.get hp;refine U8 value slice pins s σ H _ _ v u Q I rx ry ⟨a,vs,i,w,rfl,rfl,hK▸s1,?_,q.plain rw'⟩ hs;unfold W3;rw[r1.length,<-LX,hk];exact hw
 .rename_i c' ps i hc;obtain⟨k,hk,e⟩:=oB e;obtain⟨p,hp,rfl⟩:=oM e;cases AS h2
  have hc:c1= .p (.tup ps):=by
   cases c1 with
   |obj _ _=>cases hc
   |b b=>cases b<;>cases hc<;>rfl
  subst hc;obtain⟨a,vs,rfl,s1,r1⟩:=Cg h1;obtain⟨w,hw,rw'⟩:=r1.get hp;refine Xz value slice pins s σ H _ _ v u Q I rx ry ⟨a,vs,i,w,rfl,rfl,hK▸s1,?_,q.plain rw'⟩ hs;unfold W3;rw[r1.length,<-LX,hk];exact hw
 .rename_i c' z i hc;split at e
  .rename_i hl;obtain⟨k,hk,e⟩:=oB e;obtain⟨p,hp,rfl⟩:=oM e;cases AS h2
   have hc:c1= .p (.str z):=by
    cases c1 with
    |obj _ _=>cases hc
    |b b=>cases b<;>cases hc<;>rfl
   subst hc;cases EV h1;refine XA value slice pins s σ H _ _ v u Q I rx ry ⟨z,i,p,rfl,rfl,Nat.le_trans hl BP,?_,q.plain (AD.mpr rfl)⟩ hs;unfold W3;have:z.cps.toList.length=z.length:=by show z.cps.toList.length=z.cps.size;simp
   rw[this,<-LX,hk];exact hp
  .cases e
 .rename_i c' kvs k hc
  have hc:c1= .AB kvs:=by
   cases c1 with
   |obj _ _=>cases hc
   |b b=>cases b<;>cases hc<;>rfl
  subst hc;exact hd value slice pins s σ H x y v u Q I rx ry ⟨_,_,c,h1,h2,e0,q⟩ hs
 .cases e
theorem ER.cj{σ:St}{h:Hd}{os:List Addr}(hf:∀i f,h≠.fld i f)(r:ER W σ H1 ρ1 h v o)(k:B0 H1 H2)(b:IE os H1 H2)(d:∀a∈o,a∉os):ER W σ H2 ρ2 h v o:=by
 cases h with
 |Bt c=>exact Bk.frame r k b d
 |slot i=>exact r
 |fld i f=>exact absurd rfl (hf i f)
theorem ER.own{σ:St}(r:ER W σ H ρ h v o):∀a∈o,∃z,H a=some z:=by
 cases h with
 |Bt c=>exact λa ha=>let⟨x,e,_⟩:=Bk.own r a ha;⟨x,e⟩
 |slot i=>intro a ha;rw[r.2]at ha;cases ha
 |fld i f=>intro a ha;rw[r.1]at ha;cases ha
theorem QL{F:Env->Res Hd}{G:Env->Res (List Hd)}{σ:St}{Q:List V->Hp->Prop}(hF:∀ρ h ρ',F ρ= .ok h ρ'->∀i f,h≠.fld i f)
 (h:tG W (Bn W) (λρ=>(F ρ).bind λh ρ=>(G ρ).bind λhs ρ=>.ok (h::hs) ρ) σ H Q):CJ (tG W (ER W) F) (tG W (Bn W) G) σ H Q:=by
 obtain⟨ρ,os,hR,hn,hA⟩:=h
 try dsimp only at hA
 refine⟨ρ,os,hR,hn,?_⟩;unfold Cs;cases eF:F ρ with
 |stuck=>rw[eF]at hA;exact hA
 |ok a ρ1=>
   rw[eF]at hA;intro u H1 o1 os1 rA hR1 hn1 fr1;have n1:=nA hn1;refine⟨ρ1,os1,hR1,n1.2.1,?_⟩;unfold Cs;rw[Res.A5]at hA;cases eG:G ρ1 with
   |stuck=>rw[eG]at hA;exact hA
   |ok b ρ2=>
     rw[eG,Res.A5]at hA;intro ws H2 o2 os2 rB' hR2 hn2 fr2;have k2:B0 H1 H2:=fr2.but.keep hR1.own;refine hA (u::ws) H2 (o1++o2) os2 ⟨u,ws,o1,o2,rfl,rA.cj (hF ρ a ρ1 eF) k2 fr2.but (λa ha z=>n1.2.2 a ha a z rfl),rB',rfl⟩ hR2 (TH hn1 hn2 rA.own fr2.src) ?_;rw[append_assoc];exact fr1.trans (fr2.more o1)
theorem DE{σ:St}{os:List Addr}(hR:Aa W H ρ σ os):∀{hs:List Hd} {cs:List C} {vs:List V} {o:List Addr},Bn W σ H ρ hs vs o->Am ρ hs=some cs->E3 W H cs vs
 | [],cs,vs,o,h,e=>by
   cases e;exact h.1
 | h::hs,cs,vs,o,⟨v,r,o1,o2,e1,h1,h2,e2⟩,e=>by
   unfold Am at e;obtain⟨c,ec,e⟩:=oB e;obtain⟨ds,ed,rfl⟩:=oM e;exact⟨v,r,e1,EA hR h1 ec,DE hR h2 ed⟩
theorem VJ{F:Env->Res (List Hd)}{g:List C->Option C}{σ:St}{Q:VK}
 (h:tG W (rV W) (λρ=>(F ρ).bind λhs ρ=>Res.of ((Am ρ hs).bind g) ρ) σ H Q):tG W (Bn W) F σ H λvs H1=>AZ W g vs H1 Q:=by
 obtain⟨ρ,os,hR,hn,hA⟩:=h
 try dsimp only at hA
 refine⟨ρ,os,hR,hn,?_⟩;unfold Cs;cases eF:F ρ with
 |stuck=>rw[eF]at hA;exact hA
 |ok hs ρ1=>
   rw[eF,Res.A5]at hA;intro vs H1 o1 os1 rA hR1 hn1 fr1;have n1:=nA hn1;cases ec:Am ρ1 hs with
   |none=>rw[ec]at hA;exact hA.elim
   |some cs=>
     rw[ec]at hA;have hA:Cs W (rV W σ) H os σ (Res.of (g cs) ρ1) Q:=hA;cases eg:g cs with
     |none=>rw[eg]at hA;exact hA.elim
     |some c=>
       rw[eg]at hA;have hA:=hA.later fr1;exact⟨cs,c,DE hR1 rA ec,eg,λv H' o s r ho hf=>hA.made hR1 n1.2.1 s r ho hf⟩
end Iv
namespace Iv
open PySem L2 PyProof.Rows
section
variable{Pg:Program}{W:Wd}{H:Hp}
variable{h:Heap}{xs:List V}
theorem Bw(Af:Ce Pg W.w H h)(B3:W.K.In h)(hs:El W.K H a xs):∃its:List Value,Vals xs its/\IsTup h a its.toArray:=by
 rcases hs with hs|⟨o,its,n,hk,hc,hd,hz,r⟩
 .obtain⟨z,its,r,p⟩:=hs.ok Af;exact⟨its,r,p⟩
 .exact⟨its.toList,r,⟨o,B3 a o hk,hc,n,by simpa using hd⟩⟩
theorem Ol{ys:List V}{us zs:List Value}(hx:Vals xs us)(hy:Vals ys zs)(p:IsTup h a us.toArray)(q:IsTup h a zs.toArray):xs=ys:=by
 obtain⟨o,e1,_,n,d1⟩:=p;obtain⟨o',e2,_,n',d2⟩:=q;rw[e1]at e2;cases e2;rw[d1]at d2;injection d2 with d3 _
 have:us=zs:=by simpa using congrArg Array.toList d3
 subst this;exact hx.inj hy
mutual
theorem Al.det {h:Heap} (Af:Ce Pg W.w H h) (B3:W.K.In h):∀{p q:P} {v:V},Al W H p v->Al W H q v->Co p q=true->p=q
 | .AI,q,v,hp,hq,hc=>by
   cases q with
   |AI=>rfl
   |_=>cases (hc:false=true)
 |.bl _,q,v,hp,hq,hc=>by cases (hc:false=true)
 | .int _,q,v,hp,hq,hc=>by
   cases Ai.mp hp;cases q with
   |int _=>cases Ai.mp hq;rfl
   |tup _=>obtain⟨_,_,e,_⟩:=AH.mp hq;cases e
   |_=>cases (hc:false=true)
 | .str _,q,v,hp,hq,hc=>by
   cases AD.mp hp;cases q with
   |str _=>cases AD.mp hq;rfl
   |_=>cases (hc:false=true)
 | .tup ps,q,v,hp,hq,hc=>by
   obtain⟨a,vs,rfl,s1,r1⟩:=AH.mp hp;cases q with
   |int _=>cases Ai.mp hq
   |tup qs=>
     obtain⟨b,ws,e,s2,r2⟩:=AH.mp hq;cases e;obtain⟨its,v1,p1⟩:=Bw Af B3 s1;obtain⟨its',v2,p2⟩:=Bw Af B3 s2;have:=Ol v1 v2 p1 p2;subst this;rw[A7.det Af B3 r1 r2 hc]
   |_=>cases (hc:false=true)
theorem A7.det {h:Heap} (Af:Ce Pg W.w H h) (B3:W.K.In h):∀{ps qs:List P} {vs:List V},A7 W H ps vs->A7 W H qs vs->De ps qs=true->ps=qs
 | [],qs,vs,hp,hq,hc=>by
   unfold A7 at hp;subst hp;cases qs with
   |nil=>rfl
   |cons q qs=>unfold A7 at hq;obtain⟨_,_,e,_⟩:=hq;cases e
 | p ::ps,qs,vs,hp,hq,hc=>by
   cases vs with
   |nil=>unfold A7 at hp;obtain⟨_,_,e,_⟩:=hp;cases e
   |cons v vs=>
     cases qs with
     |nil=>unfold A7 at hq;cases hq
     |cons q qs=>
       unfold De at hc;rw[bA]at hc;rw[Al.det Af B3 hp.AF.1 hq.AF.1 hc.1,A7.det Af B3 hp.AF.2 hq.AF.2 hc.2]
end
def Rc(b:Bool)(e:Nat->Bool):Nat->Bool
 |0=>b
 |j+1=>e j
theorem OF(b:Bool)(e:Nat->Bool)(n m:Nat):((List.range (min (n + 1) (m + 1))).all (Rc b e) && (n + 1 == m + 1))=(b && ((List.range (min n m)).all e && n == m)):=by
 rw[show min (n+1) (m+1)=min n m+1 by lia,List.range_succ_eq_map,all_cons,all_map];have h1:(Rc b e ∘ Nat.succ)=e:=rfl
 have h2:(n + 1 == m + 1)=(n == m):=by
  by_cases h:n=m
  .simp[h]
  .simp[h]
 rw[h1,h2,Bool.and_assoc];rfl
variable{A:Around}
theorem in1_units:A.in1.units=A.units+1:=rfl
variable{α:Type}
theorem Ez[DecidableEq α]{f:α->P}(hf:∀a b,f a=f b->a=b)(a b:α):decide (f a=f b)=decide (a=b):=by
 by_cases h:a=b
 .rw[decide_eq_true h,h];exact decide_eq_true rfl
 .rw[dF h,dF λz=>h (hf _ _ z)]
theorem GC[DecidableEq α][BEq α][LawfulBEq α](a b:α):decide (a=b)=(a == b):=by
 by_cases h:a=b
 .rw[decide_eq_true h];exact(beq_iff_eq.mpr h).symm
 .rw[dF h];exact(beq_eq_false_iff_ne.mpr h).symm
variable{s:Shared}
theorem Kz(hp:Al W H p v)(hq:Al W H q y)(r:RelV v u)(r':RelV y z)(Af:Ce Pg W.w H s.heap)(B3:W.K.In s.heap)(hc:Co p q=true)(h:SeqAt.RcAt A s u z (decide (p=q))):SeqAt.EqAt A s u z (decide (p=q)):=λprog w E Q hQ=>by
 unfold eqBool;refine wpAny_holding ?_;refine wpAny_ite_split (λhab=>?_) (λ_=>?_)
 .cases eq_of_beq hab;cases r.inj r';rw[decide_eq_true (Al.det Af B3 hp hq hc)]at hQ;exact wB (wpAny_rule (wP hQ))
 .cases u with
  |float b t=>
    cases p with
    |AI=>cases B5.mp hp;cases r
    |bl=>cases (hc:false=true)
    |int=>cases Ai.mp hp;obtain⟨_,e⟩:=r;cases e
    |str=>cases AD.mp hp;obtain⟨_,e⟩:=r;cases e
    |tup=>obtain⟨_,_,rfl,_⟩:=AH.mp hp;cases r
  |_=>exact wB (h prog w E _ (wpAny_truthy_bool hQ))
mutual
theorem Lw:∀(p:P) {q:P} {v y:V} {u z:Value} {A:Around} {s:Shared},Al W H p v->Al W H q y->RelV v u->RelV y z->Ce Pg W.w H s.heap->W.K.In s.heap->Co p q=true->A.units + p.depth + 1 < cLine->
 SeqAt.RcAt A s u z (decide (p=q))
 | .AI,q,v,y,u,z,A,s,hp,hq,r,r',Af,B3,hc,hu=>by
   cases B5.mp hp;cases r;cases q with
   |AI=>cases B5.mp hq;cases r';rw[decide_eq_true rfl];exact SeqAt.RcAt.none_none
   |_=>cases (hc:false=true)
 |.bl _,q,v,y,u,z,A,s,hp,hq,r,r',Af,B3,hc,hu=>by cases (hc:false=true)
 | .int i,q,v,y,u,z,A,s,hp,hq,r,r',Af,B3,hc,hu=>by
   cases Ai.mp hp;obtain⟨t,rfl⟩:=r;cases q with
   |int b=>
     cases Ai.mp hq;obtain⟨t',rfl⟩:=r';rw[Ez (λ_ _=>P.int.inj),GC];exact SeqAt.RcAt.int_int _ _ _ _
   |tup qs=>
     obtain⟨b,ws,rfl,s2,r2⟩:=AH.mp hq;cases r';obtain⟨its,v1,p1⟩:=Bw Af B3 s2;rw[dF nofun];exact SeqAt.RcAt.int_tuple _ _ p1 (by lia)
   |_=>cases (hc:false=true)
 | .str i,q,v,y,u,z,A,s,hp,hq,r,r',Af,B3,hc,hu=>by
   cases AD.mp hp;obtain⟨t,rfl⟩:=r;cases q with
   |str b=>
     cases AD.mp hq;obtain⟨t',rfl⟩:=r';rw[Ez (λ_ _=>P.str.inj),GC];exact SeqAt.RcAt.str_str _ _ _ _
   |_=>cases (hc:false=true)
 | .tup ps,q,v,y,u,z,A,s,hp,hq,r,r',Af,B3,hc,hu=>by
   obtain⟨a,vs,rfl,s1,r1⟩:=AH.mp hp;cases r;obtain⟨its,v1,p1⟩:=Bw Af B3 s1;cases q with
   |int b=>cases Ai.mp hq;obtain⟨t',rfl⟩:=r';rw[dF nofun];exact SeqAt.RcAt.tuple_int _ _ p1 (by lia)
   |tup qs=>
     obtain⟨b,ws,rfl,s2,r2⟩:=AH.mp hq;cases r';have hdp:(P.tup ps).depth=P.Ao ps+1:=rfl;obtain⟨its',v2,p2⟩:=Bw Af B3 s2;have hu1:A.in1.units=A.units+1:=in1_units;obtain⟨e,he,hd⟩:=Jt ps (A:=A.in1) (s:=s) r1 r2 v1 v2 Af B3 hc (by lia);have rc:=SeqAt.RcAt.tuples (A:=A) (s:=s) (e:=e) p1 p2 (by lia) λj h1 h2=>he j _ _ (by simp at h1 ⊢) (by simp at h2 ⊢)
     rw[size_toArray,size_toArray,hd]at rc;rw[Ez (λ_ _=>P.tup.inj)];exact rc
   |_=>cases (hc:false=true)
theorem Jt:∀(ps:List P) {qs:List P} {vs ws:List V} {us zs:List Value} {A:Around} {s:Shared},A7 W H ps vs->A7 W H qs ws->Vals vs us->Vals ws zs->Ce Pg W.w H s.heap->W.K.In s.heap->De ps qs=true->A.units + P.Ao ps + 1 < cLine->
 ∃e:Nat->Bool,(∀(j:Nat) (x y:Value),us[j]? =some x->zs[j]? =some y->SeqAt.EqAt A s x y (e j))/\((List.range (min us.length zs.length)).all e && us.length == zs.length)=decide (ps=qs)
 | [],qs,vs,ws,us,zs,A,s,hp,hq,r,r',Af,B3,hc,hu=>by
   unfold A7 at hp;subst hp;cases r;refine⟨λ_=>true,λj x y hx _=>by simp at hx,?_⟩;cases qs with
   |nil=>unfold A7 at hq;subst hq;cases r';rfl
   |cons q qs=>
     unfold A7 at hq;obtain⟨_,_,e,_⟩:=hq;subst e;cases r';rw[dF nofun];simp
 | p ::ps,qs,vs,ws,us,zs,A,s,hp,hq,r,r',Af,B3,hc,hu=>by
   cases vs with
   |nil=>unfold A7 at hp;obtain⟨_,_,e,_⟩:=hp;cases e
   |cons v vs =>
     cases r with
     |cons r1 r2=>
       cases qs with
       |nil=>
         unfold A7 at hq;subst hq;cases r';refine⟨λ_=>true,λj x y _ hy=>by simp at hy,?_⟩;rw[dF nofun];simp
       |cons q qs=>
         cases ws with
         |nil=>unfold A7 at hq;obtain⟨_,_,e,_⟩:=hq;cases e
         |cons w ws=>
           cases r' with
           |cons q1 q2=>
             unfold De at hc;rw[bA]at hc;have hd:P.Ao (p::ps)=max p.depth (P.Ao ps):=by conv=>lhs;unfold P.Ao
             obtain⟨e,he,hdd⟩:=Jt ps (A:=A) (s:=s) hp.AF.2 hq.AF.2 r2 q2 Af B3 hc.2 (by lia);have h0:=Kz hp.AF.1 hq.AF.1 r1 q1 Af B3 hc.1 (Lw p (A:=A) (s:=s) hp.AF.1 hq.AF.1 r1 q1 Af B3 hc.1 (by lia));refine⟨Rc (decide (p=q)) e,λj x y hx hy=>?_,?_⟩
             .cases j with
              |zero=>
                simp at hx hy;subst hx hy;exact h0
              |succ j=>exact he j x y (by simpa using hx) (by simpa using hy)
             .rw[lC,lC,OF,hdd]
              by_cases h1:p=q<;>by_cases h2:ps=qs<;>simp[h1,h2]
end
theorem Mb(p:P)(hp:Al W H p v)(hq:Al W H q y)(r:RelV v u)(r':RelV y z)(Af:Ce Pg W.w H s.heap)(B3:W.K.In s.heap)(hc:Co p q=true)(hu:A.units+p.depth+1 < cLine):SeqAt.EqAt A s u z (decide (p=q)):=Kz hp hq r r' Af B3 hc (Lw p hp hq r r' Af B3 hc hu)
mutual
theorem Hl:∀(p:P) {v:V} {u:Value} {A:Around} {E:Value->Shared->Prop} {s:Shared} {Q:Int->Shared->Prop},Al W H p v->Ec p=true->RelV v u->Ce Pg W.w H s.heap->W.K.In s.heap->A.units + p.depth < cLine->
 (∀tk:Nat,Q (CS W.w p) {s with toks:=tk})->wpAny (model Pg W.w) A (pyHash u) Q E s
 |.AI,_,_,_,_,_,_,_,hb,_,_,_,_,_=>by unfold Ec at hb;cases hb
 |.bl _,_,_,_,_,_,_,_,hb,_,_,_,_,_=>by unfold Ec at hb;cases hb
 | .int i,v,u,A,E,s,Q,hp,hb,r,Af,B3,hu,q=>by
   cases Ai.mp hp;obtain⟨t,rfl⟩:=r;have q:=q (s.toks+1);unfold CS at q;exact wpAny_pyHash_int q
 | .str i,v,u,A,E,s,Q,hp,hb,r,Af,B3,hu,q=>by
   cases AD.mp hp;obtain⟨t,rfl⟩:=r;have q:=q (s.toks+1);unfold CS at q;exact wpAny_pyHash_str q
 | .tup ps,v,u,A,E,s,Q,hp,hb,r,Af,B3,hu,q=>by
   obtain⟨a,vs,rfl,s1,r1⟩:=AH.mp hp;cases r;obtain⟨its,v1,pi⟩:=Bw Af B3 s1;have hdp:(P.tup ps).depth=P.Ao ps+1:=by conv=>lhs;unfold P.depth
   have hb':CQ ps=true:=by unfold Ec at hb;exact hb
   show wpAny _ _ (pyHashByItsType (.ref a)) _ _ s;refine PySem.W.pyHash_slot (pi.typeIs) PySem.F.slot_tuple_hash PySem.F.entry_tuple_hash (PySem.F.args_tuple_hash_1 _) (by decide) (.inr (by lia)) ?_;show wpAny _ _ (Builtin.Tuple.tupleItemsOf (.ref a) >>= λxs=>forIn xs #[] (λx r=>do let h <-pyHash x;pure (ForInStep.yield (r.push h))) >>= λhs=>retInt (Builtin.Tuple.tupleHashOf hs.toList)) _ _ s;have pi':=pi;obtain⟨o,e1,e2,n,e3⟩:=pi';unfold Builtin.Tuple.tupleItemsOf;refine wB (wB (wpAny_seqItems e1 e3 (wP ?_)));rw[<-Array.forIn_toList];show wpAny _ _ (forIn its #[] _ >>= _) _ _ s;have hu1:A.in1.units=A.units+1:=in1_units;refine wB (Ku ps r1 hb' v1 Af B3 (by lia) λtk b' hb2=>?_);refine wB (wpAny_mkInt' (wP ⟨_,_,rfl,?_⟩))
   have e:reduceHash (Builtin.Tuple.tupleHashOf b'.toList)=CS W.w (.tup ps):=by
    rw[hb2]
    conv=>rhs;unfold CS
    simp
   rw[e];exact q _
theorem Ku:∀(ps:List P) {vs:List V} {us:List Value} {acc:Array Int} {A:Around} {E:Value->Shared->Prop} {s:Shared} {Q:Array Int->Shared->Prop},A7 W H ps vs->CQ ps=true->Vals vs us->Ce Pg W.w H s.heap->W.K.In s.heap->A.units + P.Ao ps < cLine->
 (∀(tk:Nat) (b':Array Int),b'.toList=acc.toList++Hm W.w ps->Q b' {s with toks:=tk})->
 wpAny (model Pg W.w) A (forIn us acc λx r=>do let h <-pyHash x;pure (ForInStep.yield (r.push h))) Q E s
 | [],vs,us,acc,A,E,s,Q,hp,hb,r,_,_,_,q=>by
   unfold A7 at hp;subst hp;cases r;exact wP (q s.toks acc (by unfold Hm;simp))
 | p ::ps,vs,us,acc,A,E,s,Q,hp,hb,r,Af,B3,hu,q=>by
   cases vs with
   |nil=>unfold A7 at hp;obtain⟨_,_,e,_⟩:=hp;cases e
   |cons v vs=>
     cases r with
     |cons r1 r2=>
       unfold CQ at hb;rw[bA]at hb;have hd:P.Ao (p::ps)=max p.depth (P.Ao ps):=by conv=>lhs;unfold P.Ao
       rw[forIn_cons];refine wB (wB (Hl p hp.AF.1 hb.1 r1 Af B3 (by lia) λtk=>wP ?_));refine Ku ps hp.AF.2 hb.2 r2 Af B3 (by lia) λtk' b' hb'=>q tk' b' ?_
       rw[hb']
       conv=>rhs;unfold Hm
       simp
end
mutual
theorem FH:∀(p:P) {v:V} {u:Value} {s:Shared} {n:Nat},Al W H p v->Ec p=true->RelV v u->Ce Pg W.w H s.heap->W.K.In s.heap->p.depth<=n->
 ∀(A:Around) (E:Value->Shared->Prop) (Q:Bool->Shared->Prop),Q true s->wpAny (model Pg W.w) A (eqIsQuiet n u) Q E s
 |.AI,_,_,_,_,_,hb,_,_,_,_,_,_,_,_=>by unfold Ec at hb;cases hb
 |.bl _,_,_,_,_,_,hb,_,_,_,_,_,_,_,_=>by unfold Ec at hb;cases hb
 | .int i,v,u,s,n,hp,hb,r,Af,B3,hd,A,E,Q,q=>by
   cases Ai.mp hp;obtain⟨t,rfl⟩:=r;rw[eqIsQuiet_byValue n rfl];exact wP q
 | .str i,v,u,s,n,hp,hb,r,Af,B3,hd,A,E,Q,q=>by
   cases AD.mp hp;obtain⟨t,rfl⟩:=r;rw[eqIsQuiet_byValue n rfl];exact wP q
 | .tup ps,v,u,s,n,hp,hb,r,Af,B3,hd,A,E,Q,q=>by
   obtain⟨a,vs,rfl,s1,r1⟩:=AH.mp hp;cases r;obtain⟨its,ri,pi⟩:=Bw Af B3 s1;have hdp:(P.tup ps).depth=P.Ao ps+1:=by conv=>lhs;unfold P.depth
   have hb':CQ ps=true:=by unfold Ec at hb;exact hb
   obtain⟨n',rfl⟩:∃n',n=n'+1:=⟨n-1,by lia⟩;rw[eqIsQuiet.eq_2];refine wB (wpAny_specialOf pi.typeIs PySem.F.slot_tuple_eq.lookup ?_)
   try dsimp only
   refine wB (wpAny_isInstance (T:="tuple") (b:=true) pi.typeIs (by rw[isSubtype_type];kernel_rfl) ?_);refine wpAny_ite_split (λhab=>absurd hab (by decide)) (λ_=>?_);obtain⟨o,e1,e2,n2,e3⟩:=pi;refine wB (wpAny_seqItems e1 e3 ?_);refine wB ?_;show wpAny _ _ (forIn its.toArray _ _) _ _ s;rw[<-Array.forIn_toList];refine wpAny_forIn_list _ (λrest b s'=>(∀v∈rest,v∈its)/\b=(none,())/\s'=s) _ ?_ ?_ _ _ ⟨λv hv=>hv,rfl,rfl⟩
   .rintro x rest b s' ⟨hm,rfl,rfl⟩
    have hx:x∈its:=hm x mS;refine wB (HY ps r1 hb' ri Af B3 (by lia) x hx _ _ _ ?_);exact wpAny_ite_split (λhab=>absurd hab (by decide)) (λ_=>wP ⟨λv hv=>hm v (mC hv),rfl,rfl⟩)
   .rintro b s' ⟨_,rfl,rfl⟩
    exact wP q
theorem HY:∀(ps:List P) {vs:List V} {us:List Value} {s:Shared} {n:Nat},A7 W H ps vs->CQ ps=true->Vals vs us->Ce Pg W.w H s.heap->W.K.In s.heap->P.Ao ps<=n->
 ∀u∈us,∀(A:Around) (E:Value->Shared->Prop) (Q:Bool->Shared->Prop),Q true s->wpAny (model Pg W.w) A (eqIsQuiet n u) Q E s
 | [],vs,us,s,n,hp,hb,r,_,_,_=>by
   unfold A7 at hp;subst hp;cases r;intro u hu;cases hu
 | p ::ps,vs,us,s,n,hp,hb,r,Af,B3,hd=>by
   cases vs with
   |nil=>unfold A7 at hp;obtain⟨_,_,e,_⟩:=hp;cases e
   |cons v vs=>
     cases r with
     |cons r1 r2=>
       unfold CQ at hb;rw[bA]at hb;have hdd:P.Ao (p::ps)=max p.depth (P.Ao ps):=by conv=>lhs;unfold P.Ao
       intro u hu A E Q q;rcases mK hu with e|hu
       .subst e;exact FH p hp.AF.1 hb.1 r1 Af B3 (by lia) A E Q q
       .exact HY ps hp.AF.2 hb.2 r2 Af B3 (by lia) u hu A E Q q
end
end
section
variable{Pg:Program}{W:Wd}{H:Hp}
theorem Cm(p:P)(r:List P):D8 (p::r)=(Ak p && D8 r):=rfl
theorem AJ{ps:List P}(h:Ak (.tup ps)=true):∃x r,ps= .str x::r/\D8 r=true:=by
 cases ps with
 |nil=>cases (h:false=true)
 | cons p r=>cases p with
   |str x=>exact⟨x,r,rfl,h⟩
   |_=>cases (h:false=true)
mutual
theorem Ea:∀(p:P),Ak p=true->Ec p=true/\∀q,Ak q=true->Co p q=true
 | .int _,_=>⟨rfl,λq h=>by cases q with
   |int _=>rfl
   |tup _=>rfl
   |_=>cases (h:false=true)⟩
 |.AI,h=>by cases (h:false=true)
 |.bl _,h=>by cases (h:false=true)
 |.str _,h=>by cases (h:false=true)
 | .tup ps,h=>by
   obtain⟨h1,h2⟩:=Xu ps h;refine⟨h1,λq h=>?_⟩;cases q with
   |int _=>rfl
   |tup qs=>exact h2 qs h
   |_=>cases (h:false=true)
theorem Xu:∀(ps:List P),DZ ps=true->CQ ps=true/\∀qs,DZ qs=true->De ps qs=true
 | .str _::r,h=>by
   obtain⟨h1,h2⟩:=QB r h;refine⟨h1,λq h=>?_⟩;cases q with
   |nil=>rfl
   |cons p l=>
     cases p with
     |str _=>exact h2 l h
     |_=>cases (h:false=true)
 |[],h=>by cases (h:false=true)
 |.AI::_,h=>by cases (h:false=true)
 |.bl _::_,h=>by cases (h:false=true)
 |.int _::_,h=>by cases (h:false=true)
 |.tup _::_,h=>by cases (h:false=true)
theorem QB:∀(ps:List P),D8 ps=true->CQ ps=true/\∀qs,D8 qs=true->De ps qs=true
 |[],_=>⟨rfl,λqs _=>rfl⟩
 | p ::r,h=>by
   rw[Cm,bA]at h;obtain⟨h1,h2⟩:=Ea p h.1;obtain⟨h3,h4⟩:=QB r h.2;refine⟨?_,λqs h=>?_⟩
   .show(Ec p && CQ r)=true;rw[h1,h3];rfl
   .cases qs with
    |nil=>rfl
    |cons q l=>
      rw[Cm,bA]at h;show(Co p q && De r l)=true;rw[h2 q h.1,h4 l h.2];rfl
end
theorem Cw{k:P}(h:keyOk k=true):Ak k=true/\k.depth<=8:=by
 unfold keyOk flat at h;rw[bA]at h;exact⟨h.1,of_decide_eq_true h.2⟩
variable{α β:Type}
theorem Paired.at{R:α->β->Prop}:∀{l:List α} {m:List β} {i:Nat} {y:β},Paired R l m->m[i]? =some y->∃x,l[i]? =some x/\R x y
 |_,_,_,_,.nil,e=>by simp at e
 |_,_,0,_,.cons r _,e=>by simp at e;subst e;exact⟨_,rfl,r⟩
 | _,_,i + 1,_,.cons _ t,e=>by
   obtain⟨x,a,b⟩:=Paired.at (i:=i) t (by simpa using e);exact⟨x,by simpa using a,b⟩
theorem Paired.at'{R:α->β->Prop}:∀{l:List α} {m:List β} {i:Nat} {x:α},Paired R l m->l[i]? =some x->∃y,m[i]? =some y/\R x y
 |_,_,_,_,.nil,e=>by simp at e
 |_,_,0,_,.cons r _,e=>by simp at e;subst e;exact⟨_,rfl,r⟩
 | _,_,i + 1,_,.cons _ t,e=>by
   obtain⟨x,a,b⟩:=Paired.at' (i:=i) t (by simpa using e);exact⟨x,by simpa using a,b⟩
theorem U2(hk:keyOk k=true)(hv:Al W H k v)(r:RelV v u):(∃n t,u= .int n t)\/∃a,u= .ref a:=by
 have h1:=(Cw hk).1;cases k with
 |int n=>cases Ai.mp hv;obtain⟨t,rfl⟩:=r;exact .inl ⟨_,_,rfl⟩
 |tup ps=>obtain⟨a,vs,rfl,_⟩:=AH.mp hv;exact .inr ⟨a,r⟩
 |_=>cases (h1:false=true)
theorem Pp(hv:Al W H p v)(hy:Al W H q y)(r:RelV v u)(r':RelV y u){h:Heap}(Af:Ce Pg W.w H h)(B3:W.K.In h)(hc:Co p q=true):p=q:=by
 have:=r.inj r';subst this;exact Al.det Af B3 hv hy hc
theorem Kh{kvs:List (P×P)}(hn:(kvs.map (·.1)).Nodup){i j:Nat}{p q:P×P}(h1:kvs[i]? =some p)(h2:kvs[j]? =some q)(e:p.1=q.1):i=j:=by
 obtain⟨hi,ei⟩:=List.getElem?_eq_some_iff.mp h1;obtain⟨hj,ej⟩:=List.getElem?_eq_some_iff.mp h2;have hpw:=List.pairwise_iff_getElem.mp hn;rcases Nat.lt_trichotomy i j with hlt|heq|hgt
 .exact absurd (by rw[getElem_map,getElem_map,ei,ej,e]) (hpw i j (by simpa using hi) (by simpa using hj) hlt)
 .exact heq
 .exact absurd (by rw[getElem_map,getElem_map,ei,ej,e]) (hpw j i (by simpa using hj) (by simpa using hi) hgt)
variable{A:Around}{s:Shared}
theorem Nr{kvs:List (P×P)}{es:List DictEntry}{o:Obj}{ep:Nat}{E:Value->Shared->Prop}{Q:Option Nat->Shared->Prop}(Af:Ce Pg W.w H s.heap)(B3:W.K.In s.heap)
 (hd:s.heap.get? a=some o)(ho:o.data= .dict es.toArray ep)(hp:Paired (ES W H) kvs es)(hn:(kvs.map (·.1)).Nodup)(hks:∀p∈kvs,keyOk p.1=true)(hk:keyOk k=true)(hv:Al W H k v)(r:RelV v u)(hu:A.units+110 < cLine)
 (q0:(∀p∈kvs,p.1≠k)->Q none s)(q1:∀(i:Nat) (p:P×P),kvs[i]? =some p->p.1=k->Q (some i) s):wpAny (model Pg W.w) A (dictFind a u (CS W.w k)) Q E s:=by
 obtain⟨hb,hdp⟩:=Cw hk
 have ent:∀(i:Nat) (e:DictEntry),es.toArray[i]? =some e->∃p y,kvs[i]? =some p/\e.hash=CS W.w p.1/\RelV y e.key/\Al W H p.1 y/\Ak p.1=true/\p.1.depth<=8:=by
  intro i e he;rw[List.getElem?_toArray]at he;obtain⟨p,h1,h2,⟨y,h3,h4⟩,_⟩:=Paired.at hp he;obtain⟨g1,g2⟩:=Cw (hks p (mem_of_getElem? h1));exact⟨p,y,h1,h2,h3,h4,g1,g2⟩
 refine QW (b:=λi=>match kvs[i]? with|some p=>decide (p.1=k)|none=>false) hd ho (U2 hk hv r) ?_ ?_ ?_ ?_ ?_ ?_ ?_
 .rw[Array.any_eq_false];intro i hi hh;obtain⟨p,y,h1,h2,h3,h4,h5,_⟩:=ent i es.toArray[i] (Array.getElem?_eq_getElem hi);rw[bA]at hh;have hkey:es.toArray[i].key=u:=eq_of_beq hh.1;have hF:p.1=k:=Pp h4 hv (hkey▸h3) r Af B3 ((Ea _ h5).2 _ hb);have:=hh.2;rw[h2,hF]at this;simp at this
 .intro i e he hh;obtain⟨p,y,h1,h2,h3,h4,h5,h6⟩:=ent i e he;show SeqAt.EqAt A s e.key u (match kvs[i]? with|some p=>decide (p.1=k)|none=>false);rw[h1];exact Mb p.1 h4 hv h3 r Af B3 ((Ea _ h5).2 _ hb) (by lia)
 .exact λA E Q q=>FH k hv (Ea _ hb).1 r Af B3 hdp A E Q q
 .intro i e he;obtain⟨p,y,h1,h2,h3,h4,h5,h6⟩:=ent i e he;exact λA E Q q=>FH p.1 h4 (Ea _ h5).1 h3 Af B3 h6 A E Q q
 .intro i j e f he hf _ _ bi bj;obtain⟨p,y,h1,_⟩:=ent i e he;obtain⟨p',y',h1',_⟩:=ent j f hf;simp only[h1,h1']at bi bj;exact Kh hn h1 h1' ((of_decide_eq_true bi).trans (of_decide_eq_true bj).symm)
 .intro hno;refine q0 λp hp' hF=>?_
  obtain⟨i,hi,e⟩:=mem_iff_getElem.mp hp';have h1:kvs[i]? =some p:=by rw[List.getElem?_eq_getElem hi,e]
  obtain⟨f,h2,h3⟩:=Paired.at' hp h1;have:=hno i f (by rw[List.getElem?_toArray];exact h2) (by rw[h3.1,hF]);simp only[h1,hF]at this;simp at this
 .intro i e he _ hb;obtain⟨p,y,h1,_⟩:=ent i e he;simp only[h1]at hb;exact q1 i p h1 (of_decide_eq_true hb)
theorem Oy{kvs:List (P×P)}{k:P}(h:∀p∈kvs,p.1≠k):Ac kvs k=none:=by
 unfold Ac;rw[List.find?_eq_none.mpr (λp hp=>by simp[h p hp])];rfl
theorem Ut{kvs:List (P×P)}{k:P}{i:Nat}{p:P×P}(hn:(kvs.map (·.1)).Nodup)(h:kvs[i]? =some p)(e:p.1=k):Ac kvs k=some p.2:=by
 unfold Ac;cases hf:kvs.find? λp=>decide (p.1=k)with
 |none=>
   have:=List.find?_eq_none.mp hf p (mem_of_getElem? h);simp[e]at this
 |some p'=>
   have h1:=List.mem_of_find?_eq_some hf;have h2:p'.1=k:=by simpa using List.find?_some hf
   obtain⟨j,hj,e'⟩:=mem_iff_getElem.mp h1;have h1':kvs[j]? =some p':=by rw[List.getElem?_eq_getElem hj,e']
   have:=Kh hn h h1' (e.trans h2.symm);subst this;rw[h]at h1';cases h1';rfl
theorem DT{kvs:List (P×P)}{E:Value->Shared->Prop}{Q:Option Value->Shared->Prop}(Af:Ce Pg W.w H s.heap)(B3:W.K.In s.heap)(hd:CY W H a kvs)(hk:keyOk k=true)(hv:Al W H k v)(r:RelV v u)(hu:A.units + 110 < cLine)
 (q0:Ac kvs k=none->∀tk,Q none {s with toks:=tk})(q1:∀p y z,Ac kvs k=some p->Al W H p y->RelV y z->∀tk,Q (some z) {s with toks:=tk}):wpAny (model Pg W.w) A (dictGet a u) Q E s:=by
 obtain⟨es,hH,hp⟩:=hd.ex;obtain⟨⟨o,h1,h2,h3⟩,_⟩:=(show BN Pg W.w H s.heap a (DX a es)from Af a _ hH);obtain⟨hb,hdp⟩:=Cw hk;unfold dictGet;refine wpAny_holding (wB (Hl k hv (Ea _ hb).1 r Af B3 (by lia) λtk=>?_));refine wB (Nr (s:={s with toks:=tk}) Af B3 h1 h3 hp hd.nd hd.ks hk hv r hu (λh=>?_) λi p hi e=>?_)
 .exact wP (q0 (Oy h) tk)
 .refine wB (wpAny_dictEntries (s:={s with toks:=tk}) h1 h3 (wP ?_));obtain⟨f,g1,g2⟩:=Paired.at' hp hi;rw[List.getElem?_toArray,g1];obtain⟨y,ry,hy⟩:=g2.2.2;exact q1 _ y _ (Ut hd.nd hi e) hy ry tk
theorem Ox(kvs:List (P×P))(k v:P)(h:(kvs.any λq=>decide (q.1=k))=true):(dput kvs k v).map (·.1)=kvs.map (·.1):=by
 unfold dput;rw[iP h,map_map];apply map_congr_left;intro p _;show(if p.1=k then(p.1,v)else p).1=p.1;split<;>rfl
theorem Hs{kvs:List (P×P)}(hn:(kvs.map (·.1)).Nodup):((dput kvs k v).map (·.1)).Nodup:=by
 by_cases h:(kvs.any λq=>decide (q.1=k))=true
 .rw[Ox _ _ _ h];exact hn
 .unfold dput;rw[iN h,map_append,nodup_append];refine⟨hn,by simp,?_⟩;intro x hx z hz e;simp at hz;subst hz;obtain⟨p,hp,e2⟩:=mem_map.mp hx;exact h (any_eq_true.mpr ⟨p,hp,decide_eq_true (e2.trans e)⟩)
theorem CU(kvs:List (P×P))(k v:P):(dput kvs k v).length<=kvs.length + 1:=by
 unfold dput;split
 .rw[lM];lia
 .rw[lA];exact lR
theorem KH{kvs:List (P×P)}{k v:P}{p:P×P}(h:p∈dput kvs k v):(∃q∈kvs,p.1=q.1)\/p=(k,v):=by
 unfold dput at h;split at h
 .obtain⟨q,hq,e⟩:=mem_map.mp h;refine .inl ⟨q,hq,?_⟩;rw[<-e];split<;>rfl
 .rcases mem_append.mp h with z|z
  .exact .inl ⟨p,z,rfl⟩
  .exact .inr (mE z)
theorem HK{kvs:List (P×P)}{es:List DictEntry}{k:P}(hr:RelV y r)(hy:Al W H v y)(hn:(kvs.map (·.1)).Nodup):∀{i:Nat} {p:P×P},Paired (ES W H) kvs es->kvs[i]? =some p->p.1=k->
 Paired (ES W H) (kvs.map λp=>if p.1=k then(p.1,v)else p) (es.modify i λe=>{hash:=e.hash,key:=e.key,val:=r}):=by
 induction kvs generalizing es with
 |nil=>intro i p _ e;simp at e
 |cons q kvs ih=>
   intro i p hp hi he;rw[map_cons,nodup_cons]at hn;cases hp with
   |@cons _ e0 _ es' h0 ht=>
     cases i with
     |zero=>
       simp at hi;subst hi;rw[map_cons,iP he]
       have rest:(kvs.map λp=>if p.1=k then(p.1,v)else p)=kvs:=by
        have:∀q∈kvs,(if q.1=k then(q.1,v)else q)=q:=by
         intro q hq;rw[iN];intro z;exact hn.1 (mem_map.mpr ⟨q,hq,z.trans he.symm⟩)
        conv=>rhs;rw[<-List.map_id kvs]
        exact map_congr_left this
       rw[rest];exact .cons ⟨h0.1,h0.2.1,y,hr,hy⟩ ht
     |succ i=>
       have hi:kvs[i]? =some p:=by simpa using hi
       rw[map_cons,iN]
       .exact .cons h0 (ih hn.2 ht hi he)
       .intro z;exact hn.1 (mem_map.mpr ⟨p,mem_of_getElem? hi,he.trans z.symm⟩)
end
variable{X:Cx}{W:Wd}{pins:List (Addr×Obj)}{σ:L2.St}{H:Hp}{s:Shared}{a:Addr}{kvs:List (P×P)}{k v:P}{x y:V}{u r:Value}{A:Around}{E:Value->Shared->Prop}
theorem CG(hw:W.w=X.w)(Af:Ce X.prog X.w H s.heap)(hd:CY W H a kvs):s.TypeIs (.ref a) "dict":=by
 obtain⟨es,hH,_⟩:=hd.ex;obtain⟨⟨o,h1,h2,h3⟩,_⟩:=(show BN X.prog X.w H s.heap a (DX a es)from Af a _ hH);exact⟨o,h1,h2.1⟩
theorem Mh{Q:Value->Shared->Prop}(hK:W.K=X.K)(hw:W.w=X.w)(hu:A.units + 200 < cLine)(I:Inv X pins σ H s)(hd:CY W H a kvs)(hk:keyOk k=true)(hx:Al W H k x)(hl:Ac kvs k=some v)(rx:RelV x u)
 (h:∀w' y s',Inv X pins σ H s'->RelV y w'->Al W H v y->Q w' s'):wpAny (model X.prog X.w) A (getItem (.ref a) u) Q E s:=by
 have ty:=CG hw I.Af hd;have B3:W.K.In s.heap:=hK▸I.DQ;have Af:Ce X.prog W.w H s.heap:=hw▸I.Af;unfold getItem;refine wpAny_holding (wB (wpAny_sequenceKey ty (by decide) ?_));refine wB (wpAny_callSpecial?_slot ty slot_dict_getitem (wpAny_call_entry slot_dict_getitem ty entry_dict_getitem ?_ (args_dict_getitem _ _)));have hu1:A.in1.units=A.units+1:=in1_units;show wpAny _ _ (dictGet a u >>= _) _ _ s;rw[<-hw];refine wB (DT Af B3 hd hk hx rx (by lia) (λz=>by rw[hl]at z;cases z) λp y z hz hy rz tk=>?_);rw[hl]at hz;cases hz;exact wP ⟨_,rfl,wP (h _ _ _ (I.tok _) rz hy)⟩
theorem Gf{Q:Bool->Shared->Prop}(hK:W.K=X.K)(hw:W.w=X.w)(hu:A.units + 200 < cLine)(I:Inv X pins σ H s)(hd:CY W H a kvs)(hk:keyOk k=true)(hx:Al W H k x)(rx:RelV x u)(h:∀s',Inv X pins σ H s'->Q (Ac kvs k).isSome s'):
 wpAny (model X.prog X.w) A (contains (.ref a) u) Q E s:=by
 have ty:=CG hw I.Af hd;have B3:W.K.In s.heap:=hK▸I.DQ;have Af:Ce X.prog W.w H s.heap:=hw▸I.Af;have hu1:A.in1.units=A.units+1:=in1_units;have hsm:=hd.sm;refine wpAny_contains_slot ty slot_dict_contains (wpAny_call_entry slot_dict_contains ty entry_dict_contains ?_ (args_dict_contains _ _));show wpAny _ _ (dictGet a u >>= _) _ _ s;rw[<-hw];refine wB (DT Af B3 hd hk hx rx (by lia) (λz tk=>?_) λp y z hz hy rz tk=>?_)
 .refine wpAny_ite_split (λhab=>absurd hab (by decide)) (λ_=>?_);unfold Builtin.Dict.pendingKey?;rw[hsm];refine wB ?_;refine wpAny_ite_split (λhab=>absurd hab (by decide)) (λ_=>wP (wP ⟨_,rfl,?_⟩));have:=h _ (I.tok tk);rw[z]at this;exact wpAny_truthy_bool this
 .refine wpAny_ite_split (λ_=>wP ⟨_,rfl,?_⟩) (λhab=>absurd rfl hab);have:=h _ (I.tok tk);rw[hz]at this;exact wpAny_truthy_bool this
variable{es':List DictEntry}
theorem KN{h':Heap}{t':Nat}{es:List DictEntry}{oc:Value}{od:Option Addr}{os:Array (Option Value)}{d0:Data}(I:Inv X pins σ H s)(hH:H a=some (DX a es))(hs:Heap.SameBut a s.heap h')
 (hg:h'.get? a=some ⟨oc,od,.dict es'.toArray es'.length,os⟩)(hx:(Obj.mk oc od d0 os).ExactDict):Inv X pins σ (upd H a (DX a es')) {s with heap:=h',toks:=t'}:=by
 refine Uw I (by rw[hH];exact True.intro) hs ⟨_,hg⟩ ⟨⟨_,hg,hx,rfl⟩,⟨_,hg⟩,?_⟩
 rintro h1 h2 ⟨o,q1,q2,q3⟩ k
 exact⟨o,k o q1,q2,q3⟩
theorem N9{es:List DictEntry}(hH:H a=some (DX a es)):B0 H (upd H a (DX a es')):=λb=>by
 by_cases hb:b=a
 .subst hb;refine⟨λxs z=>?_,λo u z=>?_⟩
  .rw[hH]at z;cases z
  .rw[hH]at z;cases z
 .rw[An hb];exact⟨λ_ z=>z,λ_ _ z=>z⟩
theorem Mg{Q:Unit->Shared->Prop}(hK:W.K=X.K)(hw:W.w=X.w)(hu:A.units + 200 < cLine)(I:Inv X pins σ H s)(hd:CY W H a kvs)(hk:keyOk k=true)(hx:Al W H k x)(hy:Al W H v y)(hl:kvs.length < big)(rx:RelV x u)(ry:RelV y r)
 (h:∀es es' s',H a=some (DX a es)->CY W (upd H a (DX a es')) a (dput kvs k v)->Inv X pins σ (upd H a (DX a es')) s'->Q () s'):
 wpAny (model X.prog X.w) A (setItem (.ref a) u r) Q E s:=by
 have ty:=CG hw I.Af hd;have B3:W.K.In s.heap:=hK▸I.DQ;have Af:Ce X.prog W.w H s.heap:=hw▸I.Af;have hu1:A.in1.units=A.units+1:=in1_units;obtain⟨es,hH,hp⟩:=hd.ex;have hn:=hd.nd;have hks:=hd.ks;have hsm:=hd.sm;obtain⟨hb,hdp⟩:=Cw hk;obtain⟨⟨o,h1,h2,h3⟩,_⟩:=(show BN X.prog X.w H s.heap a (DX a es)from I.Af a _ hH);have hlen:=Paired.length hp;have T:∀es',B0 H (upd H a (DX a es')):=λes'=>N9 hH
 unfold setItem;refine wpAny_holding (wB (wpAny_sequenceKey ty (by decide) ?_));refine wB (wpAny_callSpecial?_slot ty slot_dict_setitem (wpAny_call_entry slot_dict_setitem ty entry_dict_setitem ?_ (args_dict_setitem _ _ _)));show wpAny _ _ (Builtin.Dict.notOrdered "__setitem__" ⟨[.ref a,u,r],[]⟩ >>= λ_=>dictSet a u r >>= λ_=>ret Value.none) _ _ s;unfold Builtin.Dict.notOrdered;refine wB ?_;refine wpAny_ite_split (λ_=>?_) (λhab=>absurd (by decide) hab);refine wB (wpAny_typeOf ty ?_);refine wpAny_ite_split (λhab=>absurd hab (by decide)) (λ_=>wP ?_);refine wB ?_;unfold dictSet;rw[<-hw];refine wpAny_holding (wB (Hl k hx (Ea _ hb).1 rx Af B3 (by lia) λtk=>?_));unfold dictSetHashed;refine wpAny_holding (wB (Nr (s:={s with toks:=tk}) Af B3 h1 h3 hp hn hks hk hx rx (by lia) (λhno=>?_) λi p hi e=>?_))
 .refine wB (wpAny_rule ?_);refine wpAny_updateDictKeys (s:={s with toks:=tk}) h1 h3 ?_ (by rw[size_toArray];have:=BP;lia) (by simp);refine wP ⟨_,rfl,wP ?_⟩
  have hnone:¬(kvs.any λq=>decide (q.1=k))=true:=λz=>by
   obtain⟨p,hp',e⟩:=any_eq_true.mp z;exact hno p hp' (of_decide_eq_true e)
  have eput:dput kvs k v=kvs++[(k,v)]:=by unfold dput;rw[iN hnone]
  obtain⟨oc,od,oda,os⟩:=o;have h3:oda= .dict es.toArray es.length:=h3;subst h3
  have hget:(s.heap.update a (Obj.mapDictKeys λx=>x.push (⟨CS W.w k,u,r⟩:DictEntry))).get? a=some ⟨oc,od,.dict (es++[(⟨CS W.w k,u,r⟩:DictEntry)]).toArray (es++[(⟨CS W.w k,u,r⟩:DictEntry)]).length,os⟩:=by
   rw[Heap.get?_update_self _ h1 rfl];show some (Obj.mk oc od (.dict (es.toArray.push (⟨CS W.w k,u,r⟩:DictEntry)) (es.length+1)) os)=_;rw[List.push_toArray,lA];rfl
  refine h es (es++[(⟨CS W.w k,u,r⟩:DictEntry)]) _ hH ⟨⟨_,Ay,?_⟩,Hs hn,λp hp'=>?_,by have:=CU kvs k v;lia,hsm⟩ (KN (s:=s) (t':=tk) I hH (Heap.SameBut.update ..) hget h2)
  .rw[eput];exact Paired.snoc (Paired.Qm hp λ_ _ z=>z.mono (T _)) ⟨rfl,⟨x,rx,hx.mono (T _)⟩,y,ry,hy.mono (T _)⟩
  .rcases KH hp' with⟨q,hq,e1⟩|e
   .rw[e1];exact hks q hq
   .rw[e];exact hk
 .refine wB (wpAny_rule ?_);refine wB (wpAny_updateDict (s:={s with toks:=tk}) h1 h3 ?_ (by simp));have hsome:(kvs.any λq=>decide (q.1=k))=true:=any_eq_true.mpr ⟨p,mem_of_getElem? hi,decide_eq_true e⟩;have eput:dput kvs k v=kvs.map λp=>if p.1=k then(p.1,v)else p:=by unfold dput;rw[iP hsome]
  obtain⟨oc,od,oda,os⟩:=o;have h3:oda= .dict es.toArray es.length:=h3;subst h3
  have hget:(s.heap.update a (Obj.mapDict λx=>x.modify i λe=>{hash:=e.hash,key:=e.key,val:=r})).get? a=some ⟨oc,od,.dict (es.modify i λe=>{hash:=e.hash,key:=e.key,val:=r}).toArray (es.modify i λe=>{hash:=e.hash,key:=e.key,val:=r}).length,os⟩:=by
   rw[Heap.get?_update_self _ h1 rfl];show some (Obj.mk oc od (.dict (es.toArray.modify i _) es.length) os)=_;rw[List.modify_toArray,List.length_modify]
  refine wpAny_point ?_;refine wP ⟨_,rfl,wP ?_⟩;refine h es (es.modify i λe=>{hash:=e.hash,key:=e.key,val:=r}) _ hH ⟨⟨_,Ay,?_⟩,Hs hn,λp hp'=>?_,by have:=CU kvs k v;lia,hsm⟩ (KN (s:=s) (t':=tk) I hH (Heap.SameBut.update ..) hget h2)
  .rw[eput];exact HK ry (hy.mono (T _)) hn (Paired.Qm hp λ_ _ z=>z.mono (T _)) hi e
  .rcases KH hp' with⟨q,hq,e1⟩|e
   .rw[e1];exact hks q hq
   .rw[e];exact hk
end Iv
namespace Iv
open PySem L2
def AQ(as:List Nat)(σ σ':St):Prop:=σ'.length=σ.length/\∀i,i∉as->σ'[i]? =σ[i]?
theorem AQ.refl(as:List Nat)(σ:St):AQ as σ σ:=⟨rfl,λ_ _=>rfl⟩
variable{as:List Nat}{σ1:St}
theorem AQ.trans{σ σ2:St}(a:AQ as σ σ1)(b:AQ as σ1 σ2):AQ as σ σ2:=⟨b.1.trans a.1,λi h=>(b.2 i h).trans (a.2 i h)⟩
theorem AQ.mono{bs:List Nat}{σ σ':St}(a:AQ as σ σ')(h:∀i∈as,i∈bs):AQ bs σ σ':=⟨a.1,λi hi=>a.2 i λz=>hi (h i z)⟩
theorem AQ.set{σ:St}{i:Nat}{x:Option V}(h:i∈as):AQ as σ (σ.set i x):=⟨length_set ..,λj hj=>by
 rw[List.getElem?_set_ne]
 exact λz=>hj (z▸h)⟩
section
variable (W:Wd)(xp:Nat->Hp->Prop)
def Cd(as:List Nat)(D:Ends)(σ:St)(H:Hp)(os:List Addr)(r:Res Fl):Prop:=match r with
 |.stuck=>False
 |.ok .nx ρ'=>∀σ' H' os',Aa W H' ρ' σ' os'->os'.Nodup->Ba H H' os os'->AQ as σ σ'->D.nx σ' H'
 |.ok .cnt ρ'=>∀σ' H' os',Aa W H' ρ' σ' os'->os'.Nodup->Ba H H' os os'->AQ as σ σ'->D.ct σ' H'
 |.ok (.er c) ρ'=>∀σ' H' os',Aa W H' ρ' σ' os'->os'.Nodup->Ba H H' os os'->AQ as σ σ'->xp c H'
 |.ok (.ret c) ρ'=>∀v σ' H' o os',Bk W H' c v o->Aa W H' ρ' σ' os'->(o++os').Nodup->Ba H H' os (o++os')->AQ as σ σ'->D.rt v H'
def tS(as:List Nat)(F:Env->Res Fl):TS:=λD σ H=>∃ρ os,Aa W H ρ σ os/\os.Nodup/\Cd W xp as D σ H os (F ρ)
end
variable{W:Wd}{xp:Nat->Hp->Prop}{as:List Nat}{D:Ends}{σ:St}{H:Hp}{os:List Addr}{r:Res Fl}
variable{os1:List Addr}
theorem Cd.later{H1:Hp}(h:Cd W xp as D σ H os r)(f:Ba H H1 os os1)(u:AQ as σ σ1):Cd W xp as D σ1 H1 os1 r:=by
 have fr:∀{H' os'},Ba H1 H' os1 os'->Ba H H' os os':=λg=>f.trans g
 cases r with
 |stuck=>exact h
 |ok f ρ'=>
   cases f with
   |nx=>exact λσ' H' os' h1 h2 h3 h4=>h σ' H' os' h1 h2 (fr h3) (u.trans h4)
   |cnt=>exact λσ' H' os' h1 h2 h3 h4=>h σ' H' os' h1 h2 (fr h3) (u.trans h4)
   |er c=>exact λσ' H' os' h1 h2 h3 h4=>h σ' H' os' h1 h2 (fr h3) (u.trans h4)
   |ret c=>exact λv σ' H' o os' h0 h1 h2 h3 h4=>h v σ' H' o os' h0 h1 h2 (fr h3) (u.trans h4)
theorem Cd.less(h:Cd W xp as D σ H os r)(hm:∀a∈os1,a∈os):Cd W xp as D σ H os1 r:=
 h.later ⟨IE.refl _ _,λa ha=>.inl (hm a ha),λ_ x e=>⟨x,e⟩⟩ (AQ.refl _ _)
theorem Cd.more{bs:List Nat}(h:Cd W xp bs D σ H os r)(hm:∀i∈as,i∈bs):Cd W xp as D σ H os r:=by
 cases r with
 |stuck=>exact h
 |ok f ρ'=>
   cases f with
   |nx=>exact λσ' H' os' h1 h2 h3 h4=>h σ' H' os' h1 h2 h3 (h4.mono hm)
   |cnt=>exact λσ' H' os' h1 h2 h3 h4=>h σ' H' os' h1 h2 h3 (h4.mono hm)
   |er c=>exact λσ' H' os' h1 h2 h3 h4=>h σ' H' os' h1 h2 h3 (h4.mono hm)
   |ret c=>exact λv σ' H' o os' h0 h1 h2 h3 h4=>h v σ' H' o os' h0 h1 h2 h3 (h4.mono hm)
theorem after{α β:Type}{rep:St->Hp->Env->α->β->List Addr->Prop}{F:Env->Res α}{G:α->Env->Res Fl}{K:β->Hp->Prop}(hR:Aa W H ρ σ os)(h:Cd W xp as D σ H os ((F ρ).bind G))
 (k:∀a ρ1 b H1 o1 os1,rep σ H1 ρ1 a b o1->Aa W H1 ρ1 σ os1->(o1++os1).Nodup->Ba H H1 os (o1++os1)->Cd W xp as D σ H1 (o1++os1) (G a ρ1)->K b H1):Cs W (rep σ) H os σ (F ρ) K:=by
 unfold Cs;cases eF:F ρ with
 |stuck=>rw[eF]at h;exact h
 |ok a ρ1=>
   rw[eF,Res.A5]at h;exact λb H1 o1 os1 h1 h2 h3 h4=>k a ρ1 b H1 o1 os1 h1 h2 h3 h4 (h.later h4 (AQ.refl _ _))
theorem Zm(h:tS W xp [] (λρ=>.ok .nx ρ) D σ H):VC D σ H:=by
 obtain⟨ρ,os,hR,hn,hA⟩:=h
 try dsimp only at hA
 exact hA σ H os hR hn (Ba.refl _ _) (AQ.refl _ _)
theorem Zo(h:tS W xp [] (λρ=>.ok .cnt ρ) D σ H):VE D σ H:=by
 obtain⟨ρ,os,hR,hn,hA⟩:=h
 try dsimp only at hA
 exact hA σ H os hR hn (Ba.refl _ _) (AQ.refl _ _)
variable{a1 a2:List Nat}{G:Env->Res Fl}
theorem Wv{F:Env->Res Fl}(h:tS W xp (a1++a2) (λρ=>(F ρ).bind λf ρ=>match f with| .nx=>G ρ|f=>.ok f ρ) D σ H):Za (tS W xp a1 F) (tS W xp a2 G) D σ H:=by
 obtain⟨ρ,os,hR,hn,hA⟩:=h
 try dsimp only at hA
 have m1:∀i∈a1,i∈a1++a2:=λi hi=>mL hi
 have m2:∀i∈a2,i∈a1++a2:=λi hi=>mR hi
 refine⟨ρ,os,hR,hn,?_⟩;cases eF:F ρ with
 |stuck=>rw[eF]at hA;exact hA
 |ok f ρ1=>
   rw[eF,Res.A5]at hA;cases f with
   |nx=>
     intro σ' H' os' h1 h2 h3 h4;have hA:Cd W xp (a1++a2) D σ H os (G ρ1):=hA;exact⟨ρ1,os',h1,h2,(hA.later h3 (h4.mono m1)).more m2⟩
   |cnt=>exact λσ' H' os' h1 h2 h3 h4=>hA σ' H' os' h1 h2 h3 (h4.mono m1)
   |er c=>exact λσ' H' os' h1 h2 h3 h4=>hA σ' H' os' h1 h2 h3 (h4.mono m1)
   |ret c=>exact λv σ' H' o os' h0 h1 h2 h3 h4=>hA v σ' H' o os' h0 h1 h2 h3 (h4.mono m1)
theorem ck{B:Env->Res Bool}{F:Env->Res Fl}(h:tS W xp (a1++a2) (λρ=>(B ρ).bind λx ρ=>if x then F ρ else G ρ) D σ H):Zg (tG W rB B) (tS W xp a1 F) (tS W xp a2 G) D σ H:=by
 obtain⟨ρ,os,hR,hn,hA⟩:=h
 try dsimp only at hA
 refine⟨ρ,os,hR,hn,after hR hA λa ρ1 b H1 o1 os1 h1 h2 h3 h4 h5=>?_⟩;obtain⟨rfl,rfl⟩:=h1;cases a with
 |true=>exact⟨ρ1,os1,h2,h3,h5.more λi hi=>mL hi⟩
 |false=>exact⟨ρ1,os1,h2,h3,h5.more λi hi=>mR hi⟩
variable{F:Env->Res C}
theorem Wu(h:tS W xp [] (λρ=>(F ρ).bind λ_ ρ=>.ok .nx ρ) D σ H):VD (tG W (rV W) F) D σ H:=by
 obtain⟨ρ,os,hR,hn,hA⟩:=h
 try dsimp only at hA
 refine⟨ρ,os,hR,hn,after hR hA λa ρ1 b H1 o1 os1 h1 h2 h3 h4 h5=>?_⟩;exact h5 σ H1 os1 h2 (nA h3).2.1 ((Ba.refl _ _).sub λa ha=>mR ha) (AQ.refl _ _)
theorem Zl(h:tS W xp [] (λρ=>(F ρ).bind λc ρ=>.ok (.ret c) ρ) D σ H):Zb (tG W (rV W) F) D σ H:=by
 obtain⟨ρ,os,hR,hn,hA⟩:=h
 try dsimp only at hA
 refine⟨ρ,os,hR,hn,?_⟩;unfold Cs;cases eF:F ρ with
 |stuck=>rw[eF]at hA;exact hA
 |ok a ρ1=>
   rw[eF]at hA;exact λb H1 o1 os1 h1 h2 h3 h4=>hA b σ H1 o1 os1 h1 h2 h3 h4 (AQ.refl _ _)
theorem DO{o os od os':List Addr}(hn:(o++os).Nodup)(p:(od++os').Perm (o++os)):os'.Nodup:=(nA (p.nodup_iff.mpr hn)).2.1
theorem Zk{i:Nat}(hi:i < σ.length)(h:tS W xp [i] (λρ=>(F ρ).bind λc ρ=>.ok .nx (ρ.set i (some c))) D σ H):P4 (tG W (rV W) F) (EH i) D σ H:=by
 obtain⟨ρ,os,hR,hn,hA⟩:=h
 try dsimp only at hA
 refine⟨ρ,os,hR,hn,after hR hA λc ρ1 v H1 o1 os1 h1 h2 h3 h4 h5=>?_⟩;obtain⟨os2,od,r2,p2⟩:=Aa.put h1 h2 (by rw[<-h2.length];exact hi);exact h5 (σ.set i (some v)) H1 os2 r2 (DO h3 p2) ((Ba.refl _ _).sub λa ha=>p2.subset (mR ha)) (AQ.set mS)
end Iv
namespace Iv
open PySem L2
open Classical in
noncomputable def A6:WH:=λc b ρ=>if h:∃n,∃f ρ',Ax c b n ρ= .ok f ρ' then Ax c b h.choose ρ else .stuck
theorem IH{c:Env->Res Bool}{b:Env->Res Fl}(h:A6 c b ρ≠.stuck):∃n,Ax c b n ρ=A6 c b ρ:=by
 unfold A6 at h ⊢;split
 .exact⟨_,rfl⟩
 .rename_i hn;rw[dif_neg hn]at h;exact absurd rfl h
theorem Bo{c:Env->Res Bool}{b:Env->Res Fl}(n:Nat)(ρ:Env):Ax c b (n + 1) ρ=(c ρ).bind λx ρ=>if x then(b ρ).bind λf ρ=>match f with
 |.nx=>Ax c b n ρ
 |.cnt=>Ax c b n ρ
 |.er c=>.ok (.er c) ρ
 |.ret r=>.ok (.ret r) ρ
 else .ok .nx ρ:=rfl
theorem D3{c:Env->Res Bool}{b:Env->Res Fl}:∀(n:Nat) (ρ:Env),Ax c b n ρ≠.stuck->Ax c b (n + 1) ρ=Ax c b n ρ
 |0,ρ,h=>absurd rfl h
 | n + 1,ρ,h=>by
   rw[Bo]at h;rw[Bo (n+1),Bo n];cases ec:c ρ with
   |stuck=>rfl
   |ok x ρ1=>
     rw[ec,Res.A5]at h;rw[Res.A5,Res.A5];cases x with
     |false=>rfl
     |true=>
       rw[iP rfl]at h;rw[iP rfl,iP rfl];cases eb:b ρ1 with
       |stuck=>rfl
       |ok f ρ2=>
         rw[eb,Res.A5]at h;rw[Res.A5,Res.A5];cases f with
         |nx=>exact D3 n ρ2 h
         |cnt=>exact D3 n ρ2 h
         |er c=>rfl
         |ret r=>rfl
variable{n:Nat}
theorem ET{c:Env->Res Bool}{b:Env->Res Fl}(h:Ax c b n ρ≠.stuck):∀m,Ax c b (n + m) ρ=Ax c b n ρ
 |0=>rfl
 | m + 1=>by
   have ih:=ET h m;rw[<-Nat.add_assoc,D3 (n+m) ρ (by rw[ih];exact h),ih]
theorem OQ{c:Env->Res Bool}{b:Env->Res Fl}(h:Ax c b n ρ≠.stuck):A6 c b ρ=Ax c b n ρ:=by
 have hex:∃n,∃f ρ',Ax c b n ρ= .ok f ρ':=by
  cases e:Ax c b n ρ with
  |stuck=>exact absurd e h
  |ok f ρ'=>exact⟨n,f,ρ',e⟩
 have hne:A6 c b ρ≠.stuck:=by
  unfold A6;rw[dif_pos hex];obtain⟨f,ρ',z⟩:=hex.choose_spec;intro e;rw[z]at e;cases e
 obtain⟨m,em⟩:=IH hne;rw[<-em];rw[<-em]at hne;rcases Nat.le_total n m with z|z
 .obtain⟨k,rfl⟩:=Nat.exists_eq_add_of_le z;exact ET h k
 .obtain⟨k,rfl⟩:=Nat.exists_eq_add_of_le z;exact(ET hne k).symm
variable{W:Wd}{xp:Nat->Hp->Prop}{as:List Nat}{D:Ends}{σ:St}{H:Hp}{os:List Addr}
theorem SR{B:Env->Res Bool}{F:Env->Res Fl}(h:tS W xp as (λρ=>A6 B F ρ) D σ H):P1 (tG W rB B) (tS W xp as F) D σ H:=by
 obtain⟨ρ,os,hR,hn,hA⟩:=h
 try dsimp only at hA
 have hne:A6 B F ρ≠.stuck:=λz=>by rw[z]at hA;exact hA
 obtain⟨n,en⟩:=IH hne;rw[<-en]at hA;refine⟨λm σ' H'=>∃ρ' os',Aa W H' ρ' σ' os'/\os'.Nodup/\Cd W xp as D σ' H' os' (Ax B F m ρ'),⟨n,ρ,os,hR,hn,hA⟩,?_⟩
 rintro m σ' H' ⟨ρ',os',hR',hn',hA'⟩
 cases m with
 |zero=>exact hA'.elim
 |succ m=>
   rw[Bo]at hA';refine⟨ρ',os',hR',hn',after hR' hA' λx ρ1 b H1 o1 os1 h1 h2 h3 h4 h5=>?_⟩;obtain⟨rfl,rfl⟩:=h1;cases x with
   |false=>exact h5 σ' H1 os1 h2 h3 (Ba.refl _ _) (AQ.refl _ _)
   |true=>
     have h5:Cd W xp as D σ' H1 os1 ((F ρ1).bind λf ρ=>match f with
      |.nx=>Ax B F m ρ
      |.cnt=>Ax B F m ρ
      |.er c=>.ok (.er c) ρ
      |.ret r=>.ok (.ret r) ρ):=h5
     refine⟨λσ2 H2=>∃ρ' os',Aa W H2 ρ' σ2 os'/\os'.Nodup/\Cd W xp as D σ2 H2 os' (Ax B F m ρ'),λσ2 H2 z=>⟨m,Nat.lt_succ_self m,z⟩,ρ1,os1,h2,h3,?_⟩;cases eF:F ρ1 with
     |stuck=>rw[eF]at h5;exact h5
     |ok f ρ2=>
       rw[eF,Res.A5]at h5;cases f with
       |nx=>exact λσ2 H2 os2 g1 g2 g3 g4=>⟨ρ2,os2,g1,g2,Cd.later (r:=Ax B F m ρ2) h5 g3 g4⟩
       |cnt=>exact λσ2 H2 os2 g1 g2 g3 g4=>⟨ρ2,os2,g1,g2,Cd.later (r:=Ax B F m ρ2) h5 g3 g4⟩
       |er c=>exact h5
       |ret c=>exact h5
structure Walk(W:Wd)(J:It)(xs:List P)(g:Hp->Prop):Prop where
 go:∀i H,g H->i < xs.length->J.go i H
 Mz:∀i H x H',g H->i < xs.length->J.Mz i H x H'->D2 H H'/\∃p,xs[i]? =some p/\Al W H' p x
 stop:∀H,g H->J.stop xs.length H
def NM(W:Wd)(k:IK)(F:Env->Res (List Hd)):TI:=λσ H R=>tG W (Bn W) F σ H λvs H1=>∃cs xs,E3 W H1 cs vs/\Ae k cs=some xs/\∀J,Walk W J xs (λH=>E3 W H cs vs)->R J H1
def aG:List Nat->W5
 |[]=>aI
 |i::is=>VV (EH i) (aG is)
def gT(W:Wd):Tg->TG
 |.nm i=>EH i
 |.tup is=>XC W.K is.length (aG is)
theorem I8{ρ:Env}{i:Nat}(hp:Al W H p v)(hR:Aa W H ρ σ os)(hn:os.Nodup)(hi:i < σ.length):∃os',Aa W H (ρ.set i (some (.p p))) (σ.set i (some v)) os'/\os'.Nodup/\∀a∈os',a∈os:=by
 obtain⟨os',od,r,q⟩:=Aa.put (c:=.p p) (v:=v) (o:=[]) ⟨hp,rfl⟩ hR (by rw[<-hR.length];exact hi);exact⟨os',r,DO (o:=[]) hn q,λa ha=>q.subset (mR ha)⟩
theorem QR{Q:St->Hp->Prop}:∀{is:List Nat} {ps:List P} {vs:List V} {ρ:Env} {σ:St} {os:List Addr},A7 W H ps vs->is.length=ps.length->Aa W H ρ σ os->os.Nodup->(∀i∈is,i < σ.length)->
 (∀σ' os',Aa W H ((is.zip ps).foldl (λr q=>r.set q.1 (some (.p q.2))) ρ) σ' os'->os'.Nodup->(∀a∈os',a∈os)->AQ is σ σ'->Q σ' H)->aG is vs σ H Q
 | [],ps,vs,ρ,σ,os,hp,hl,hR,hn,hi,q=>by
   have:ps=[]:=length_eq_zero_iff.mp hl.symm;subst this;unfold A7 at hp;exact⟨hp,q σ os hR hn (λa ha=>ha) (AQ.refl _ _)⟩
 | i ::is,ps,vs,ρ,σ,os,hp,hl,hR,hn,hi,q=>by
   cases ps with
   |nil=>cases hl
   |cons p ps=>
     cases vs with
     |nil=>unfold A7 at hp;obtain⟨_,_,e,_⟩:=hp;cases e
     |cons v vs=>
       obtain⟨os1,r1,n1,s1⟩:=I8 hp.AF.1 hR hn (hi i mS);refine⟨v,vs,rfl,QR hp.AF.2 (by simpa using hl) r1 n1 (λj hj=>by rw[length_set];exact hi j (mC hj)) λσ' os' g1 g2 g3 g4=>?_⟩;refine q σ' os' g1 g2 (λa ha=>s1 a (g3 a ha)) ?_;exact(AQ.set mS).trans (g4.mono λj hj=>mC hj)
theorem VU{Q:St->Hp->Prop}{g:Tg}{ρ':Env}(e:Dp g p ρ=some ρ')(hp:Al W H p v)(hR:Aa W H ρ σ os)(hn:os.Nodup)(hi:∀i∈g.slots,i < σ.length)
 (q:∀σ' os',Aa W H ρ' σ' os'->os'.Nodup->(∀a∈os',a∈os)->AQ g.slots σ σ'->Q σ' H):gT W g v σ H Q:=by
 cases g with
 |nm i=>
   cases e;obtain⟨os1,r1,n1,s1⟩:=I8 hp hR hn (hi i mS);exact q _ os1 r1 n1 s1 (AQ.set mS)
 |tup is=>
   unfold Dp at e;cases p with
   |tup ps=>
     dsimp only at e;split at e
     .rename_i hl;cases e;obtain⟨a,vs,rfl,s1,r1⟩:=AH.mp hp;exact⟨a,vs,rfl,s1,by rw[r1.length,<-hl],QR r1 hl hR hn hi q⟩
     .cases e
   |_=>cases e
variable{H:Hp}
theorem E3.length:∀{cs:List C} {vs:List V},E3 W H cs vs->vs.length=cs.length
 |[],vs,h=>by rw[show vs=[]from h];rfl
 |c::cs,vs,⟨v,r,e,_,h⟩=>by rw[e,lC,lC,E3.length h]
theorem Dh{h:Hd}{hs:List Hd}{c:C}{cs:List C}(g:A9 (h::hs) (c::cs)=true):(c.cp=true\/∀i f,h≠.fld i f)/\A9 hs cs=true:=by
 unfold A9 at g ⊢;rw[zip_cons_cons,all_cons,bA]at g;refine⟨?_,g.2⟩
 by_cases hc:c.cp=true
 .exact .inl hc
 .refine .inr λi f e=>?_
  subst e;have:=g.1;simp[hc]at this
theorem IW{σ σ':St}{H':Hp}{os os':List Addr}(hR':Aa W H' ρ' σ' os')(k:B0 H H')(hb:IE b H H'):∀{hs:List Hd} {cs:List C} {vs:List V} {o:List Addr},Bn W σ H ρ hs vs o->Am ρ hs=some cs->Aa W H ρ σ os->A9 hs cs=true->
 (∀q∈guards hs cs,A8 ρ' q.1=some q.2/\σ'[q.1]? =σ[q.1]?)->(∀a∈o,a∉b)->E3 W H' cs vs
 |[],cs,vs,o,h,e,_,_,_,_=>by cases e;exact h.1
 | h ::hs,cs,vs,o,⟨v,r,o1,o2,e1,h1,h2,e2⟩,e,hR,hg,hgs,hd=>by
   unfold Am at e;obtain⟨c,ec,e⟩:=oB e;obtain⟨ds,ed,rfl⟩:=oM e;subst e2;obtain⟨hgh,hg'⟩:=Dh hg
   have hgs':∀q∈guards hs ds,A8 ρ' q.1=some q.2/\σ'[q.1]? =σ[q.1]? :=λq hq=>hgs q (by
    unfold guards at hq ⊢;rw[zip_cons_cons];rw[filterMap_cons];split
    .exact hq
    .exact mC hq)
   refine⟨v,r,e1,?_,IW hR' k hb h2 ed hR hg' hgs' λa ha=>hd a (mR ha)⟩;have hrd:=EA hR h1 ec
   by_cases hc:c.cp=true
   .cases c with
    |obj _ _=>cases hc
    |b x=>
      cases x with
      |lst _=>cases hc
      |AB _=>cases hc
      |p x=>exact Al.mono k hrd
      |ro x=>
        obtain⟨a,vs',ea,hs',hr⟩:=hrd;exact⟨a,vs',ea,hs'.mono k,hr.mono k⟩
   .have hc:c.cp=false:=by simpa using hc
    cases h with
    |Bt d=>
      cases ec;exact(Bk.frame h1 k hb λa ha=>hd a (mL ha)).rd
    |slot i=>
      have hm:(i,c)∈guards (.slot i::hs) (c::ds):=by
       unfold guards;rw[zip_cons_cons,filterMap_cons];simp[hc]
      obtain⟨g1,g2⟩:=hgs (i,c) hm;obtain⟨u,o',q1,q2,_⟩:=hR'.get g1;have q1:σ'[i]? =some (some u):=q1;have g2:σ'[i]? =σ[i]? :=g2;rw[g2,h1.1]at q1;cases q1;exact q2.rd
    |fld i f=>exact absurd rfl (hgh.resolve_left (by rw[hc];exact Bool.false_ne_true) i f)
end Iv
namespace Iv
open PySem L2
variable{W:Wd}{xp:Nat->Hp->Prop}{as:List Nat}{D:Ends}{σ:St}{H:Hp}{os:List Addr}
theorem Bn.own :∀{hs:List Hd} {vs:List V} {o:List Addr},Bn W σ H ρ hs vs o->∀a∈o,∃z,H a=some z
 |[],_,_,h=>by rw[h.2];intro a ha;cases ha
 | h::hs,_,_,⟨v,r,o1,o2,_,h1,h2,e⟩=>by
   rw[e];intro a ha;rcases mem_append.mp ha with z|z
   .exact h1.own a z
   .exact Bn.own h2 a z
theorem N3{H:Hp}{o os os':List Addr}(n:(o++os).Nodup)(n':os'.Nodup)(own:∀a∈o,∃z,H a=some z)(src:∀a∈os',a∈os\/H a=none):(o++os').Nodup:=by
 have n1:=nA n;rw[nodup_append];refine⟨n1.1,n',λa ha b hb e=>?_⟩;subst e;rcases src a hb with z|z
 .exact n1.2.2 a ha a z rfl
 .obtain⟨x,ex⟩:=own a ha;rw[z]at ex;cases ex
theorem Ik{gs:List (Nat×C)}(h:holds gs ρ=true):∀q∈gs,A8 ρ q.1=some q.2:=λq hq=>by
 unfold holds at h;exact of_decide_eq_true (all_eq_true.mp h q hq)
variable{F:Env->Res (List Hd)}
theorem Zn{k:IK}{g:Tg}{bs:List Nat}{B:Env->Res Fl}(hi:∀i∈g.slots,i < σ.length)(h:tS W xp (g.slots++bs) (λρ=>(F ρ).bind (Dy k g bs B)) D σ H):Zh (NM W k F) (gT W g) (tS W xp bs B) D σ H:=by
 obtain⟨ρ,os,hR,hn,hA⟩:=h
 try dsimp only at hA
 refine⟨ρ,os,hR,hn,after hR hA λhs ρ1 vs H1 o1 os1 h1 h2 h3 h4 h5=>?_⟩;unfold Dy at h5;cases ec:Am ρ1 hs with
 |none=>rw[ec]at h5;exact h5.elim
 |some cs =>
   rw[ec]at h5;dsimp only at h5;cases ex:Ae k cs with
   |none=>rw[ex]at h5;exact h5.elim
   |some xs =>
     rw[ex]at h5;dsimp only at h5;refine⟨cs,xs,DE h2 h1 ec,ex,λJ hJ=>?_⟩;split at h5
     case isFalse=>exact h5.elim
     rename_i hgd;rw[bA]at hgd
     have hgs:∀q∈guards hs cs,q.1∉g.slots++bs:=λq hq z=>by
      have:=all_eq_true.mp hgd.2 q hq;simp only[Bool.not_eq_true',List.contains_eq_mem,decide_eq_false_iff_not]at this;exact this z
     have own1:=Bn.own h1
     refine⟨λi m σ' H'=>m=xs.length - i/\i<=xs.length/\∃ρ' os',Aa W H' ρ' σ' os'/\(o1++os').Nodup/\Ba H1 H' os1 os'/\AQ (g.slots++bs) σ σ'/\Cd W xp (g.slots++bs) D σ' H' (o1++os') (forL g (guards hs cs) B (xs.drop i) ρ'),
      ⟨xs.length,rfl,Nat.zero_le _,ρ1,os1,h2,h3,Ba.refl _ _,AQ.refl _ _,h5⟩,?_⟩
     rintro i m σ' H' ⟨rfl,hix,ρ',os',hR',hn',hF',hU',hA'⟩
     have k1:B0 H1 H':=hF'.but.keep h2.own;have rd:holds (guards hs cs) ρ'=true->E3 W H' cs vs:=λhh=>IW hR' k1 hF'.but h1 ec h2 hgd.1 (λq hq=>⟨Ik hh q hq,hU'.2 q.1 (hgs q hq)⟩) λa ha z=>(nA h3).2.2 a ha a z rfl
     have nd':=(nA hn').2.1
     by_cases hlt:i < xs.length
     .rw [List.drop_eq_getElem_cons hlt]at hA';unfold forL at hA';split at hA'
      case isFalse=>exact hA'.elim
      rename_i hh;have hrd:=rd hh
      refine .inr ⟨hJ.go i H' hrd hlt,λσ2 H2=>∃ρ' os',Aa W H2 ρ' σ2 os'/\(o1++os').Nodup/\Ba H1 H2 os1 os'/\AQ (g.slots++bs) σ σ2/\Cd W xp (g.slots++bs) D σ2 H2 (o1++os') (forL g (guards hs cs) B (xs.drop (i + 1)) ρ'),
       λσ2 H2 z=>⟨xs.length-(i+1),by lia,rfl,hlt,z⟩,λx H'' hy=>?_⟩
      obtain⟨s2,p,ep,rp⟩:=hJ.Mz i H' x H'' hrd hlt hy;have ep:xs[i]=p:=by rw[List.getElem?_eq_getElem hlt]at ep;exact Option.some.inj ep
      rw[ep]at hA';cases es:Dp g p ρ' with
      |none=>rw[es]at hA';exact hA'.elim
      |some ρ2=>
        rw[es]at hA'
        have hA':Cd W xp (g.slots++bs) D σ' H' (o1++os') ((B ρ2).bind λf ρ=>match f with
         |.nx=>forL g (guards hs cs) B (xs.drop (i+1)) ρ
         |.cnt=>forL g (guards hs cs) B (xs.drop (i+1)) ρ
         |.er c=>.ok (.er c) ρ
         |.ret r=>.ok (.ret r) ρ):=hA'
        refine VU es rp (hR'.same s2) nd' (λj hj=>by rw[hU'.1];exact hi j hj) λσ2 os2 g1 g2 g3 g4=>?_
        refine⟨ρ2,os2,g1,g2,?_⟩;have m1:∀i∈g.slots,i∈g.slots++bs:=λi hi=>mL hi
        have m2:∀i∈bs,i∈g.slots++bs:=λi hi=>mR hi
        have fr2:Ba H' H'' (o1++os') (o1++os2):=.of s2 λa ha=>by
         rcases mem_append.mp ha with z|z
         .exact .inl (mL z)
         .exact .inl (mR (g3 a z))
        have hA2:=hA'.later fr2 (g4.mono m1)
        have own2:∀a∈o1,∃z,H'' a=some z:=λa ha=>by
         obtain⟨z,ez⟩:=own1 a ha;obtain⟨z',ez'⟩:=hF'.there a z ez;exact⟨z',s2 a z' ez'⟩
        have n2:(o1++os2).Nodup:=N3 hn' g2 (λa ha=>by
         obtain⟨z,ez⟩:=own1 a ha
         exact hF'.there a z ez) λa ha=>.inl (g3 a ha)
        have go:∀σ3 H3 os3 ρ3,Aa W H3 ρ3 σ3 os3->os3.Nodup->Ba H'' H3 os2 os3->AQ bs σ2 σ3->Cd W xp (g.slots++bs) D σ2 H'' (o1++os2) (forL g (guards hs cs) B (xs.drop (i + 1)) ρ3)->
         ∃ρ' os',Aa W H3 ρ' σ3 os'/\(o1++os').Nodup/\Ba H1 H3 os1 os'/\AQ (g.slots++bs) σ σ3/\Cd W xp (g.slots++bs) D σ3 H3 (o1++os') (forL g (guards hs cs) B (xs.drop (i+1)) ρ'):=λσ3 H3 os3 ρ3 r1 r2 r3 r4 r6=>by
         refine⟨ρ3,os3,r1,N3 n2 r2 own2 r3.src,?_,(hU'.trans (g4.mono m1)).trans (r4.mono m2),r6.later (r3.more o1) (r4.mono m2)⟩;have f1:Ba H' H'' os' os2:=.of s2 λa ha=>.inl (g3 a ha)
         exact(hF'.trans f1).trans r3
        cases eB:B ρ2 with
        |stuck=>rw[eB]at hA2;exact hA2
        |ok f ρ3=>
          rw[eB,Res.A5]at hA2;cases f with
          |nx=>exact λσ3 H3 os3 r1 r2 r3 r4=>go σ3 H3 os3 ρ3 r1 r2 r3 r4 hA2
          |cnt=>exact λσ3 H3 os3 r1 r2 r3 r4=>go σ3 H3 os3 ρ3 r1 r2 r3 r4 hA2
          |er c=>exact λσ3 H3 os3 r1 r2 r3 r4=>hA2 σ3 H3 os3 r1 r2 (r3.weak λa ha=>mR ha) (r4.mono m2)
          |ret c=>exact λv σ3 H3 o3 os3 r0 r1 r2 r3 r4=>hA2 v σ3 H3 o3 os3 r0 r1 r2 (r3.weak λa ha=>mR ha) (r4.mono m2)
     .have e:i=xs.length:=by lia
      subst e;rw[List.drop_length]at hA';unfold forL at hA';split at hA'
      case isFalse=>exact hA'.elim
      rename_i hh;exact .inl ⟨hJ.stop H' (rd hh),hA' σ' H' os' hR' nd' ((Ba.refl _ _).sub λa ha=>mR ha) (AQ.refl _ _)⟩
noncomputable def NS(W:Wd)(r:List C->CR):Sp:=λvs H Q E=>∃cs os,Aa W H (cs.map some) (vs.map some) os/\os.Nodup/\match r cs with
 |.stuck=>False
 |.err c outs=>∀H' oos,Aa W H' outs (vs.map some) oos->oos.Nodup->Ba H H' os oos->E (.ref (W.DG c)) none H'
 |.ok c outs=>∀v H' o oos,Bk W H' c v o->Aa W H' outs (vs.map some) oos->(o++oos).Nodup->Ba H H' os (o++oos)->Q v H'
theorem Bx(h:Hd)(hs:List Hd)(c:C)(cs:List C):BY (h::hs) (c::cs)=(if c.cp then[]else match h with| .slot i=>[i]| .fld i _=>[i]| .Bt _=>[])++BY hs cs:=by
 unfold BY;rw[zip_cons_cons,filterMap_cons]
 by_cases hc:c.cp=true
 .simp[hc]
 .cases h<;>simp[hc]
theorem Uy{h:Hd}{c:C}(hR:Aa W H ρ σ os)(hh:ER W σ H ρ h v o)(e:h.cont ρ=some c)(hc:c.cp=true):Bk W H c v []:=by
 have hrd:=EA hR hh e;cases c with
 |obj _ _=>cases hc
 |b x=>
   cases x with
   |lst _=>cases hc
   |AB _=>cases hc
   |p x=>exact⟨hrd,rfl⟩
   |ro x=>exact⟨hrd,rfl⟩
theorem Fu{l:List Nat}{i:Nat}(h:i∉l):∀{ρ:Env},A8 (l.foldl (λr i=>r.set i none) ρ) i=A8 ρ i:=by
 induction l with
 |nil=>intro ρ;rfl
 |cons j l ih=>
   intro ρ;rw[foldl_cons,ih (λz=>h (mC z))];unfold A8;rw[List.getElem?_set_ne];exact λz=>h (z▸mS)
theorem Gx{os0:List Addr}(hR0:Aa W H ρ0 σ os0):∀{hs:List Hd} {cs:List C} {vs:List V} {o:List Addr} {ρ:Env} {os:List Addr},Bn W σ H ρ0 hs vs o->Am ρ0 hs=some cs->A9 hs cs=true->(BY hs cs).Nodup->
 (∀j∈BY hs cs,A8 ρ j=A8 ρ0 j)->Aa W H ρ σ os->∃oa or_,Aa W H (cs.map some) (vs.map some) oa/\Aa W H ((BY hs cs).foldl (λr i=>r.set i none) ρ) σ or_/\(oa++or_).Perm (o++os)
 | [],cs,vs,o,ρ,os,h,e,_,_,_,hR=>by
   cases e;obtain⟨rfl,rfl⟩:=h;exact⟨[],os,⟨rfl,rfl⟩,hR,.refl _⟩
 | h ::hs,cs,vs,o,ρ,os,⟨v,r,o1,o2,e1,h1,h2,e2⟩,e,g,n,hcur,hR=>by
   unfold Am at e;obtain⟨c,ec,e⟩:=oB e;obtain⟨ds,ed,rfl⟩:=oM e;subst e1 e2;obtain⟨g1,g2⟩:=Dh g;rw[Bx]at n hcur ⊢;have n2:(BY hs ds).Nodup:=(nA n).2.1;have hcur2:∀j∈BY hs ds,A8 ρ j=A8 ρ0 j:=λj hj=>hcur j (mR hj)
   by_cases hc:c.cp=true
   .have rc:=Uy hR0 h1 ec hc;obtain⟨oa,or_,q1,q2,q3⟩:=Gx hR0 h2 ed g2 n2 hcur2 hR
    have ho1:o1=[]:=by
     cases h with
     |Bt d=>cases ec;exact Bk.cp h1 hc
     |slot i=>exact h1.2
     |fld i f=>exact h1.1
    subst ho1;rw[iP hc];exact⟨oa,or_,⟨v,r.map some,[],oa,rfl,rc,q1,rfl⟩,q2,q3⟩
   .have hcf:c.cp=false:=by simpa using hc
    rw[iN hc]at n hcur ⊢;cases h with
    |fld i f=>exact absurd rfl (g1.resolve_left hc i f)
    |Bt d=>
      cases ec;obtain⟨oa,or_,q1,q2,q3⟩:=Gx hR0 h2 ed g2 n2 hcur2 hR;refine⟨o1++oa,or_,⟨v,r.map some,o1,oa,rfl,h1,q1,rfl⟩,q2,?_⟩;rw[append_assoc,append_assoc];exact q3.append_left o1
    |slot i=>
      have ec:A8 ρ0 i=some c:=ec;have hi:A8 ρ i=some c:=(hcur i (mL mS)).trans ec;obtain⟨u,oi,osr,t1,t2,t3,t4⟩:=hR.take hi;rw[h1.1]at t1;cases t1;have hni:i∉BY hs ds:=λz=>(nA n).2.2 i mS i z rfl
      obtain⟨oa,or_,q1,q2,q3⟩:=Gx hR0 h2 ed g2 n2 (λj hj=>by
       rw[<-hcur2 j hj];unfold A8;rw[List.getElem?_set_ne]
       exact λz=>hni (z▸hj)) t3
      have ho1:o1=[]:=h1.2;subst ho1;refine⟨oi++oa,or_,⟨v,r.map some,oi,oa,rfl,t2,q1,rfl⟩,q2,?_⟩;rw[append_assoc];refine(q3.append_left oi).trans ?_;refine List.Perm.trans ?_ (t4.append_left ([]++o2));rw[nil_append,<-append_assoc,<-append_assoc];exact perm_append_comm.append_right osr
theorem GD :∀{hs:List Hd} {cs:List C} {vs:List V} {outs:List (Option C)} {o0:List Addr} {H0:Hp} {ρ ρ':Env} {os oos:List Addr},Bn W σ H0 ρ0 hs vs o0->back ρ hs cs outs=some ρ'->Aa W H outs (vs.map some) oos->Aa W H ρ σ os->(oos++os).Nodup->
 (BY hs cs).Nodup->(∀j∈BY hs cs,A8 ρ j=none/\j < ρ.length)->∃os',Aa W H ρ' σ os'/\os'.Nodup/\∀a∈os',a∈oos++os
 | [],cs,vs,outs,o0,H0,ρ,ρ',os,oos,h,e,ro,hR,n,_,_=>by
   cases cs with
   |nil=>
     unfold back at e;cases e;exact⟨os,hR,(nA n).2.1,λa ha=>mR ha⟩
   |cons c cs=>unfold back at e;cases e
 | h ::hs,cs,vs,outs,o0,H0,ρ,ρ',os,oos,⟨v,r,o1,o2,e1,h1,h2,e2⟩,e,ro,hR,n,nl,hem=>by
   subst e1;cases cs with
   |nil=>cases h<;>(unfold back at e;cases e)
   |cons c cs =>
     cases outs with
     |nil=>cases h<;>(unfold back at e;cases e)
     |cons out outs=>
       rw[Bx]at nl hem;have nl2:=(nA nl).2.1;have hem2:∀j∈BY hs cs,A8 ρ j=none/\j < ρ.length:=λj hj=>hem j (mR hj)
       obtain⟨of_,or_,hof,hrest,hoos⟩:∃of_ or_,(∀c',out=some c'->Bk W H c' v of_)/\Aa W H outs (r.map some) or_/\oos=of_++or_:=by
        cases out with
        |none=>
          obtain⟨x,r',z1,z2⟩:=ro;cases z1;exact⟨[],oos,(λ_ z=>by cases z),z2,rfl⟩
        |some c'=>
          obtain⟨v',r',o1',o2',z1,z2,z3,z4⟩:=ro;cases z1;exact⟨o1',o2',(λ_ z=>by cases z;exact z2),z3,z4⟩
       subst hoos
       have nr:(or_++os).Nodup:=by
        rw[append_assoc]at n;exact(nA n).2.1
       have skip:back ρ hs cs outs=some ρ'->∃os',Aa W H ρ' σ os'/\os'.Nodup/\∀a∈os',a∈(of_++or_)++os:=λe=>by
        obtain⟨os',q1,q2,q3⟩:=GD h2 e hrest hR nr nl2 hem2;refine⟨os',q1,q2,λa ha=>?_⟩;rcases mem_append.mp (q3 a ha)with z|z
        .exact mL (mR z)
        .exact mR z
       by_cases hc:c.cp=true
       .cases h with
        |Bt d=>exact skip e
        |slot i=>unfold back at e;rw[iP hc]at e;exact skip e
        |fld i f=>unfold back at e;rw[iP hc]at e;exact skip e
       .cases h with
        |Bt d=>exact skip e
        |fld i f=>unfold back at e;rw[iN hc]at e;cases e
        |slot i=>
          unfold back at e;rw[iN hc]at e nl hem;have hi:=hem i (mL mS);have hni:i∉BY hs cs:=λz=>(nA nl).2.2 i mS i z rfl
          have hem3:∀(x:Option C),∀j∈BY hs cs,A8 (ρ.set i x) j=none/\j < (ρ.set i x).length:=λx j hj=>by
           refine⟨?_,by rw[length_set];exact(hem2 j hj).2⟩;have ne:i≠j:=λz=>hni (by rw[z];exact hj)
           have:=(hem2 j hj).1;unfold A8 at this ⊢;rw[List.getElem?_set_ne ne];exact this
          cases out with
          |none=>
            obtain⟨os1,t1,od,t2⟩:=hR.drop i
            obtain⟨os',q1,q2,q3⟩:=GD h2 e hrest t1 (by
             have:=nr;rw[nodup_append]at this ⊢;have p2:=(nA (t2.nodup_iff.mpr this.2.1)).2.1
             exact⟨this.1,p2,λa ha b hb=>this.2.2 a ha b (t2.subset (mR hb))⟩) nl2 (hem3 none)
            refine⟨os',q1,q2,λa ha=>?_⟩;rcases mem_append.mp (q3 a ha)with z|z
            .exact mL (mR z)
            .exact mR (t2.subset (mR z))
          |some c'=>
            obtain⟨os1,t1,t2⟩:=Aa.fill (hof c' rfl) hR hi.1 hi.2;rw[set_same h1.1]at t1
            have p1:(or_++os1).Perm ((of_++or_)++os):=by
             refine(t2.append_left or_).trans ?_;rw[<-append_assoc];exact perm_append_comm.append_right os
            obtain⟨os',q1,q2,q3⟩:=GD h2 e hrest t1 (p1.nodup_iff.mpr n) nl2 (hem3 (some c'));exact⟨os',q1,q2,λa ha=>p1.subset (q3 a ha)⟩
theorem EJ{l:List Nat}:∀{ρ:Env},(l.foldl (λr i=>r.set i none) ρ).length=ρ.length:=by
 induction l with
 |nil=>intro ρ;rfl
 |cons j l ih=>intro ρ;rw[foldl_cons,ih,length_set]
theorem Ee{l:List Nat}{i:Nat}(h:i∈l):∀{ρ:Env},A8 (l.foldl (λr i=>r.set i none) ρ) i=none:=by
 induction l with
 |nil=>cases h
 |cons j l ih=>
   intro ρ;rw[foldl_cons]
   by_cases hi:i∈l
   .exact ih hi
   .have:i=j:=(mK h).resolve_right hi;subst this;rw[Fu hi];unfold A8;rw[List.getElem?_set_self'];cases ρ[i]?<;>rfl
theorem N6{ρ:Env}:∀{hs:List Hd} {cs:List C},Am ρ hs=some cs->A9 hs cs=true->∀j∈BY hs cs,j < ρ.length
 |[],cs,e,_,j,hj=>by cases e;cases hj
 | h ::hs,cs,e,g,j,hj=>by
   unfold Am at e;obtain⟨c,ec,e⟩:=oB e;obtain⟨ds,ed,rfl⟩:=oM e;obtain⟨g1,g2⟩:=Dh g;rw[Bx]at hj;rcases mem_append.mp hj with z|z
   .by_cases hc:c.cp=true
    .rw[iP hc]at z;cases z
    .rw[iN hc]at z;cases h with
     |Bt d=>cases z
     |fld i f=>exact absurd rfl (g1.resolve_left hc i f)
     |slot i=>
       rw[mE z];exact D9 ec
   .exact N6 ed g2 j z
variable{hs:List Hd}{cs:List C}{vs:List V}{os1:List Addr}{outs:List (Option C)}{ρ2:Env}
theorem Il(h1:Bn W σ H ρ1 hs vs o1)(h2:Aa W H ρ1 σ os1)(h3:(o1++os1).Nodup)(ec:Am ρ1 hs=some cs)(hg:(BY hs cs).Nodup/\A9 hs cs=true)
 (eb:back (lend ρ1 hs cs) hs cs outs=some ρ2):∃oa,Aa W H (cs.map some) (vs.map some) oa/\oa.Nodup/\∀H' o oos,Aa W H' outs (vs.map some) oos->(o++oos).Nodup->Ba H H' oa (o++oos)->
  ∃os',Aa W H' ρ2 σ os'/\(o++os').Nodup/\Ba H H' (o1++os1) (o++os'):=by
 obtain⟨oa,or_,q1,q2,q3⟩:=Gx h2 h1 ec hg.2 hg.1 (λ_ _=>rfl) h2;have q2:Aa W H (lend ρ1 hs cs) σ or_:=q2;have na:=q3.nodup_iff.mpr h3;have na':=nA na;refine⟨oa,q1,na'.1,?_⟩;intro H' o oos r2 r3 r4;have k1:B0 H H':=r4.but.keep q1.own;have q2':Aa W H' (lend ρ1 hs cs) σ or_:=q2.frame k1 r4.but λa ha z=>na'.2.2 a z a ha rfl
 have r3':=nA r3
 have ndo:∀a∈o++oos,a∉or_:=λa ha z=>by
  rcases r4.src a ha with y|y
  .exact na'.2.2 a y a z rfl
  .obtain⟨x,ex,_⟩:=q2.own a z;rw[y]at ex;cases ex
 obtain⟨os',t1,t2,t3⟩:=GD (ρ0:=ρ1) h1 eb r2 q2' (by
  rw[nodup_append]
  exact⟨r3'.2.1,na'.2.1,λa ha b hb z=>ndo a (mR ha) (z▸hb)⟩) hg.1 λj hj=>⟨Ee hj,by
   show j < ((BY hs cs).foldl _ ρ1).length;rw[EJ]
   exact N6 ec hg.2 j hj⟩
 refine⟨os',t1,?_,?_⟩
 .rw[nodup_append];refine⟨r3'.1,t2,λa ha b hb z=>?_⟩;subst z;rcases mem_append.mp (t3 a hb)with y|y
  .exact r3'.2.2 a ha a y rfl
  .exact ndo a (mL ha) y
 .have f1:=(r4.more or_).perm (perm_append_comm.trans q3) (.refl _);refine f1.sub λa ha=>?_
  rcases mem_append.mp ha with z|z
  .exact mR (mL z)
  .rcases mem_append.mp (t3 a z)with y|y
   .exact mR (mR y)
   .exact mL y
theorem Ng{r:List C->CR}{Q:VK}{E:XK}(h1:Bn W σ H ρ1 hs vs o1)(h2:Aa W H ρ1 σ os1)(h3:(o1++os1).Nodup)(ec:Am ρ1 hs=some cs)(hg:(BY hs cs).Nodup/\A9 hs cs=true)
 (er:r cs= .ok c outs)(eb:back (lend ρ1 hs cs) hs cs outs=some ρ2)(hA:Cs W (rV W σ) H (o1++os1) σ (.ok c ρ2) Q):NS W r vs H Q E:=by
 obtain⟨oa,q1,q2,q3⟩:=Il h1 h2 h3 ec hg eb;refine⟨cs,oa,q1,q2,?_⟩;rw[er];intro v H' o oos r1 r2 r3 r4;obtain⟨os',t1,t2,t3⟩:=q3 H' o oos r2 r3 r4;have hA:∀v H' o os',rV W σ H' ρ2 c v o->Aa W H' ρ2 σ os'->(o++os').Nodup->Ba H H' (o1++os1) (o++os')->Q v H':=hA;exact hA v H' o os' r1 t1 t2 t3
theorem QP{r:List C->CR}{Q:VK}{E:XK}(h1:Bn W σ H ρ1 hs vs o1)(h2:Aa W H ρ1 σ os1)(h3:(o1++os1).Nodup)(ec:Am ρ1 hs=some cs)(hg:(BY hs cs).Nodup/\A9 hs cs=true)
 {c:Nat}(er:r cs= .err c outs)(eb:back (lend ρ1 hs cs) hs cs outs=some ρ2)(hA:∀H' os',Aa W H' ρ2 σ os'->os'.Nodup->Ba H H' (o1++os1) os'->E (.ref (W.DG c)) none H'):NS W r vs H Q E:=by
 obtain⟨oa,q1,q2,q3⟩:=Il h1 h2 h3 ec hg eb;refine⟨cs,oa,q1,q2,?_⟩;rw[er];intro H' oos r2 r3 r4;obtain⟨os',t1,t2,t3⟩:=q3 H' [] oos r2 r3 r4;exact hA H' os' t1 t2 t3
theorem Nz{cf:CF}{f:Nat}{Q:VK}{E:XK}(h:tG W (rV W) (λρ=>(F ρ).bind λhs ρ=>AY cf f hs ρ) σ H Q):tG W (Bn W) F σ H λvs H1=>NS W (cf f) vs H1 Q E:=by
 obtain⟨ρ,os,hR,hn,hA⟩:=h;dsimp only at hA;refine⟨ρ,os,hR,hn,?_⟩;unfold Cs;cases eF:F ρ with
 |stuck=>rw[eF]at hA;exact hA
 |ok hs ρ1=>
   rw[eF,Res.A5]at hA;intro vs H1 o1 os1 h1 h2 h3 h4;have hA:=Cs.shift hA h4;unfold AY at hA;cases ec:Am ρ1 hs with
   |none=>rw[ec]at hA;exact hA.elim
   |some cs=>
     rw[ec]at hA;dsimp only at hA;split at hA
     case isFalse=>exact hA.elim
     rename_i hg;cases ecf:cf f cs with
     |stuck=>rw[ecf]at hA;exact hA.elim
     |err c outs=>rw[ecf]at hA;exact hA.elim
     |ok c outs=>
       rw[ecf]at hA;cases eb:back (lend ρ1 hs cs) hs cs outs with
       |none=>dsimp only at hA;rw[eb]at hA;exact hA.elim
       |some ρ2=>
         dsimp only at hA;rw[eb]at hA;exact Ng h1 h2 h3 ec hg ecf eb hA
theorem BZ.addr(h:BZ W H b (.ref a) o)(nb:C.cp (.b b)=false):o=[a]:=by
 cases b with
 |p x=>cases nb
 |ro x=>cases nb
 |lst ps=>obtain⟨a',vs,e,_,_,rfl⟩:=h;cases e;rfl
 |AB kvs=>obtain⟨a',e,_,rfl⟩:=h;cases e;rfl
theorem Df{a:Addr}{l:List Addr}(h:a∈l):IE l H (upd H a x):=λb y e n=>by
 have ne:b≠a:=λz=>n (by rw[z];exact h)
 rw[An ne];exact e
theorem Bv.upd(k:B0 H (upd H a x'))(hb':BZ W (upd H a x') b' (.ref a) [a]):∀{fs:List (Str×B)} {vs:List (Str×V)} {o:List Addr} {b:B},Bv W H fs vs o->o.Nodup->fs.lookup f=some b->C.cp (.b b)=false->vs.lookup f=some (.ref a)->Bv W (L2.upd H a x') (Bg f b' fs) vs o
 |[],_,_,_,_,_,e,_,_=>by simp at e
 | (g, c)::fs,_,_,b,⟨v,r,o1,o2,e1,h1,h2,e⟩,n,el,nb,ev=>by
   subst e1 e;rw[lookup_cons]at el ev;have n':=nA n;unfold Bg;cases hg:f == g with
   |true=>
     rw[hg]at el ev;cases el;cases ev;have:g=f:=(eq_of_beq hg).symm;subst this;rw[iP rfl];have ho:=h1.addr nb;subst ho;exact⟨_,r,[a],o2,rfl,hb',h2.frame k (Df (l:=[a]) mS) (λb hb z=>n'.2.2 a mS b hb (mE z).symm),rfl⟩
   |false=>
     rw[hg]at el ev;dsimp only at el ev;rw[iN (λz=>by rw[z]at hg;simp at hg)]
     have ha:a∈o2:=by
      obtain⟨u,o',q1,q2,q3⟩:=h2.look el;rw[ev]at q1;cases q1;have:=q2.addr nb;subst this;exact q3 a mS
     exact⟨v,r,o1,o2,rfl,h1.frame k (Df (l:=[a]) mS) (λb hb z=>n'.2.2 b hb a ha (mE z)),Bv.upd k hb' h2 n'.2.1 el nb ev,rfl⟩
theorem HR{ρ':Env}{h:Hd}(hR:Aa W H ρ σ os)(hn:os.Nodup)(hc:h.cont ρ=some (.b b))(hh:ER W σ H ρ h (.ref a) o)(nb:C.cp (.b b)=false)
 (hb':BZ W (upd H a x') b' (.ref a) [a])(k:B0 H (upd H a x'))(es:setB ρ h b'=some ρ'):∃os',Aa W (upd H a x') ρ' σ os'/\os'.Perm os/\Ba H (upd H a x') os os':=by
 have fin:a∈os->∀os',os'.Perm os->Ba H (upd H a x') os os':=λha os' p=>⟨Df ha,λc hc=>.inl (p.subset hc),λc y e=>by
  by_cases hca:c=a
  .subst hca;exact⟨_,Ay⟩
  .exact⟨y,by rw[An hca];exact e⟩⟩
 cases h with
 |Bt c=>cases es
 |slot i=>
   cases es;have hc:A8 ρ i=some (.b b):=hc;obtain⟨v,oi,osr,t1,t2,t3,t4⟩:=hR.take hc;rw[hh.1]at t1;cases t1;have hoi:oi=[a]:=BZ.addr t2 nb;subst hoi;have nd:=nA (t4.nodup_iff.mpr hn);have t3':=t3.frame k (Df (x:=x') (l:=[a]) mS) λc hc z=>nd.2.2 a mS c hc (mE z).symm
   obtain⟨os2,u1,u2⟩:=Aa.fill (c:=.b b') (v:=.ref a) (o:=[a]) hb' t3' (BS (D9 hc)) (by rw[length_set];exact D9 hc);rw[set_set,set_same hh.1]at u1;have p:=u2.trans t4;exact⟨os2,u1,p,fin (t4.subset (mL mS)) os2 p⟩
 |fld i f=>
   obtain⟨_,a0,C0,dx,fs0,e1,e2,e3⟩:=hh;have hc:Bz ρ i f=some (.b b):=hc;unfold Bz at hc;unfold setB at es;dsimp only at es;cases hg:A8 ρ i with
   |none=>rw[hg]at hc;cases hc
   |some d=>
     rw[hg]at hc es;cases d with
     |b y=>cases hc
     |obj kk fs=>
       have hl:fs.lookup f=some b:=by
        obtain⟨z,ez,e⟩:=oM hc;cases e;exact ez
       cases es;obtain⟨v,oi,osr,t1,t2,t3,t4⟩:=hR.take hg;rw[e1]at t1;cases t1;obtain⟨a',dx',vs,osf,z,q1,q2,q3,q4⟩:=t2;cases z;rw[e2]at q1;cases q1;subst q3;have nd:=nA (t4.nodup_iff.mpr hn);have nf:=nodup_cons.mp nd.1
       have haf:a∈osf:=by
        obtain⟨u,o',y1,y2,y3⟩:=q2.look hl;rw[e3]at y1;cases y1;have:=y2.addr nb;subst this;exact y3 a mS
       have ne:a0≠a:=λz=>nf.1 (z▸haf)
       have q2':=q2.upd k hb' nf.2 hl nb e3;have t3':=t3.frame k (Df (x:=x') (l:=[a]) mS) λc hc z=>nd.2.2 a (mC haf) c hc (mE z).symm
       obtain⟨os2,u1,u2⟩:=Aa.fill (c:=.obj kk (Bg f b' fs)) (v:=.ref a0) (o:=a0::osf) ⟨a0,dx,fs0,osf,rfl,by rw[An ne];exact e2,q2',rfl,q4.put (q4.2 _ (PySem.mem_of_lookup hl))⟩ t3' (BS (D9 hg)) (by rw[length_set];exact D9 hg);rw[set_set,set_same e1]at u1;have p:=u2.trans t4;exact⟨os2,u1,p,fin (t4.subset (mL (mC haf))) os2 p⟩
theorem Hg(h:H a=some (.lst vs)):B0 H (upd H a x'):=λb=>by
 by_cases hb:b=a
 .subst hb;refine⟨λxs z=>?_,λo u z=>?_⟩
  .rw[h]at z;cases z
  .rw[h]at z;cases z
 .rw[An hb];exact⟨λ_ z=>z,λ_ _ z=>z⟩
def La(W:Wd)(m:MO)(r:V->List V->Hp->VK->Prop):Prop:=∀(H:Hp) (a:Addr) (b b':B) (cs:List C) (c:C) (vs:List V) (Q:VK),BZ W H b (.ref a) [a]->C.cp (.b b)=false->E3 W H cs vs->Cu m b cs=some (c,b')->
 (∀v x',BZ W (upd H a x') b' (.ref a) [a]->B0 H (upd H a x')->Bk W (upd H a x') c v []->Q v (upd H a x'))->r (.ref a) vs H Q
theorem T1(h:E3 W H [] vs):vs=[]:=h
theorem C7{c:C}(h:E3 W H [c] vs):∃v,vs=[v]/\Em W H c v:=by
 obtain⟨v,r,rfl,r1,r2⟩:=h;have r2:r=[]:=r2;subst r2;exact⟨v,rfl,r1⟩
theorem Ja{m:MO}{r:V->List V->Hp->VK->Prop}(h:∀(H:Hp) (a:Addr) (ps:List P) (xs:List V) (b':B) (cs:List C) (c:C) (vs:List V) (Q:VK),H a=some (.lst xs)->A7 W H ps xs->E3 W H cs vs->Cu m (.lst ps) cs=some (c,b')->
 (∀v x',BZ W (upd H a x') b' (.ref a) [a]->B0 H (upd H a x')->Bk W (upd H a x') c v []->Q v (upd H a x'))->r (.ref a) vs H Q):La W m r:=by
 intro H a b b' cs c vs Q hb nb hv e q;cases b with
 |p _=>cases nb
 |ro _=>cases nb
 |AB _=>exact absurd e (by unfold Cu;exact nofun)
 |lst ps=>
   obtain⟨a',xs,ea,h1,h2,_⟩:=hb;cases ea;exact h H a ps xs b' cs c vs Q h1 h2 hv e q
theorem LN:La W .append MM:=Ja λH a ps xs b' cs c vs Q h1 h2 hv e q=>by
 have e:BJ ps cs=some (c,b'):=e;unfold BJ at e;split at e
 .rename_i x;split at e
  .rename_i hl;cases e;obtain⟨v,rfl,r1⟩:=C7 hv;have k:=Hg (x':=.lst (xs++[v])) h1;refine⟨a,xs,v,rfl,rfl,h1,by rw[h2.length];exact Nat.lt_of_lt_of_le hl BP,?_⟩;exact q .AI (.lst (xs++[v])) ⟨a,xs++[v],rfl,Ay,A7.append (.cons (Al.mono k r1) .nil) (h2.mono k),rfl⟩ k ⟨B5.mpr rfl,rfl⟩
  .cases e
 .cases e
theorem TJ:La W .pop Zr:=Ja λH a ps xs b' cs c vs Q h1 h2 hv e q=>by
 have e:Je ps cs=some (c,b'):=e;unfold Je at e;split at e
 .have hv:=T1 hv;subst hv;obtain⟨x,ex,e⟩:=oM e;cases e;have k:=Hg (x':=.lst xs.dropLast) h1;rw[List.getLast?_eq_getElem?]at ex;obtain⟨v,ev,rv⟩:=h2.get ex;refine⟨a,xs,v,rfl,rfl,h1,by rw[h2.length];exact ev,?_⟩
  have hd:A7 W H ps.dropLast xs.dropLast:=by
   rw[List.dropLast_eq_take,List.dropLast_eq_take,h2.length];exact h2.take _
  exact q v (.lst xs.dropLast) ⟨a,xs.dropLast,rfl,Ay,hd.mono k,rfl⟩ k ⟨rv.mono k,rfl⟩
 .cases e
end Iv
namespace Iv
open PySem L2 PyProof.Rows
section
variable{Pg:Program}{W:Wd}{H:Hp}
theorem Wz(p:P){A:Around}{s:Shared}(hp:Al W H p v)(hq:Al W H q y)(r:RelV v u)(r':RelV y z)(Af:Ce Pg W.w H s.heap)(B3:W.K.In s.heap)(hc:Co p q=true)(hu:A.units + p.depth + 1 < cLine):
 SeqAt.RcNeAt A s u z (!decide (p=q)):=by
 cases p with
 |AI=>
   cases B5.mp hp;cases r;cases q with
   |AI=>cases B5.mp hq;cases r';rw[decide_eq_true rfl];exact SeqAt.RcNeAt.none_none
   |_=>cases (hc:false=true)
 |bl i=>cases (hc:false=true)
 |int i=>
   cases Ai.mp hp;obtain⟨t,rfl⟩:=r;cases q with
   |int b=>
     cases Ai.mp hq;obtain⟨t',rfl⟩:=r';rw[Ez (λ_ _=>P.int.inj),GC];exact SeqAt.RcNeAt.int_int _ _ _ _
   |tup qs=>
     obtain⟨b,ws,rfl,s2,r2⟩:=AH.mp hq;cases r';obtain⟨its,v1,p1⟩:=Bw Af B3 s2;rw[dF nofun];exact SeqAt.RcNeAt.int_tuple _ _ p1 (by lia)
   |_=>cases (hc:false=true)
 |str i=>
   cases AD.mp hp;obtain⟨t,rfl⟩:=r;cases q with
   |str b=>
     cases AD.mp hq;obtain⟨t',rfl⟩:=r';rw[Ez (λ_ _=>P.str.inj),GC];exact SeqAt.RcNeAt.str_str _ _ _ _
   |_=>cases (hc:false=true)
 |tup ps=>
   obtain⟨a,vs,rfl,s1,r1⟩:=AH.mp hp;cases r;obtain⟨its,v1,p1⟩:=Bw Af B3 s1;cases q with
   |int b=>cases Ai.mp hq;obtain⟨t',rfl⟩:=r';rw[dF nofun];exact SeqAt.RcNeAt.tuple_int _ _ p1 (by lia)
   |tup qs=>
     obtain⟨b,ws,rfl,s2,r2⟩:=AH.mp hq;cases r';have hdp:(P.tup ps).depth=P.Ao ps+1:=rfl;obtain⟨its',v2,p2⟩:=Bw Af B3 s2;have hu1:A.in1.units=A.units+1:=in1_units;obtain⟨e,he,hd⟩:=Jt ps (A:=A.in1) (s:=s) r1 r2 v1 v2 Af B3 hc (by lia);have rc:=SeqAt.RcNeAt.tuples (A:=A) (s:=s) (e:=e) p1 p2 (by lia) λj h1 h2=>he j _ _ (by simp at h1 ⊢) (by simp at h2 ⊢)
     rw[size_toArray,size_toArray,hd]at rc;rw[Ez (λ_ _=>P.tup.inj)];exact rc
   |_=>cases (hc:false=true)
end
variable{X:Cx}{W:Wd}
theorem BM{c:C}(h:F3 o a b=some c):∃x,AA o a b=some x/\c= .p (.bl x):=by
 obtain⟨x,h1,h2⟩:=oM h;exact⟨x,h1,h2.symm⟩
variable{H:Hp}
theorem F4.bl{b:Bool}{Q:VK}(q:F4 W H (.p (.bl b)) Q):Q (.bl b) H:=q.plain (Cq.mpr rfl)
theorem R6{a b:P}{x:Bool}(h:Gz a b=some x):Co a b=true/\a.depth<=60/\b.depth<=60/\x=decide (a=b):=by
 unfold Gz at h;split at h
 .rename_i hc;rw[bA,bA]at hc;exact⟨hc.1.1,of_decide_eq_true hc.1.2,of_decide_eq_true hc.2,(Option.some.inj h).symm⟩
 .cases h
theorem Ou{x:Bool}(h:R5 a b=some x):De a b=true/\P.Ao a<=60/\P.Ao b<=60/\x=decide (a=b):=by
 unfold R5 at h;split at h
 .rename_i hc;rw[bA,bA]at hc;exact⟨hc.1.1,of_decide_eq_true hc.1.2,of_decide_eq_true hc.2,(Option.some.inj h).symm⟩
 .cases h
variable{xs:List V}{pins:List (Addr×Obj)}{s:Shared}
theorem Qr{ps qs:List P}{ys:List V}{σ:L2.St}(hK:W.K=X.K)(hw:W.w=X.w)(hu:X.A.units + 200 < cLine)(I:Inv X pins σ H s)(ha:Dk W.K H a xs)(hb:Dk W.K H b ys)(h1:A7 W H ps xs)(h2:A7 W H qs ys)
 (hc:De ps qs=true)(hd:P.Ao ps<=60):SeqAt.RcAt X.A s (.ref a) (.ref b) (decide (ps=qs))/\SeqAt.RcNeAt X.A s (.ref a) (.ref b) (!decide (ps=qs)):=by
 rw[hK]at ha hb;obtain⟨its1,r1,p1,z1⟩:=I.list ha;obtain⟨its2,r2,p2,z2⟩:=I.list hb;have l1:=r1.length;have l2:=r2.length;have hu1:X.A.in1.units=X.A.units+1:=in1_units;obtain⟨e,he,hd⟩:=Jt (Pg:=X.prog) ps (A:=X.A.in1) (s:=s) h1 h2 r1 r2 (hw▸I.Af) (hK▸I.DQ) hc (by lia)
 by_cases hl:its1.length=its2.length
 .have e1:((List.range its1.toArray.size).all e)=decide (ps=qs):=by
   rw[<-hd,size_toArray,<-hl];simp
  have hj:∀j (h1:j < its1.toArray.size) (h2:j < its2.toArray.size),SeqAt.EqAt X.A.in1 s its1.toArray[j] its2.toArray[j] (e j):=λj h1 h2=>he j _ _ (by simp at h1 ⊢) (by simp at h2 ⊢)
  have q1:=SeqAt.RcAt.lists (e:=e) p1.isList p2.isList (by rw[size_toArray,size_toArray];exact hl) (by lia) hj;have q2:=SeqAt.RcNeAt.lists (e:=e) p1.isList p2.isList (by rw[size_toArray,size_toArray];exact hl) (by lia) hj;rw[e1]at q1 q2;exact⟨q1,q2⟩
 .have e1:decide (ps=qs)=false:=by
   rw[<-hd];simp[hl]
  rw[e1]
  have hne:(its1.toArray.size != its2.toArray.size)=true:=by
   rw[size_toArray,size_toArray];simpa using hl
  exact⟨SeqAt.RcAt.lists_lengths p1.isList p2.isList hne (by lia),SeqAt.RcNeAt.lists_lengths p1.isList p2.isList hne (by lia)⟩
theorem KD{w:World}{p:Program}:∀{kvs:List (P×P)} {es:List DictEntry},Paired (ES W H) kvs es->(∀q∈kvs,Dg q.1=true)->
 ∃vs:List (Int×Value),Pairs (intKind p w) es vs/\(∀e∈es,∃k,(intKind p w).is k e.key=true/\e.hash=(intKind p w).hash k)/\Paired (λ(q:P×P) (x:Int×Value)=>q.1= .int x.1/\∃v,RelV v x.2/\Al W H q.2 v) kvs vs
 |_,_,.nil,_=>⟨[],.nil,λ_ h=>(by cases h),.nil⟩
 | (k,v)::kvs,e::es,.cons h r,hk=>by
   obtain⟨vs,q1,q2,q3⟩:=KD r λq hq=>hk q (mC hq)
   obtain⟨h1,⟨y,r1,r2⟩,y2,r3,r4⟩:=h;have hi:=hk _ mS;cases k with
   |int i=>
     cases Ai.mp r2;obtain⟨t,et⟩:=r1;have ei:(intKind p w).is i e.key=true:=by rw[et];show Value.isInt i (.int i t)=true;unfold Value.isInt;simp
     refine⟨(i,e.val)::vs,.cons ei rfl q1,λe' he=>?_,.cons ⟨rfl,y2,r3,r4⟩ q3⟩;rcases mK he with rfl|he
     .exact⟨i,ei,by rw[h1];unfold CS;rfl⟩
     .exact q2 e' he
   |_=>cases hi
theorem XO{σ:L2.St}{kvs:List (P×P)}(I:Inv X pins σ H s)(hd:CY W H a kvs)(hk:∀q∈kvs,Dg q.1=true)(p:Program)(w:World):
 ∃vs:List (Int×Value),s.heap.DictOf (intKind p w) a vs/\Paired (λ(q:P×P) (x:Int×Value)=>q.1= .int x.1/\∃v,RelV v x.2/\Al W H q.2 v) kvs vs:=by
 obtain⟨es,hH,hp⟩:=hd.ex;obtain⟨⟨o,h1,h2,h3⟩,_⟩:=(show BN X.prog X.w H s.heap a (DX a es)from I.Af a _ hH);obtain⟨vs,q1,q2,q3⟩:=KD (p:=p) (w:=w) hp hk;refine⟨vs,⟨o,es.toArray,es.length,h1,h2,h3,λe he=>q2 e (by simpa using he),by simpa using q1,?_⟩,q3⟩
 have:∀{kvs:List (P×P)} {vs:List (Int×Value)},Paired (λ(q:P×P) (x:Int×Value)=>q.1= .int x.1/\∃v,RelV v x.2/\Al W H q.2 v) kvs vs->kvs.map (·.1)=(vs.map (·.1)).map P.int:=by
  intro kvs vs h
  induction h with
  |nil=>rfl
  |cons h _ ih=>rw[map_cons,map_cons,map_cons,ih,h.1]
 have nd:=hd.nd;rw[this q3]at nd;exact List.Pairwise.of_map _ (λa b h z=>h (by rw[z])) nd
variable{A:Around}
theorem R8{Pg:Program}{vs2:List (Int×Value)}(Af:Ce Pg W.w H s.heap)(B3:W.K.In s.heap)(hu:A.units + 70 < cLine)(nd:(vs2.map (·.1)).Nodup):∀{kvs:List (P×P)} {w1 w2:List (Int×Value)},KL kvs=true->
 Paired (λ(q:P×P) (x:Int×Value)=>q.1= .int x.1/\∃v,RelV v x.2/\Al W H q.2 v) kvs w1->Paired (λ(q:P×P) (x:Int×Value)=>q.1= .int x.1/\∃v,RelV v x.2/\Al W H q.2 v) kvs w2->(∀p∈w2,p∈vs2)->KeqHits A s vs2 w1 true:=by
 intro kvs
 induction kvs with
 |nil=>intro w1 w2 _ r1 _ _;cases r1;exact .nil
 |cons k ks ih=>
   intro w1 w2 ho r1 r2 hs;have ho:((Dg k.1 && Co k.2 k.2 && decide (k.2.depth<=60)) && KL ks)=true:=ho;rw[bA,bA,bA]at ho;cases r1 with
   |@cons _ p1 _ w1' a1 b1=>
     cases r2 with
     |@cons _ p2 _ w2' a2 b2=>
       obtain⟨k1,y1⟩:=p1;obtain⟨k2,y2⟩:=p2;obtain⟨e1,v1,g1,g2⟩:=a1;obtain⟨e2,v2,g3,g4⟩:=a2;dsimp only at e1 e2 g1 g3;have ek:k1=k2:=by rw[e1]at e2;injection e2
       have hv:valueAt vs2 k1=some y2:=by
        obtain⟨i,hi,e⟩:=mem_iff_getElem.mp (hs _ mS);rw[ek];exact valueAt_of_get nd (i:=i) (by rw[List.getElem?_eq_getElem hi,e])
       have q:=Mb (Pg:=Pg) k.2 (A:=A) (s:=s) g2 g4 g1 g3 Af B3 ho.1.1.2 (by have:=of_decide_eq_true ho.1.2;lia);rw[decide_eq_true rfl]at q;have:=KeqHits.hit (A:=A) (s:=s) hv q (ih ho.2 b1 b2 λp hp'=>hs p (mC hp'));simpa using this
theorem Qc(hK:W.K=X.K)(hw:W.w=X.w)(hu:X.A.units + 200 < cLine):Dl X (compareOp .Eq) (CZ W (F3 .eq))/\Dl X (compareOp .NotEq) (CZ W (F3 .ne)):=by
 have key:∀{pins s σ H x y v u} {c1 c2:C} {t:Bool} {Q:VK},Inv X pins σ H s->RelV x v->RelV y u->Em W H c1 x->Em W H c2 y->EK c1 c2=some t->SeqAt.RcAt X.A s v u t/\SeqAt.RcNeAt X.A s v u (!t):=by
  intro pins s σ H x y v u c1 c2 t Q I rx ry h1 h2 e;unfold EK at e;split at e
  .rename_i a b;obtain⟨e1,e2,e3,rfl⟩:=R6 e;exact⟨Lw (Pg:=X.prog) a (OL h1) (OL h2) rx ry (hw▸I.Af) (hK▸I.DQ) e1 (by lia),Wz (Pg:=X.prog) a (OL h1) (OL h2) rx ry (hw▸I.Af) (hK▸I.DQ) e1 (by lia)⟩
  .rename_i a b;obtain⟨e1,e2,e3,rfl⟩:=Ou e;obtain⟨a1,xs,rfl,k1,k2⟩:=h1;obtain⟨b1,ys,rfl,k3,k4⟩:=h2;cases rx;cases ry;exact Qr hK hw hu I (Dk.of k1) (Dk.of k3) k2 k4 e1 e2
  .rename_i kvs kvs2;split at e
   case isFalse=>cases e
   rename_i hc;cases e;obtain⟨rfl,hc⟩:=hc;obtain⟨a,rfl,d1⟩:=h1;obtain⟨b,rfl,d2⟩:=h2;cases rx;cases ry
   have hi:∀q∈kvs,Dg q.1=true:=λq hq=>by
    have:=all_eq_true.mp hc q hq;rw[bA,bA]at this;exact this.1.1
   have hu1:X.A.in1.units=X.A.units+1:=in1_units
   have key:∀(p:Program) (w:World),∃(v1 v2:List (Int×Value)),s.heap.DictOf (intKind p w) a v1/\s.heap.DictOf (intKind p w) b v2/\v1.length=v2.length/\KeqHits X.A.in1 s v2 v1 true:=λp w=>by
    obtain⟨v1,p1,p2⟩:=XO I d1 hi p w;obtain⟨v2,p3,p4⟩:=XO I d2 hi p w;have nd:(v2.map (·.1)).Nodup:=let⟨_,_,_,_,_,_,_,_,hn⟩:=p3;hn;have l1:=p2.length;have l2:=p4.length;exact⟨v1,v2,p1,p3,by lia,R8 (Pg:=X.prog) (hw▸I.Af) (hK▸I.DQ) (by lia) nd hc p2 p4 λ_ h=>h⟩
   constructor
   .intro p w Q E h;obtain⟨v1,v2,p1,p3,hl,hh⟩:=key p w;exact keq_eq (r:=true) d1.sm d2.sm p1 p3 (by lia) (λ_=>hh) (by rw[hl];simpa using h)
   .intro p w Q E h;obtain⟨v1,v2,p1,p3,hl,hh⟩:=key p w;exact keq_ne (r:=true) d1.sm d2.sm p1 p3 (by lia) (λ_=>hh) (by rw[hl];simpa using h)
  .cases e
 constructor
 .rintro pins s σ H x y v u Q I rx ry ⟨c1,c2,c,h1,h2,e,q⟩
  obtain⟨t,et,rfl⟩:=BM e;have et:EK c1 c2=some t:=et;exact(key (Q:=Q) I rx ry h1 h2 et).1 X.prog X.w _ _ ⟨.bl t,H,I,rfl,q.bl⟩
 .rintro pins s σ H x y v u Q I rx ry ⟨c1,c2,c,h1,h2,e,q⟩
  obtain⟨t,et,rfl⟩:=BM e;obtain⟨t',et',rfl⟩:=oM (show(EK c1 c2).map (!·)=some t from et);exact(key (Q:=Q) I rx ry h1 h2 et').2 X.prog X.w _ _ ⟨.bl (!t'),H,I,rfl,q.bl⟩
theorem cL:Dl X (compareOp .Lt) (CZ W (F3 .lt)):=by
 rintro pins s σ H x y v u Q I rx ry ⟨c1,c2,c,h1,h2,e,q⟩
 obtain⟨t,et,rfl⟩:=BM e;unfold AA at et;dsimp only at et;split at et
 .rename_i a b;unfold JL at et;split at et
  .rename_i i j;cases et;cases AS h1;cases AS h2;exact ZQ pins s σ H _ _ v u Q I rx ry ⟨i,j,rfl,rfl,q.bl⟩
  .cases et
 .cases et
theorem cN:Dl X (compareOp .Gt) (CZ W (F3 .gt)):=by
 rintro pins s σ H x y v u Q I rx ry ⟨c1,c2,c,h1,h2,e,q⟩
 obtain⟨t,et,rfl⟩:=BM e;unfold AA at et;dsimp only at et;split at et
 .rename_i a b;unfold JL at et;split at et
  .rename_i i j;cases et;cases AS h1;cases AS h2;exact ZR pins s σ H _ _ v u Q I rx ry ⟨_,_,rfl,rfl,q.bl⟩
  .cases et
 .cases et
theorem cO:Dl X (compareOp .GtE) (CZ W (F3 .ge)):=by
 rintro pins s σ H x y v u Q I rx ry ⟨c1,c2,c,h1,h2,e,q⟩
 obtain⟨t,et,rfl⟩:=BM e;unfold AA at et;dsimp only at et;split at et
 .cases et;cases AS h1;cases AS h2;exact ZU pins s σ H _ _ v u Q I rx ry ⟨_,_,rfl,rfl,q.bl⟩
 .cases et
theorem Lu(h:Em W H c x):decide (c= .p .AI)=decide (x= .AI):=by
 by_cases hx:x= .AI
 .subst hx
  have:c= .p .AI:=by
   cases c with
   |obj _ _=>obtain⟨_,_,_,z,_⟩:=h;cases z
   |b b=>
     cases b with
     |lst _=>obtain⟨_,_,z,_⟩:=h;cases z
     |ro _=>obtain⟨_,_,z,_⟩:=h;cases z
     |AB _=>obtain⟨_,z,_⟩:=h;cases z
     |p p=>
       cases p with
       |AI=>rfl
       |bl _=>cases Pr h
       |int _=>cases AS h
       |str _=>cases EV h
       |tup _=>obtain⟨_,_,z,_⟩:=Cg h;cases z
  rw[this];simp
 .have:c≠.p .AI:=λz=>by subst z;exact hx (Lv h)
  simp[hx,this]
theorem cM:Dl X (compareOp .Is) (CZ W (F3 .is)):=by
 rintro pins s σ H x y v u Q I rx ry ⟨c1,c2,c,h1,h2,e,q⟩
 obtain⟨t,et,rfl⟩:=BM e;unfold AA at et;dsimp only at et;split at et
 .cases et;cases Lv h2;refine X7 pins s σ H _ _ v u Q I rx ry ⟨rfl,?_⟩;have:=q.bl;rw[Lu h1]at this;exact this
 .cases et
def isAt(W:Wd)(H:Hp)(p:P)(y:Value):Bool:=@decide (∃v,RelV v y/\Al W H p v) (Classical.propDecidable _)
variable{h:Heap}
theorem Nc{Pg:Program}(Af:Ce Pg W.w H h)(B3:W.K.In h)(hq:Al W H q v)(r:RelV v y)(hc:Co q p=true):isAt W H p y=decide (q=p):=by
 by_cases e:q=p
 .subst e;rw[decide_eq_true rfl];exact @decide_eq_true _ (Classical.propDecidable _) ⟨v,r,hq⟩
 .rw[dF e];refine @dF _ (Classical.propDecidable _) ?_
  rintro⟨v',r',hp⟩
  have:=r.inj r';subst this;exact e (Al.det Af B3 hq hp hc)
theorem L9{Pg:Program}(Af:Ce Pg W.w H h)(B3:W.K.In h):∀{ps:List P} {vs:List V} {us:List Value},A7 W H ps vs->Vals vs us->(∀q∈ps,Co q p=true)->us.any (isAt W H p)=ps.contains p
 | [],vs,us,hp,r,_=>by
   unfold A7 at hp;subst hp;cases r;rfl
 | q ::ps,vs,us,hp,r,hc=>by
   cases vs with
   |nil=>unfold A7 at hp;obtain⟨_,_,e,_⟩:=hp;cases e
   |cons v vs=>
     cases r with
     |cons r1 r2=>
       rw[any_cons,L9 Af B3 hp.AF.2 r2 (λz hz=>hc z (mC hz)),Nc Af B3 hp.AF.1 r1 (hc q mS),contains_cons]
       congr 1
       by_cases e:q=p
       .subst e;simp
       .simp[e,Ne.symm e]
theorem Kl{Pg:Program}(hx:Al W H p x)(rx:RelV x u)(Af:Ce Pg W.w H s.heap)(B3:W.K.In s.heap)(hu:A.units + 62 < cLine):∀{ps:List P} {vs:List V} {us:List Value},A7 W H ps vs->Vals vs us->(∀q∈ps,Co q p=true/\q.depth<=60)->∀y∈us,SeqAt.EqAt A s y u (isAt W H p y)
 | [],vs,us,hp,r,_,y,hy=>by
   unfold A7 at hp;subst hp;cases r;cases hy
 | q ::ps,vs,us,hp,r,hc,y,hy=>by
   cases vs with
   |nil=>unfold A7 at hp;obtain⟨_,_,e,_⟩:=hp;cases e
   |cons v vs=>
     cases r with
     |cons r1 r2=>
       rcases mK hy with e|hy
       .subst e;have h1:=hc q mS;rw[Nc Af B3 hp.AF.1 r1 h1.1];exact Mb q hp.AF.1 hx r1 rx Af B3 h1.1 (by lia)
       .exact Kl hx rx Af B3 hu hp.AF.2 r2 (λz hz=>hc z (mC hz)) y hy
theorem af(hK:W.K=X.K)(hw:W.w=X.w)(hu:X.A.units + 200 < cLine):Dl X (compareOp .In) (CZ W (F3 .M0))/\Dl X (compareOp .NotIn) (CZ W (F3 .ai)):=by
 have key:∀{pins s σ H x y v u} {p:P} {c2:C} {t:Bool} {Q:VK} {neg:Bool},Inv X pins σ H s->RelV x v->RelV y u->Al W H p x->Em W H c2 y->memC p c2=some t->Q (.bl (if neg then !t else t)) H->wpAny (model X.prog X.w) X.A (compareOp (if neg then .NotIn else .In) v u) (EP X pins σ Q) X.xe s:=by
  intro pins s σ H x y v u p c2 t Q neg I rx ry h1 h2 e q;have Af:Ce X.prog W.w H s.heap:=hw▸I.Af;have B3:W.K.In s.heap:=hK▸I.DQ;cases c2 with
  |obj _ _=>cases e
  |b b =>
    cases b with
    |lst ps=>
      obtain⟨a,xs,rfl,k1,hr⟩:=h2;have e:(if ps.all (λq=>Co q p && decide (q.depth<=60))=true then some (ps.contains p)else none)=some t:=e;split at e
      case isFalse=>cases e
      rename_i hc
      have hc1:∀q∈ps,Co q p=true/\q.depth<=60:=λq hq=>by
       have:=all_eq_true.mp hc q hq;rw[bA]at this;exact⟨this.1,of_decide_eq_true this.2⟩
      have e:ps.contains p=t:=Option.some.inj e;cases ry;obtain⟨its,r,pl,hz⟩:=I.list (hK▸(Dk.of k1:Dk W.K H a xs))
      have any:its.toArray.any (isAt W H p)=t:=by
       rw[show its.toArray.any (isAt W H p)=its.any (isAt W H p)by simp,L9 Af B3 hr r λq hq=>(hc1 q hq).1,e]
      have hm:∀y,y∈its.toArray->SeqAt.EqAt X.A.in1 s y v (isAt W H p y):=λy hy=>Kl h1 rx Af B3 (by have:X.A.in1.units=X.A.units+1:=in1_units;lia) hr r hc1 y (by simpa using hy)
      cases neg with
      |false=>exact SeqAt.in_listAt (isAt W H p) pl.isList hm ⟨.bl _,H,I,rfl,by rw[any];exact q⟩
      |true=>exact SeqAt.notIn_listAt (isAt W H p) pl.isList hm ⟨.bl _,H,I,rfl,by rw[any];exact q⟩
    |AB kvs=>
      obtain⟨a,ey,hd⟩:=h2;subst ey;cases ry;have e:(if keyOk p=true then some (Ac kvs p).isSome else none)=some t:=e;split at e
      case isFalse=>cases e
      rename_i hk;cases e;cases neg with
      |false=>
        show wpAny _ _ (contains (.ref a) v >>= _) _ _ s;exact wB (Gf hK hw hu I hd hk h1 rx λs3 I3=>wP ⟨.bl (Ac kvs p).isSome,H,I3,rfl,q⟩)
      |true=>
        show wpAny _ _ (contains (.ref a) v >>= _) _ _ s;exact wB (Gf hK hw hu I hd hk h1 rx λs3 I3=>wP ⟨.bl (!(Ac kvs p).isSome),H,I3,rfl,q⟩)
    |_=>cases e
 constructor
 .rintro pins s σ H x y v u Q I rx ry ⟨c1,c2,c,h1,h2,e,q⟩
  obtain⟨t,et,rfl⟩:=BM e;unfold AA at et;dsimp only at et;split at et
  .exact key (neg:=false) I rx ry (OL h1) h2 et q.bl
  .cases et
 .rintro pins s σ H x y v u Q I rx ry ⟨c1,c2,c,h1,h2,e,q⟩
  obtain⟨t,et,rfl⟩:=BM e;unfold AA at et;dsimp only at et;split at et
  .obtain⟨t',et',rfl⟩:=oM et;exact key (neg:=true) I rx ry (OL h1) h2 et' q.bl
  .cases et
theorem D5{g:C->Option C}{Q:VK}(h:AZ W (HG g) xs H Q):∃x c r,xs=[x]/\Em W H c x/\g c=some r/\F4 W H r Q:=by
 obtain⟨cs,r,h1,h2,h3⟩:=h;unfold HG at h2;split at h2
 .obtain⟨x,rfl,hx⟩:=C7 h1;exact⟨x,_,r,rfl,hx,h2,h3⟩
 .cases h2
theorem T2{g:C->C->Option C}{Q:VK}(h:AZ W (Ld g) xs H Q):∃x y a b r,xs=[x,y]/\Em W H a x/\Em W H b y/\g a b=some r/\F4 W H r Q:=by
 obtain⟨cs,r,h1,h2,h3⟩:=h;unfold Ld at h2;split at h2
 .obtain⟨x,t,rfl,hx,ht⟩:=h1;obtain⟨y,rfl,hy⟩:=C7 ht;exact⟨x,y,_,_,r,rfl,hx,hy,h2,h3⟩
 .cases h2
theorem C8{c:C}{ps:List P}(h:Em W H c x)(e:c.nf= .lst ps):∃a vs,x= .ref a/\Dk W.K H a vs/\A7 W H ps vs:=by
 cases c with
 |obj _ _=>cases e
 |b b=>
   cases b with
   |p _=>cases e
   |AB _=>cases e
   |lst _=>cases e;obtain⟨a,vs,e1,e2,e3⟩:=h;exact⟨a,vs,e1,Dk.of e2,e3⟩
   |ro _=>cases e;obtain⟨a,vs,e1,e2,e3⟩:=h;exact⟨a,vs,e1,e2.sq,e3⟩
theorem LK{c:C}(e:c.nf= .p p):c= .p p:=by
 cases c with
 |obj _ _=>cases e
 |b b=>cases b<;>cases e<;>rfl
theorem LL{c:C}{kvs:List (P×P)}(e:c.nf= .AB kvs):c= .AB kvs:=by
 cases c with
 |obj _ _=>cases e
 |b b=>cases b<;>cases e<;>rfl
theorem K1{ps:List P}(h:Em W H c x)(e:DW c=some ps):∃a vs,x= .ref a/\(Dk W.K H a vs\/El W.K H a vs)/\A7 W H ps vs:=by
 unfold DW at e;split at e
 .rename_i hc;cases e;obtain⟨a,vs,e1,e2,e3⟩:=C8 h hc;exact⟨a,vs,e1,.inl e2,e3⟩
 .rename_i hc;cases e;rw[LK hc]at h;obtain⟨a,vs,e1,e2,e3⟩:=Cg h;exact⟨a,vs,e1,.inr e2,e3⟩
 .cases e
theorem XB(hK:W.K=X.K)(hw:W.w=X.w)(hu:X.A.units + 200 < cLine):S3 X (CZ W λc i=>match c with| .AB kvs=>BB (.AB kvs) i|_=>none):=by
 rintro value slice pins s σ H x y v u Q I rx ry ⟨c1,c2,c,h1,h2,e,q⟩ hs
 dsimp only at e;split at e
 .rename_i kvs;unfold BB at e;dsimp only[C.nf]at e;cases c2 with
  |obj _ _=>cases e
  |b b =>
    cases b with
    |lst _=>cases e
    |AB _=>cases e
    |ro _=>cases e
    |p k=>
      dsimp only at e;split at e
      case isFalse=>cases e
      rename_i hk;obtain⟨p,hp,rfl⟩:=oM e;obtain⟨a,rfl,hd⟩:=h1;cases rx;have ty:=CG hw I.Af hd;unfold subscriptTail;refine wB ?_;rw[getitemInPython_of_ne ty.not_modules];refine wB (wpAny_specialOf ty PySem.F.slot_dict_getitem.lookup ?_)
      have fin:wpAny (model X.prog X.w) X.A (subscripted slice false (.ref a) u) (λr s₃=>wpAny (model X.prog X.w) X.A (letTemporaryGo value (.ref a) r >>= λ_=>pure r) (EP X pins σ Q) X.xe s₃) X.xe s:=by
       rw[hs];refine wpAny_operating (Mh hK hw hu I hd hk (OL h2) hp ry λw' y' s3 I3 rw' hy'=>?_);exact wB (wpAny_letTemporaryGo (wP ⟨y',H,I3,rw',q.plain hy'⟩))
      exact wP (wB fin)
 .cases e
theorem GA(n d:Nat)(o:Option Int):Mi n d o=HT.BU n d o:=rfl
variable{vs:List V}
theorem Nt{ps:List P}(h:A7 W H ps vs)(lo hi:Option Int):A7 W H (cut ps lo hi) (KP vs lo hi):=by
 unfold cut KP;rw[GA,GA,h.length];exact(h.drop _).take _
def cq(W:Wd):V->Option Int->Option Int->Hp->VK->Prop:=λx lo hi H Q=>∃c r,Em W H c x/\E4 c lo hi=some r/\F4 W H r Q
theorem VH(hK:W.K=X.K):YW X (cq W):=by
 intro pins s σ H x v vl vu lo hi sl Q I rx hs pl pu h;obtain⟨c,r,h1,e,q⟩:=h;unfold E4 at e;split at e
 .rename_i ps hc;cases e;obtain⟨a,vs,rfl,k1,k2⟩:=C8 h1 hc;exact SM pins s σ H _ v vl vu lo hi sl Q I rx hs pl pu ⟨a,vs,rfl,hK▸k1,q.list (Nt k2 lo hi)⟩
 .rename_i ps hc;cases e;rw[LK hc]at h1;obtain⟨a,vs,rfl,k1,k2⟩:=Cg h1
  by_cases hw:HT.BU vs.length 0 lo=0/\HT.BU vs.length vs.length hi=vs.length
  .refine SK pins s σ H _ v vl vu lo hi sl Q I rx hs pl pu ⟨a,vs,rfl,hK▸k1,hw,?_⟩
   have e:cut ps lo hi=ps:=by
    unfold cut;rw[GA,GA,<-k2.length,hw.1,hw.2];simp[k2.length]
   rw[e]at q;exact q.plain (AH.mpr ⟨a,vs,rfl,k1,k2⟩)
  .exact Ws pins s σ H _ v vl vu lo hi sl Q I rx hs pl pu ⟨a,vs,rfl,hK▸k1,hw,q.tup (Nt k2 lo hi)⟩
 .rename_i z hc;rw[LK hc]at h1;cases EV h1;obtain⟨y,ey,rfl⟩:=oM e;have hlen:z.cps.toList.length=z.length:=by show z.cps.toList.length=z.cps.size;simp
  unfold IM at ey;split at ey
  .rename_i j;split at ey
   case isFalse=>cases ey
   rename_i hj;cases ey;refine Pf pins s σ H _ v vl vu none (some j) sl Q I rx hs pl pu ⟨z,rfl,Nat.le_trans hj.2.2 BP,?_⟩;rw[Kd.Pe hj.1 hj.2.1];exact q.plain (AD.mpr rfl)
  .rename_i i;split at ey
   case isFalse=>cases ey
   rename_i hj;cases ey;refine Pf pins s σ H _ v vl vu (some i) none sl Q I rx hs pl pu ⟨z,rfl,Nat.le_trans hj.2.2 BP,?_⟩;rw[Kd.Lp hj.1 hj.2.1]
   have e:(z.cps.toList.drop i.toNat).take ((z.length:Int) - i).toNat=z.cps.toList.drop i.toNat:=by
    rw[List.take_of_length_le];rw[length_drop,hlen]
    lia
   rw[e];exact q.plain (AD.mpr rfl)
  .cases ey
 .cases e
theorem b4(hK:W.K=X.K):AW X (.builtin "len") (AZ W (HG FO)):=by
 intro pins s σ H xs us Q I r h;obtain⟨x,c,r',rfl,h1,e,q⟩:=D5 h;unfold FO at e;split at e
 .rename_i ps hc;cases e;obtain⟨a,vs,rfl,k1,k2⟩:=C8 h1 hc;refine HC pins s σ H _ us Q I r ⟨_,_,rfl,.inl ⟨vs,hK▸k1,rfl⟩,?_⟩;rw[k2.length];exact q.plain (Ai.mpr rfl)
 .rename_i ps hc;cases e;rw[LK hc]at h1;obtain⟨a,vs,rfl,k1,k2⟩:=Cg h1;refine HC pins s σ H _ us Q I r ⟨_,_,rfl,.inr ⟨vs,hK▸k1,rfl⟩,?_⟩;rw[k2.length];exact q.plain (Ai.mpr rfl)
 .rename_i z hc;split at e
  case isFalse=>cases e
  rename_i hl;cases e;rw[LK hc]at h1;cases EV h1;exact HC pins s σ H _ us Q I r ⟨_,_,rfl,⟨Nat.le_trans hl BP,rfl⟩,q.plain (Ai.mpr rfl)⟩
 .cases e
theorem Rk(hK:W.K=X.K):AW X (.type "list") (AZ W (HG λc=>(DW c).map .lst)):=by
 intro pins s σ H xs us Q I r h;obtain⟨x,c,r',rfl,h1,e,q⟩:=D5 h;obtain⟨ps,ep,rfl⟩:=oM e;obtain⟨a,vs,rfl,k1,k2⟩:=K1 h1 ep;exact JC pins s σ H _ us Q I r ⟨a,vs,rfl,hK▸k1,q.list k2⟩
theorem UI(hK:W.K=X.K):AW X (.type "tuple") (AZ W (HG λc=>(DW c).map λx=>.p (.tup x))):=by
 intro pins s σ H xs us Q I r h;obtain⟨x,c,r',rfl,h1,e,q⟩:=D5 h;obtain⟨ps,ep,rfl⟩:=oM e;obtain⟨a,vs,rfl,k1,k2⟩:=K1 h1 ep;rcases k1 with k1|k1
 .exact EN pins s σ H _ us Q I r ⟨a,vs,rfl,.inl ⟨hK▸k1,q.tup k2⟩⟩
 .exact EN pins s σ H _ us Q I r ⟨a,vs,rfl,.inr ⟨hK▸k1,q.plain (AH.mpr ⟨a,vs,rfl,k1,k2⟩)⟩⟩
theorem ints_rep:∀{ps:List P} {vs:List V} {ns:List Int},A7 W H ps vs->Fs ps=some ns->vs=ns.map V.int
 |[],vs,ns,h,e=>by unfold A7 at h;cases e;exact h
 | .int i::ps,vs,ns,h,e=>by
   unfold Fs at e;obtain⟨ms,em,rfl⟩:=oM e;unfold A7 at h;obtain⟨v,r,rfl,h1,h2⟩:=h;cases Ai.mp h1;rw[ints_rep h2 em];rfl
 |.AI::_,_,_,_,e=>by cases e
 |.bl _::_,_,_,_,e=>by cases e
 |.str _::_,_,_,_,e=>by cases e
 |.tup _::_,_,_,_,e=>by cases e
theorem Ir:∀{ps:List P} {vs:List V} {ns:List Bool},A7 W H ps vs->G3 ps=some ns->vs=ns.map V.bl
 |[],vs,ns,h,e=>by unfold A7 at h;cases e;exact h
 | .bl i::ps,vs,ns,h,e=>by
   unfold G3 at e;obtain⟨ms,em,rfl⟩:=oM e;unfold A7 at h;obtain⟨v,r,rfl,h1,h2⟩:=h;cases Cq.mp h1;rw[Ir h2 em];rfl
 |.AI::_,_,_,_,e=>by cases e
 |.int _::_,_,_,_,e=>by cases e
 |.str _::_,_,_,_,e=>by cases e
 |.tup _::_,_,_,_,e=>by cases e
theorem aW(hK:W.K=X.K)(hc:X.calm=true):AW X (.builtin "sum") (AZ W (HG Sr)):=by
 intro pins s σ H xs us Q I r h;obtain⟨x,c,r',rfl,h1,e,q⟩:=D5 h;unfold Sr Of at e;split at e
 .rename_i ps hc';obtain⟨ns,en,rfl⟩:=oM e;obtain⟨a,vs,rfl,k1,k2⟩:=C8 h1 hc';rw[ints_rep k2 en]at k1;exact JB hc pins s σ H _ us Q I r ⟨a,ns,rfl,hK▸k1,q.plain (Ai.mpr rfl)⟩
 .cases e
theorem b8(hK:W.K=X.K)(hc:X.calm=true):AW X (.builtin "all") (AZ W (HG UU)):=by
 intro pins s σ H xs us Q I r h;obtain⟨x,c,r',rfl,h1,e,q⟩:=D5 h;unfold UU Of at e;split at e
 .rename_i ps hc';obtain⟨ns,en,rfl⟩:=oM e;obtain⟨a,vs,rfl,k1,k2⟩:=C8 h1 hc';rw[Ir k2 en]at k1;exact KZ hc pins s σ H _ us Q I r ⟨a,ns,rfl,hK▸k1,q.bl⟩
 .cases e
theorem aY(hc:X.calm=true):AW X (.builtin "min") (AZ W (Ld (Ca Qj))):=by
 intro pins s σ H xs us Q I r h;obtain⟨x,y,a,b,r',rfl,h1,h2,e,q⟩:=T2 h;unfold Ca at e;split at e
 .obtain⟨k,ek,rfl⟩:=oM e;cases ek;cases AS h1;cases AS h2;exact OC hc pins s σ H _ us Q I r ⟨_,_,rfl,q.plain (Ai.mpr rfl)⟩
 .cases e
def MB:Ty->String
 |.int=>"int"| .bool=>"bool"| .str=>"str"| .tuple=>"tuple"| .dict=>"dict"
theorem Wq{σ:L2.St}(I:Inv X pins σ H s)(h:El X.K H a xs):∃o,s.heap.get? a=some o/\o.cls= .type "tuple":=by
 obtain⟨its,_,⟨o,e,c,_⟩,_⟩:=I.tuple h;exact⟨o,e,c⟩
theorem b5(hK:W.K=X.K)(hw:W.w=X.w)(t:Ty):AW X (.builtin "isinstance") (λxs H Q=>∃x c b,xs=[x,.ty (MB t)]/\Em W H c x/\Be t c=some b/\Q (.bl b) H):=by
 intro pins s σ H xs us Q I r h;obtain⟨x,c,b,rfl,h1,e,q⟩:=h;obtain⟨u,w',rfl,ru,rw'⟩:=vals2 r;cases rw'
 have fin:∀(b':Bool),Be t c=some b'->∀tk,EP X pins σ Q (.bool b') {s with toks:=tk}:=λb' e' tk=>by
  rw[e]at e';cases e';exact⟨.bl b,H,I.tok tk,rfl,q⟩
 cases c with
 |obj _ _=>cases t<;>cases e
 |b y =>
   cases y with
   |p p=>
     cases p with
     |AI=>
       cases Lv h1;cases ru;cases t<;>exact kia_one PySem.W.kitx_none I.DQ True.intro (by kernel_rfl) (λz=>nomatch z) (fin _ rfl)
     |bl i=>
       cases Pr h1;cases ru;cases t<;>exact kia_one PySem.W.kitx_bool I.DQ True.intro (by kernel_rfl) (λz=>nomatch z) (fin _ rfl)
     |int i=>
       cases AS h1;obtain⟨tk,rfl⟩:=ru;cases t<;>exact kia_one PySem.W.kitx_int I.DQ True.intro (by kernel_rfl) (λz=>nomatch z) (fin _ rfl)
     |str i=>
       cases EV h1;obtain⟨tk,rfl⟩:=ru;cases t<;>exact kia_one PySem.W.kitx_str I.DQ True.intro (by kernel_rfl) (λz=>nomatch z) (fin _ rfl)
     |tup ps=>
       obtain⟨a,vs,rfl,k1,k2⟩:=Cg h1;cases ru;have ob:=Wq I (hK▸k1);cases t<;>exact kia_one PySem.W.kitx_tuple I.DQ ob (by kernel_rfl) (λz=>nomatch z) (fin _ rfl)
   |lst ps=>cases t<;>cases e
   |ro ps=>cases t<;>cases e
   |AB kvs=>
     obtain⟨a,rfl,k1⟩:=h1;cases ru;have ob:=CG hw I.Af k1;cases t<;>first|exact kia_one PySem.W.kitx_dict I.DQ ob (by kernel_rfl) (λz=>nomatch z) (fin _ rfl)|cases e
def E1(h:Heap)(d:Addr)(es:List DictEntry)(ep:Nat):Prop:=∃o,h.get? d=some o/\o.ExactDict/\o.data= .dict es.toArray ep
variable{ep:Nat}
theorem E1.typ{es:List DictEntry}(h:E1 s.heap d es ep):s.TypeIs (.ref d) "dict":=let⟨o,h1,h2,_⟩:=h;⟨o,h1,h2.1⟩
theorem E1.at'{h':Heap}{es:List DictEntry}(x:E1 h d es ep)(k:∀o,h.get? d=some o->h'.get? d=some o):E1 h' d es ep:=let⟨o,h1,r⟩:=x;⟨o,k o h1,r⟩
variable{prog:Program}{w:World}{A:Around}{E:Value->Shared->Prop}{s:Shared}{d it:Addr}{es:List DictEntry}{ep i:Nat}
theorem KC{Q:Value->Shared->Prop}(lo:(d == sysModules)=false)(hm:E1 s.heap d es ep)
 (q:Q (.ref s.heap.objs.size) {s with heap:=s.heap.push {cls:=.type "dict_keyiterator",data:=.fields #[.ref d,.int 0 0,.int es.length 0,.int ep 0]}}):wpAny (model prog w) A (pyIter (.ref d)) Q E s:=by
 have ty:=hm.typ;obtain⟨o,h1,h2,h3⟩:=hm;refine wpAny_pyIter_slot ty PySem.F.slot_dict_iter (wpAny_call_entry PySem.F.slot_dict_iter ty PySem.F.entry_dict_iter ?_ (PySem.F.args_dict_iter_1 _));unfold Builtin.«dict.__iter__» Builtin.Dict.dictSlotNone;refine wB ?_;refine wB (wpAny_notOrdered_dict ty ?_);show wpAny _ _ (pure (Value.ref d)) _ _ s;refine wP ?_;show wpAny _ _ (Builtin.Dict.showsAll d >>= _) _ _ s;unfold Builtin.Dict.showsAll;rw[iN (by rw[lo];exact Bool.false_ne_true)];refine wB (wP ?_);refine wB (wpAny_dictEntries h1 h3 (wB (wpAny_dictEpoch h1 h3 (wB (wpAny_newObj_type (wP ⟨_,rfl,"dict_keyiterator",_,⟨_,Heap.get?_push_size _ rfl,rfl⟩,PySem.F.slot_dict_keyiterator_next.lookup,?_⟩))))));simpa[rawInt]using q
theorem KA{Q:Option Value->Shared->Prop}(hit:s.heap.IsKeyIter it d i es.length ep)(hm:E1 s.heap d es ep){e:DictEntry}(hx:es[i]? =some e)
 (q:∀h',h'.IsKeyIter it d (i+1) es.length ep->Heap.SameBut it s.heap h'->Q (some e.key) {s with heap:=h'}):wpAny (model prog w) A (pyNext (.ref it)) Q E s:=by
 have ty:=hit.typeIs;obtain⟨oi,i1,i2,i3⟩:=hit;obtain⟨o,h1,h2,h3⟩:=hm;unfold pyNext;refine wB (wpAny_attempt (wpAny_callSpecial?_slot (name:=Str.ofString "__next__") ty PySem.F.slot_dict_keyiterator_next (wpAny_call_entry PySem.F.slot_dict_keyiterator_next ty PySem.F.entry_dict_keyiterator_next ?_ (PySem.F.args_dict_keyiterator_next_1 _))));refine wB (wP ?_);refine wB ?_;refine wB ?_;refine wB (wpAny_typeNameOfWhole_keyiter ty (wP (wB (wpAny_fieldsOf i1 i3 ?_))));simp only[show Builtin.Dict_items.ownsTuple "dict_keyiterator"=false from by decide,Bool.false_eq_true,if_false];show wpAny _ _ (ite ((Value.ref d == Value.none)=true) _ _) _ _ s;rw[iN (λz:(Value.ref d == Value.none)=true=>Bool.false_ne_true z)];refine wB (wP ?_);refine wB (wpAny_dictEntries h1 h3 ?_);rw[iN (by simp)];refine wB (wP ?_);refine wB (wpAny_dictEpoch h1 h3 ?_);rw[iN (by simp)];have he:es.toArray[i]? =some e:=by rw[List.getElem?_toArray];exact hx
 refine wP ?_;simp only[show ¬((i:Int) < 0)from by lia,if_false,Int.toNat_natCast,he];refine wB ?_;refine wB (wpAny_typeNameOfWhole_keyiter ty (wP (wB (wpAny_isOneOf_keyiter ty ?_))));show wpAny _ _ (setField (.ref it) 1 (rawInt ((i:Int)+1)) >>= _) _ _ s;refine wB (wpAny_setField i1 i3 (by simp) ?_)
 have st:(s.heap.update it (Obj.mapFields (·.setIfInBounds 1 (rawInt ((i:Int) + 1))))).IsKeyIter it d (i + 1) es.length ep:=by
  refine⟨_,Heap.get?_update_self _ i1 (Obj.isFreed_of_fields (Obj.data_mapFields i3 _)),(Obj.cls_mapFields ..).trans i2,?_⟩;rw[Obj.data_mapFields i3];simp[rawInt]
 refine wB ?_;refine wpAny_holding (wB (wpAny_isOneOf_keyiter (s:={s with heap:=_}) st.typeIs ?_));show wpAny _ _ (pure e.key) _ _ _;exact wP (wP ⟨_,rfl,wP (q _ st (Heap.SameBut.update ..))⟩)
theorem Np{Q:Option Value->Shared->Prop}(hh:A.handled=none)(hit:s.heap.IsKeyIter it d i es.length ep)(hm:E1 s.heap d es ep)(hx:es.length<=i)
 (q:∀h',Heap.ExtBut it s.heap h'->Q none {s with heap:=h'}):wpAny (model prog w) A (pyNext (.ref it)) Q E s:=by
 have ty:=hit.typeIs;obtain⟨oi,i1,i2,i3⟩:=hit;obtain⟨o,h1,h2,h3⟩:=hm;unfold pyNext;refine wB (wpAny_attempt (wpAny_callSpecial?_slot (name:=Str.ofString "__next__") ty PySem.F.slot_dict_keyiterator_next (wpAny_call_entry PySem.F.slot_dict_keyiterator_next ty PySem.F.entry_dict_keyiterator_next ?_ (PySem.F.args_dict_keyiterator_next_1 _))));refine wB (wP ?_);refine wB ?_;refine wB ?_;refine wB (wpAny_typeNameOfWhole_keyiter ty (wP (wB (wpAny_fieldsOf i1 i3 ?_))));simp only[show Builtin.Dict_items.ownsTuple "dict_keyiterator"=false from by decide,Bool.false_eq_true,if_false];show wpAny _ _ (ite ((Value.ref d == Value.none)=true) _ _) _ _ s;rw[iN (λz:(Value.ref d == Value.none)=true=>Bool.false_ne_true z)];refine wB (wP ?_);refine wB (wpAny_dictEntries h1 h3 ?_);rw[iN (by simp)];refine wB (wP ?_);refine wB (wpAny_dictEpoch h1 h3 ?_);rw[iN (by simp)];refine wP ?_;have he:es.toArray[i]? =none:=by rw[List.getElem?_toArray];exact List.getElem?_eq_none hx
 simp only[show ¬((i:Int) < 0)from by lia,if_false,Int.toNat_natCast,he];refine wB ?_;refine wB (wpAny_typeNameOfWhole_keyiter ty (wP ?_));show wpAny _ _ (setField (.ref it) 0 .none >>= _) _ _ s;refine wB (wpAny_setField i1 i3 (by simp) ?_);show wpAny _ _ (newExc (.type "StopIteration") [] >>= _) _ _ _;refine wB ?_;simp only[newExc,newTuple];refine wB (wpAny_newObj_type (wB (m:=firstArgMember _ _) (wpAny_of_eq (a:=Value.none) (by first|rfl|(simp only[firstArgMember];rfl)) (wpAny_newObj_type ?_ (by size_fits)))) (by size_fits));simp only[raiseNew];refine wB ?_;refine wpAny_handled ?_;rw[show A.in1.handled=none from hh];refine wB (wP ?_);refine wpAny_throw (wB (wpAny_isInstance (T:="StopIteration") (b:=true) ⟨_,Heap.get?_push_size _ rfl,rfl⟩ isSubtype_stop (wP (q _ ?_))));exact((Heap.SameBut.update ..).extBut.push _).push _
def Rv(es:List DictEntry)(i:Nat)(v:Value):Prop:=∃e,es[i]? =some e/\v=e.key
theorem Ov(hh:A.handled=none)(I d:Addr)(hne:d≠I):Walks prog w A I [I,d] [I] es.length (Rv es) (λi h=>h.IsKeyIter I d i es.length ep/\E1 h d es ep) where
 sub:=λb hb=>by rw[mE hb];exact mS
 frame:=λi h h' x k=>⟨x.1.at (k I mS),x.2.at' (k d (mC mS))⟩
 item:=λi s Q E hi x q=>by
  refine KA x.1 x.2 (List.getElem?_eq_getElem hi) λh' y sb=>q _ h' s.toks ⟨_,List.getElem?_eq_getElem hi,rfl⟩ ⟨y,x.2.at' λo e=>(sb.2 d hne).trans e⟩ λb o hb e=>?_
  exact(sb.2 b λz=>hb (mem_singleton.mpr z)).trans e
 done:=λs Q E x q=>Np hh x.1 x.2 (lR) λh' eb=>q h' s.toks λb o hb e=>eb b o (λz=>hb (mem_singleton.mpr z)) e
 self:=λi s Q E x q=>wpAny_pyIter_keyiter x.1 q
theorem Ju(x:E1 h d es ep):d < h.objs.size:=let⟨_,h1,_⟩:=x;Heap.lt_size h1
theorem Nn{d:Addr}(lo:(d == sysModules)=false):KdlSrc prog w "dict" d d es.length (Rv es) (λh=>E1 h d es ep) where
 type:=λs x=>x.typ
 there:=λh x=>⟨Ju x,Ju x⟩
 keep:=λh h' x k=>x.at' (k d (.inl rfl))
 notList:=by decide
 notTuple:=by decide
 hint:=λA E s Q x q=>PySem.W.kdl_hint_dict x.typ q
 iter:=λA s hh x=>⟨_,_,λE Q q=>KC lo x q,Ov hh _ d (Nat.ne_of_lt (Ju x)),⟨⟨_,Heap.get?_push_size _ rfl,rfl,rfl⟩,x.at' λo e=>gP e⟩⟩
variable{H:Hp}
theorem FP:∀{kvs:List (P×P)} {es:List DictEntry},Paired (ES W H) kvs es->∃vs,Vals vs (es.map (·.key))/\A7 W H (kvs.map (·.1)) vs
 |_,_,.nil=>⟨[],.nil,.nil⟩
 | _,_,.cons r t=>by
   obtain⟨vs,h1,h2⟩:=FP t;obtain⟨k,rk,hk⟩:=r.2.1;exact⟨k::vs,.cons rk h1,.cons hk h2⟩
theorem Hh{es:List DictEntry}{acc:Array Value}(h:ItemsOf (Rv es) acc es.length):acc.toList=es.map (·.key):=by
 apply ext_getElem?;intro j;have hsz:acc.size=es.length:=h.1
 by_cases hj:j < es.length
 .obtain⟨e,h1,h2⟩:=h.2 j (acc[j]'(by lia)) (by simp[hsz,hj]);rw[List.getElem?_map,h1,Option.map_some,<-h2];simp[hsz,hj]
 .rw[List.getElem?_eq_none (by simp;lia),List.getElem?_eq_none (by simp;lia)]
theorem Ei{σ:L2.St}{kvs:List (P×P)}(I:Inv X pins σ H s)(hd:CY W H a kvs):∃es ep,E1 s.heap a es ep/\Paired (ES W H) kvs es/\es.length=kvs.length/\ep=kvs.length:=by
 obtain⟨es,hH,hp⟩:=hd.ex;obtain⟨⟨o,h1,h2,h3⟩,_⟩:=(show BN X.prog X.w H s.heap a (DX a es)from I.Af a _ hH);exact⟨es,es.length,⟨o,h1,h2,h3⟩,hp,hp.length.symm,hp.length.symm⟩
theorem UJ(hc:X.calm=true):AW X (.type "list") (AZ W (HG λc=>match c with| .AB kvs=>some (.lst (kvs.map (·.1)))|_=>none)):=by
 intro pins s σ H xs us Q I r h;obtain⟨x,c,r',rfl,h1,e,q⟩:=D5 h;split at e
 case h_2=>cases e
 rename_i kvs;cases e;obtain⟨a,rfl,hd⟩:=h1;obtain⟨u,rfl,ru⟩:=vals1 r;cases ru;obtain⟨es,ep,x,hp,hl,_⟩:=Ei I hd;obtain⟨vs,v1,v2⟩:=FP hp;have hz:kvs.length<=sizeLine:=Nat.le_trans hd.len BP;refine PySem.W.kdl_call (Nn hd.sm) (I.ok.hd hc) x (by lia) λh' tk acc c' hk hS hacc=>?_
 have eacc:=Hh hacc;have hS:h'.get? s.heap.objs.size=some (seqObj "list" (es.map (·.key)).toArray c'):=by rw[hS,<-eacc];try simp[seqObj]
 refine⟨.ref s.heap.objs.size,_,I.laid (t':=tk) (o:=.lst vs) hk (lR) ?_,rfl,q.list v2 _ (I.Af.fresh (lR))⟩;exact⟨by rw[v2.length,lM];exact hz,es.map (·.key),c',v1,hS⟩
def Pt(W:Wd):V->Hp->(Bool->Hp->Prop)->Prop:=λx H Q=>∃c b,Em W H c x/\CI c=some b/\Q b H
theorem Ow{ps:List P}(h:A7 W H ps vs):(!ps.isEmpty)= !vs.isEmpty:=by
 have:=h.length;cases ps<;>cases vs<;>simp at this ⊢
theorem Wm(hK:W.K=X.K):bh X (Pt W):=by
 intro pins s σ H x v Q I rx h;obtain⟨c,b,h1,e,q⟩:=h;have ok:=λ(z:bg X.K x H b)=>Wn pins s σ H x v Q I rx ⟨b,z,q⟩
 unfold CI at e;split at e
 .rename_i hc;cases e;rw[LK hc]at h1;cases Pr h1;exact ok rfl
 .rename_i ps hc;cases e;obtain⟨a,vs,rfl,k1,k2⟩:=C8 h1 hc;exact ok (.inl ⟨vs,hK▸k1,Ow k2⟩)
 .cases e
variable{σ:L2.St}
theorem Nf{F:Env->Res Hd}{K:List V->Hp->Prop}(h:tG W (Bn W) (λρ=>(F ρ).bind λh ρ=>.ok [h] ρ) σ H K):tG W (ER W) F σ H λv H1=>K [v] H1:=by
 obtain⟨ρ,os,hR,hn,hA⟩:=h;dsimp only at hA;refine⟨ρ,os,hR,hn,?_⟩;cases eF:F ρ with
 |stuck=>rw[eF]at hA;exact hA
 |ok a ρ1=>
   rw[eF]at hA;exact λv H1 o os1 h1 h2 h3 h4=>hA [v] H1 o os1 ⟨v,[],o,[],rfl,h1,⟨rfl,rfl⟩,by simp⟩ h2 h3 h4
theorem Jo{F:Env->Res (List Hd)}{n:Nat}(hF:∀ρ hs ρ',F ρ= .ok hs ρ'->hs.length=n){K:List V->Hp->Prop}(h:tG W (Bn W) F σ H K):tG W (Bn W) F σ H λvs H1=>vs.length=n/\K vs H1:=by
 obtain⟨ρ,os,hR,hn,hA⟩:=h;refine⟨ρ,os,hR,hn,?_⟩;unfold Cs at hA ⊢;cases eF:F ρ with
 |stuck=>rw[eF]at hA;exact hA
 |ok a ρ1=>
   rw[eF]at hA;intro vs H1 o os1 h1 h2 h3 h4;refine⟨?_,hA vs H1 o os1 h1 h2 h3 h4⟩;rw[<-hF ρ a ρ1 eF];clear hA eF h3 h4
   induction a generalizing vs o with
   |nil=>rw[h1.1];rfl
   |cons h hs ih=>
     obtain⟨v,r,o1,o2,rfl,_,h5,rfl⟩:=h1;rw[lC,lC,ih r o2 h5]
theorem FE{α β:Type}{rep:L2.St->Hp->Env->α->β->List Addr->Prop}{F:Env->Res α}{Q Q':β->Hp->Prop}(h:tG W rep F σ H Q)(k:∀b H',Q b H'->Q' b H'):tG W rep F σ H Q':=by
 obtain⟨ρ,os,hR,hn,hA⟩:=h;exact⟨ρ,os,hR,hn,hA.imp k⟩
section
variable{tg:Expr}
theorem NL(hK:W.K=X.K){xs:List P}{g:Hp->Prop}(h:∀H,g H->∃vs,Dk W.K H a vs/\A7 W H xs vs):Walk W (eS X.K a) xs g where
 go:=λi H hg hi=>by
   obtain⟨vs,h1,h2⟩:=h H hg;have hi':i < vs.length:=by rw[h2.length];exact hi
   exact⟨vs,vs[i],hK▸h1,List.getElem?_eq_getElem hi'⟩
 Mz:=λi H x H' hg hi hy=>by
  obtain⟨rfl,hy⟩:=hy;obtain⟨vs,h1,h2⟩:=h _ hg;exact⟨D2.refl _,h2.get' (hy vs (hK▸h1))⟩
 stop:=λH hg=>by
  obtain⟨vs,h1,h2⟩:=h H hg;exact⟨vs,hK▸h1,Nat.le_of_eq h2.length⟩
theorem OR(hK:W.K=X.K){xs:List P}{g:Hp->Prop}(h:∀H,g H->∃vs,El W.K H a vs/\A7 W H xs vs):Walk W (eR X.K a) xs g where
 go:=λi H hg hi=>by
   obtain⟨vs,h1,h2⟩:=h H hg;have hi':i < vs.length:=by rw[h2.length];exact hi
   exact⟨vs,vs[i],hK▸h1,List.getElem?_eq_getElem hi'⟩
 Mz:=λi H x H' hg hi hy=>by
  obtain⟨rfl,hy⟩:=hy;obtain⟨vs,h1,h2⟩:=h _ hg;exact⟨D2.refl _,h2.get' (hy vs (hK▸h1))⟩
 stop:=λH hg=>by
  obtain⟨vs,h1,h2⟩:=h H hg;exact⟨vs,hK▸h1,Nat.le_of_eq h2.length⟩
def eU(W:Wd)(a:Addr)(n:Nat):It:=
 ⟨λi H=>i < n/\∃kvs,CY W H a kvs/\kvs.length=n,λi H x H'=>H'=H/\∀kvs,CY W H a kvs->kvs.length=n->∃p,kvs[i]? =some p/\Al W H p.1 x,λi H=>n<=i/\∃kvs,CY W H a kvs/\kvs.length=n⟩
theorem Wj{P:Program}{w:World}{K:PySem.W.Frag}{tg:Expr}(hK:W.K=K)(hw:W.w=w)(a it:Addr)(n:Nat)(hne:a≠it):Turn P w K tg (eU W a n) [it] it (λi h=>h.IsKeyIter it a i n n) where
 mem:=mS
 obj:=λi h st b hb=>by
  cases mE hb;obtain⟨o,e,c,d⟩:=st;exact⟨o,e,λv z=>by rw[d]at z;cases z⟩
 keep:=λi h h' st k=>let⟨o,e,r⟩:=st;⟨o,k it mS o e,r⟩
 item:=by
  intro X hP hw' hK' hc i pins s σ H E I hf st hg;subst hP hw' hK';obtain⟨hi,kvs,hd,hl⟩:=hg;obtain⟨es,ep,x,hp,hl2,hep⟩:=Ei I hd;have e1:es.length=n:=by lia
  have e2:ep=n:=by lia
  have st':s.heap.IsKeyIter it a i es.length ep:=by rw[e1,e2];exact st
  obtain⟨f0,f1,f2,f3,f4,f5⟩:=hf it mS;have hx:es[i]? =some (es[i]'(by lia)):=List.getElem?_eq_getElem (by lia);refine KA st' x hx λh' y sb=>?_
  have I1:Inv X pins σ H {s with heap:=h'}:=I.turned (t':=s.toks) (λb o hb e=>(sb.2 b hb).trans e) f0 f1 f3 f4 f5;obtain⟨p,g1,g2,⟨k,g3,g4⟩,_⟩:=Paired.at hp hx;obtain⟨o,e,c,d⟩:=id y;have y':h'.IsKeyIter it a (i+1) n n:=by rw[e1,e2]at y;exact y
  refine⟨_,rfl,Hn (s:={s with heap:=h'}) e c d (by decide) ⟨k,H,I1,g3,⟨rfl,λkvs' hd' hl'=>?_⟩,y',λb hb=>(hf b hb).1⟩⟩;obtain⟨es2,ep2,x2,hp2,_⟩:=Ei I hd'
  have ees:es2=es:=by
   obtain⟨o1,a1,_,a2⟩:=x;obtain⟨o2,b1,_,b2⟩:=x2;rw[a1]at b1;cases b1;rw[a2]at b2;injection b2 with b3 _
   simpa using(congrArg Array.toList b3).symm
  subst ees;obtain⟨p',q1,_,⟨k',q3,q4⟩,_⟩:=Paired.at hp2 hx;have:=g3.inj q3;subst this;exact⟨p',q1,q4⟩
 done:=by
  intro X hP hw' hK' hc i pins s σ H E I hf st hg;subst hP hw' hK';obtain⟨hi,kvs,hd,hl⟩:=hg;obtain⟨es,ep,x,hp,hl2,hep⟩:=Ei I hd;have e1:es.length=n:=by lia
  have e2:ep=n:=by lia
  have st':s.heap.IsKeyIter it a i es.length ep:=by rw[e1,e2];exact st
  obtain⟨f0,f1,f2,f3,f4,f5⟩:=hf it mS;exact Np (I.ok.hd hc) st' x (by lia) λh' eb=>⟨rfl,I.turned (t':=s.toks) (λb o hb e=>eb b o hb e) f0 f1 f3 f4 f5⟩
 self:=λ_ _ _ _ _ st h=>wpAny_pyIter_keyiter st h
theorem W9{kvs:List (P×P)}{g:Hp->Prop}(h:∀H,g H->CY W H a kvs):Walk W (eU W a kvs.length) (kvs.map (·.1)) g where
 go:=λi H hg hi=>⟨by rw[lM]at hi;exact hi,kvs,h H hg,rfl⟩
 Mz:=λi H x H' hg hi hy=>by
  obtain⟨rfl,hy⟩:=hy;obtain⟨p,h1,h2⟩:=hy kvs (h _ hg) rfl;exact⟨D2.refl _,p.1,by rw[List.getElem?_map,h1];rfl,h2⟩
 stop:=λH hg=>⟨by rw[lM];exact lR,kvs,h H hg,rfl⟩
theorem MW(hK:W.K=X.K)(hw:W.w=X.w){F:Env->Res Hd}(hl:PE X l (tG W (ER W) F)):PI X tg l (NM W .op (λρ=>(F ρ).bind λh ρ=>.ok [h] ρ)):=by
 intro pins s σ H R I h;refine Bf (hl pins s σ H _ I (Nf h)) λv s1 ⟨x,H1,I1,r1,q1⟩=>?_
 obtain⟨cs,xs,h1,h2,h3⟩:=q1
 have hS:∃c,cs=[c]/\Dq c=some xs:=by
  unfold Ae at h2;split at h2<;>first|cases h2|skip
  all_goals first|exact⟨_,rfl,h2⟩|(exfalso;simp_all)
 clear h2;obtain⟨c,rfl,h2⟩:=hS;obtain⟨_,e,hc⟩:=C7 h1;cases e
 have up:∀{H'},E3 W H' [c] [x]->Em W H' c x:=λz=>by
  obtain⟨_,e,hc⟩:=C7 z;cases e;exact hc
 have fp:∀b,b=s1.heap.objs.size->G4 X pins H1 b:=λb hb=>by
  subst hb;exact I1.M8 (lR) (I1.Af.fresh (lR))
 unfold Dq at h2;split at h2
 .rename_i ps hn;cases h2;obtain⟨a,vs,rfl,k1,k2⟩:=C8 hc hn;cases r1;obtain⟨its,rv,p,hz⟩:=I1.list (hK▸k1);refine wpAny_pyIter_list p.isList ⟨s1.heap.objs.size,[s1.heap.objs.size],_,_,H1,rfl,I1.kept (t':=s1.toks) λb o e=>gP e,NP a _,⟨_,Heap.get?_push_size _ rfl,rfl,rfl⟩,λb hb=>fp b (mE hb),h3 _ (NL hK λH' z=>?_)⟩;obtain⟨a',vs',e,g1,g2⟩:=C8 (up z) hn;cases e;exact⟨vs',g1,g2⟩
 .rename_i ps hn;cases h2;have hn':=LK hn;subst hn';obtain⟨a,vs,rfl,k1,k2⟩:=Cg hc;cases r1;obtain⟨its,rv,p,hz⟩:=I1.tuple (hK▸k1);refine wpAny_pyIter_tuple (show s1.heap.IsTuple a its.toArray from p) ⟨s1.heap.objs.size,[s1.heap.objs.size],_,_,H1,rfl,I1.kept (t':=s1.toks) λb o e=>gP e,Lm a _,⟨_,Heap.get?_push_size _ rfl,rfl,rfl⟩,λb hb=>fp b (mE hb),h3 _ (OR hK λH' z=>?_)⟩;obtain⟨a',vs',e,g1,g2⟩:=Cg (up z);cases e;exact⟨vs',g1,g2⟩
 .rename_i kvs hn;cases h2;have hn':=LL hn;subst hn';obtain⟨a,rfl,hd⟩:=hc;cases r1;obtain⟨es,ep,x,hp,hl,hep⟩:=Ei I1 hd;have hlt:a < s1.heap.objs.size:=Ju x;refine KC hd.sm x ⟨s1.heap.objs.size,[s1.heap.objs.size],_,_,H1,rfl,I1.kept (t':=s1.toks) λb o e=>gP e,Wj hK hw a _ kvs.length (Nat.ne_of_lt hlt),⟨_,Heap.get?_push_size _ rfl,rfl,by rw[hl,hep];rfl⟩,λb hb=>fp b (mE hb),h3 _ (W9 λH' z=>?_)⟩;obtain⟨a',e,hd'⟩:=up z;cases e;exact hd'
 .cases h2
theorem Bb(lo hi:Int):(Av lo hi).length=(hi-lo).toNat:=by unfold Av;rw[lM,length_range]
theorem OS{lo hi:Int}{g:Hp->Prop}:Walk W (br lo (hi - lo).toNat) (Av lo hi) g where
 go:=λi H _ h=>by rw[Bb]at h;exact h
 Mz:=λi H x H' _ h hy=>by
  obtain⟨rfl,rfl⟩:=hy;rw[Bb]at h;refine⟨D2.refl _,.int (lo+(i:Nat)),?_,Ai.mpr rfl⟩;unfold Av;rw[List.getElem?_map,List.getElem?_range h];rfl
 stop:=λH _=>by rw[Bb];exact lR
variable{α:Type}
theorem Qu{l:List α}(h:l.length=1):∃a,l=[a]:=by
 match l,h with
 |[a],_=>exact⟨a,rfl⟩
theorem Xn{l:List α}(h:l.length=2):∃a b,l=[a,b]:=by
 match l,h with
 |[a,b],_=>exact⟨a,b,rfl⟩
theorem aq{l:List α}(h:l.length=3):∃a b c,l=[a,b,c]:=by
 match l,h with
 |[a,b,c],_=>exact⟨a,b,c,rfl⟩
theorem SX{c:C}{xs:List P}(h:Ae .Ff [c]=some xs):∃n:Int,c= .p (.int n)/\n.natAbs < 2 ^ 61/\xs=Av 0 n:=by
 unfold Ae at h;split at h<;>first|(exfalso;simp_all;done)|skip
 .rename_i n hk hc;split at h
  .rename_i hb;cases hc;cases h;exact⟨n,rfl,hb,rfl⟩
  .cases h
end
section
variable{tg:Expr}
theorem NY{c d f:C}{xs:List P}(h:Ae .Ff [c,d,f]=some xs):∃a n s:Int,c= .p (.int a)/\d= .p (.int n)/\f= .p (.int s)/\(0 < s/\s < 1000000/\a.natAbs < 2 ^ 61/\n.natAbs < 2 ^ 61)/\xs=(List.range ((n - a + s - 1) / s).toNat).map λk=>.int (a + s * (k:Nat)):=by
 unfold Ae at h;split at h<;>first|(exfalso;simp_all;done)|skip
 .rename_i a n s hk hc;split at h
  .rename_i hb;cases hc;cases h;exact⟨a,n,s,rfl,rfl,rfl,hb,rfl⟩
  .cases h
variable{H:Hp}{y:V}
theorem IV{a b:C}{x:V}(h:E3 W H [a,b] [x,y]):Em W H a x/\Em W H b y:=by
 obtain⟨_,_,e,h1,h2⟩:=h;cases e;obtain⟨_,e,h2⟩:=C7 h2;cases e;exact⟨h1,h2⟩
theorem NZ{a b c:C}{x z:V}(h:E3 W H [a,b,c] [x,y,z]):Em W H a x/\Em W H b y/\Em W H c z:=by
 obtain⟨_,_,e,h1,h2⟩:=h;cases e;exact⟨h1,IV h2⟩
variable{F:Env->Res (List Hd)}{pos:Pos}
theorem Th{a:Expr}{p:Pos}(hg:Gl X "range")(hm:X.mg "range"=none)(hF:∀ρ hs ρ',F ρ= .ok hs ρ'->hs.length=1)(ha:PA X [a] (tG W (Bn W) F))(hs:starEach [a] X.env=[(false,eval a X.env)]):PI X tg (.Call (.Name "range" p) [a] [] pos) (NM W .Ff F):=by
 intro pins s σ H R I h;refine O7 hg hm ha hs pins s σ H R I (FE (Jo hF h) λvs H1 z=>?_);obtain⟨hl,cs,xs,h1,h2,h3⟩:=z;obtain⟨v,rfl⟩:=Qu hl;obtain⟨c,rfl⟩:=Qu (h1.length.symm.trans hl);obtain⟨n,rfl,hb,rfl⟩:=SX h2;obtain⟨_,e,hc⟩:=C7 h1;cases e;cases AS hc;have:=h3 (br 0 (n-0).toNat) OS;rw[Int.sub_zero]at this;exact⟨n,rfl,by lia,by lia,this⟩
theorem VI{s:Int}(hs:0 < s):Builtin.Range.rangeSize a n s=(((n - a + s - 1) / s).toNat:Nat):=by
 unfold Builtin.Range.rangeSize;rw[iP hs];have e:n-a+s-1=(n-a-1)+s:=by lia
 have e2:((n - a - 1) + s) / s=(n - a - 1) / s + 1:=by
  have:=Int.add_mul_ediv_right (n-a-1) 1 (c:=s) (by lia);rw[Int.one_mul]at this;exact this
 rw[e,e2];split
 .have:0<=(n-a-1)/s:=Int.ediv_nonneg (by lia) (by lia)
  lia
 .have:(n-a-1)/s < 0:=Int.ediv_neg_of_neg_of_pos (by lia) hs
  lia
theorem Wr{a n s:Int}(hs:0 < s)(h2:s < 1000000)(ha:a.natAbs < 2 ^ 61)(hn:n.natAbs < 2 ^ 61):Builtin.Range.small a n s=true:=by
 have hz:=VI (a:=a) (n:=n) hs
 have hb:(n - a + s - 1) / s<=2 ^ 62 + 1000000:=by
  have:(n-a+s-1)/s*s<=n-a+s-1:=Int.ediv_mul_le _ (by omega);rcases Int.lt_or_le ((n-a+s-1)/s) 0 with z|z
  .omega
  .have h1:(n-a+s-1)/s*1<=(n-a+s-1)/s*s:=Int.mul_le_mul_of_nonneg_left (by omega) z;omega
 unfold Builtin.Range.small;rw[hz,iP hs];simp only[Builtin.Range.rangeFitsLong,bA,Bool.or_eq_true,decide_eq_true_eq,beq_iff_eq];omega
theorem NK{a s:Int}{n:Nat}{g:Hp->Prop}:Walk W (dE a s n) ((List.range n).map λk=>.int (a + s * (k:Nat))) g where
 go:=λi H _ h=>by rw[lM,length_range]at h;exact h
 Mz:=λi H x H' _ h hy=>by
  obtain⟨rfl,rfl⟩:=hy;rw[lM,length_range]at h;refine⟨D2.refl _,.int (a+s*(i:Nat)),?_,Ai.mpr (by rw[Int.mul_comm])⟩;rw[List.getElem?_map,List.getElem?_range h];rfl
 stop:=λH _=>by rw[lM,length_range];exact lR
theorem Tf{a b c:Expr}{p:Pos}(hg:Gl X "range")(hm:X.mg "range"=none)(hF:∀ρ hs ρ',F ρ= .ok hs ρ'->hs.length=3)(ha:PA X [a,b,c] (tG W (Bn W) F))(hs:starEach [a,b,c] X.env=[(false,eval a X.env),(false,eval b X.env),(false,eval c X.env)])
 (hs2:starEach [b,c] X.env=[(false,eval b X.env),(false,eval c X.env)]):PI X tg (.Call (.Name "range" p) [a,b,c] [] pos) (NM W .Ff F):=by
 intro pins s σ H R I h;refine O6 hg hm ha hs hs2 pins s σ H R I (FE (Jo hF h) λvs H1 z=>?_);obtain⟨hl,cs,xs,h1,h2,h3⟩:=z;obtain⟨v,u,t,rfl⟩:=aq hl;obtain⟨c,d,f,rfl⟩:=aq (h1.length.symm.trans hl);obtain⟨i,n,k,rfl,rfl,rfl,hb,rfl⟩:=NY h2;obtain⟨c1,c2,c3⟩:=NZ h1;cases AS c1;cases AS c2;cases AS c3;exact⟨i,n,k,_,rfl,hb.1,hb.2.1,Wr hb.1 hb.2.1 hb.2.2.1 hb.2.2.2,VI hb.1,h3 _ NK⟩
def eQ(K:PySem.W.Frag)(a:Addr)(n:Nat):It:=
 ⟨λi H=>i < n/\∃xs,Dk K H a xs/\xs.length=n,λi H x H'=>H'=H/\∀xs,Dk K H a xs->xs[n-1-i]? =some x,λi H=>n<=i⟩
theorem Wi{P:Program}{w:World}{K:PySem.W.Frag}{tg:Expr}(a it:Addr)(n:Nat):Turn P w K tg (eQ K a n) [it] it (λi h=>i<=n/\h.IsRevIter it a ((n:Int) - 1 - (i:Int))) where
 mem:=mS
 obj:=λi h st b hb=>by
  cases mE hb;obtain⟨_,o,e,c,d⟩:=st;exact⟨o,e,λv z=>by rw[d]at z;cases z⟩
 keep:=λi h h' st k=>⟨st.1,st.2.at λo e=>k it mS o e⟩
 item:=by
  intro X hP hw hK hc i pins s σ H E I hf st hg;subst hP hw hK;obtain⟨hi,xs,hq,rfl⟩:=hg;obtain⟨its,rv,p,hz⟩:=I.list hq;have hlen:=rv.length;have hx:xs[xs.length-1-i]? =some (xs[xs.length-1-i]'(by lia)):=List.getElem?_eq_getElem (by lia);obtain⟨u,hu,ru⟩:=rv.get hx;obtain⟨f0,f1,f2,f3,f4,f5⟩:=hf it mS;have st2:=st.2;rw[show(xs.length:Int)-1-(i:Int)=((xs.length-1-i:Nat):Int)by lia]at st2;refine wpAny_pyNext_rev_item st2 p.isList (x:=u) (by simpa using hu) λh' st' sb=>?_
  rw[show((xs.length-1-i:Nat):Int)-1=(xs.length:Int)-1-((i+1:Nat):Int)by lia]at st';have I1:Inv X pins σ H {s with heap:=h'}:=I.turned (t':=s.toks) (λb o hb e=>(sb.2 b hb).trans e) f0 f1 f3 f4 f5;obtain⟨o,e,c,d⟩:=id st';exact⟨u,rfl,Hn (s:={s with heap:=h'}) e c d (by decide) ⟨_,H,I1,ru,⟨rfl,λys hy=>by rw[I.Km hy hq];exact hx⟩,⟨hi,st'⟩,λb hb=>(hf b hb).1⟩⟩
 done:=by
  intro X hP hw hK hc i pins s σ H E I hf st hg;subst hP hw hK;have hg:n<=i:=hg;have hi:i=n:=Nat.le_antisymm st.1 hg;obtain⟨f0,f1,f2,f3,f4,f5⟩:=hf it mS;have st2:=st.2;rw[show(n:Int)-1-(i:Int)= -1 by lia]at st2;exact wpAny_pyNext_rev_end (I.ok.hd hc) st2 λh' eb=>⟨rfl,I.turned (t':=s.toks) (λb o hb e=>eb b o hb e) f0 f1 f3 f4 f5⟩
 self:=λ_ _ _ _ _ st h=>wpAny_pyIter_revIter st.2 h
theorem W8(hK:W.K=X.K){ps:List P}{g:Hp->Prop}(h:∀H,g H->∃vs,Dk W.K H a vs/\A7 W H ps vs):Walk W (eQ X.K a ps.length) ps.reverse g where
 go:=λi H hg hi=>by
   obtain⟨vs,h1,h2⟩:=h H hg;exact⟨by rw[length_reverse]at hi;exact hi,vs,hK▸h1,h2.length⟩
 Mz:=λi H x H' hg hi hy=>by
  obtain⟨rfl,hy⟩:=hy;rw[length_reverse]at hi;obtain⟨vs,h1,h2⟩:=h _ hg;obtain⟨p,h3,h4⟩:=h2.get' (hy vs (hK▸h1));refine⟨D2.refl _,p,?_,h4⟩;rw[List.getElem?_reverse hi];exact h3
 stop:=λH _=>by rw[length_reverse];exact lR
theorem SY{c:C}{xs:List P}(h:Ae .rev [c]=some xs):∃ps,c.nf= .lst ps/\xs=ps.reverse:=by
 unfold Ae at h;split at h<;>first|(exfalso;simp_all;done)|skip
 .rename_i hk hc;cases hc;split at h
  .rename_i ps hn;cases h;exact⟨ps,hn,rfl⟩
  .cases h
theorem Ti(hK:W.K=X.K){F:Env->Res Hd}{p:Pos}(hg:Gl X "reversed")(hm:X.mg "reversed"=none)(hl:PE X l (tG W (ER W) F))(hs:starEach [l] X.env=[(false,eval l X.env)]):PI X tg (.Call (.Name "reversed" p) [l] [] pos) (NM W .rev (λρ=>(F ρ).bind λh ρ=>.ok [h] ρ)):=by
 intro pins s σ H R I h
 have h':CJ (tG W (ER W) F) Gm σ H (λvs H1=>match vs with|[x]=>(∃c ps,c.nf= .lst ps/\Em W H1 c x/\∀J,Walk W J ps.reverse (λH=>Em W H c x)->R J H1)|_=>False):=by
  refine FE (Nf h) λv H1 z=>?_
  obtain⟨cs,xs,h1,h2,h3⟩:=z;obtain⟨c,rfl⟩:=Qu h1.length.symm;obtain⟨ps,hn,rfl⟩:=SY h2;obtain⟨_,e,hc⟩:=C7 h1;cases e;refine⟨c,ps,hn,hc,λJ hJ=>h3 J ⟨λi H hg=>hJ.go i H ?_,λi H x H' hg=>hJ.Mz i H x H' ?_,λH hg=>hJ.stop H ?_⟩⟩
  all_goals
   obtain⟨_,e,hc⟩:=C7 hg;cases e;exact hc
 refine Call_ (CP I hg hm boot_reversed (PyProof.Rows.callWith_type1 (Bf (D7 hl EW hs pos pins s σ H _ I h') λus s1 ⟨vs,H1,I1,r1,q1⟩=>?_) hs rfl))
 match vs,r1,q1 with
 |[x],r1,q1=>
   obtain⟨u,rfl,ru⟩:=vals1 r1;obtain⟨c,ps,hn,hc,q⟩:=q1;obtain⟨a,vs,rfl,k1,k2⟩:=C8 hc hn;cases ru;obtain⟨its,rv,pl,hz⟩:=I1.list (hK▸k1);refine call_reversed_list pl.isList ?_;rw[show(its.toArray.size:Int)-1=(ps.length:Int)-1 by rw[size_toArray,<-rv.length,k2.length]];have st:(s1.heap.push (revObj a ((ps.length:Int)-1))).IsRevIter s1.heap.objs.size a ((ps.length:Int)-1-((0:Nat):Int)):=⟨_,Heap.get?_push_size _ rfl,rfl,by simp[revObj]⟩;refine wpAny_pyIter_revIter st ⟨s1.heap.objs.size,[s1.heap.objs.size],_,_,H1,rfl,I1.kept (t':=s1.toks) λb o e=>gP e,Wi a _ ps.length,⟨Nat.zero_le _,st⟩,λb hb=>?_,q _ (W8 hK λH' z=>?_)⟩
   .cases mE hb;exact I1.M8 (lR) (I1.Af.fresh (lR))
   .obtain⟨a',vs',e,g1,g2⟩:=C8 z hn;cases e;exact⟨vs',g1,g2⟩
end
end Iv
namespace Iv
open PySem PySem.Spec L2 PyProof.Rows
variable{prog:Program}{w:World}{A:Around}{R:Result->Shared->Prop}{s:Shared}
abbrev tests(ifs:List Expr)(env:PySem.Env):Sem Bool:=forIn ifs true λc r=>if r=true then do let ok <-isTrue c env (eval c env);pure (ForInStep.yield ok)else pure (ForInStep.yield r)
theorem LQ{elt target iter:Expr}{ifs:List Expr}{scope:Scope}{pos:Pos}{it acc:Value}{env:PySem.Env}(I:Nat->Shared->Prop)
 (turn : ∀n s,I n s->wpAny (model prog w) A (pyNext it) (λr s₁=>match r with
  |none=>R (.ok .next) s₁
  |some v=>wpAny (model prog w) A (letOwnedTupleGo target it v) (λ_ s₀=>wpAny (model prog w) A (assign target env v) (λ_ s₂=>wpAny (model prog w) A (tests ifs env) (λok s₃=>
   if ok=true then wpAny (model prog w) A (eval elt env) (λx s₄=>
    wpAny (model prog w) A (call (.builtin "list.append") [acc,x]) (λ_ s₅=>∃m,m < n/\I m s₅) (λ_ _=>False) s₄) (λ_ _=>False) s₃ else ∃m,m < n/\I m s₃) (λ_ _=>False) s₂) (λ_ _=>False) s₀) (λ_ _=>False) s₁) (λ_ _=>False) s)
 (n:Nat)(h:I n s):codeAny (model prog w) A (.compLoop (.ListComp elt [⟨target,iter,ifs,0⟩] scope pos) 0 it acc env) R s:=by
 refine codeAny_loop rfl I (λn s hI=>?_) n h;show wpAny _ _ ((compTurn (.ListComp elt [⟨target,iter,ifs,0⟩] scope pos) 0 it acc env).onRaise (λx=>noteFrame x env >>= λ_=>theTreesLotGoes x)) _ _ s;refine wpAny_noted ?_;rw[compTurn_list];refine wB (wpAny_standAt (wB (wpAny_mono (turn n s hI) (λr s₁ h₁=>?_) λ_ _ z=>z.elim)));cases r with
 |none=>exact wP h₁
 |some v=>
   refine wB (wpAny_mono h₁ (λ_ s₀ h₀=>wB (wpAny_mono h₀ (λ_ s₂ h₂=>wB (wpAny_mono h₂ (λok s₃ h₃=>?_) λ_ _ z=>z.elim)) λ_ _ z=>z.elim)) λ_ _ z=>z.elim);cases ok with
   |true=>
     rw[iP rfl]at h₃;exact wB (wB (wpAny_mono h₃ (λx s₄ h₄=>wB (wpAny_mono h₄ (λ_ s₅ h₅=>wP (wP ⟨rfl,h₅⟩)) λ_ _ z=>z.elim)) λ_ _ z=>z.elim))
   |false=>
     rw[iN Bool.false_ne_true]at h₃;exact wP ⟨rfl,h₃⟩
section
variable{X:Cx}{elt iter tg:Expr}{ifs:List Expr}{scope:Scope}{pos:Pos}{N:List Str}{fr:List (Option Nat)}{g:TG}{te:TE}{tc:TT}{wi:TI}
def UY(X:Cx)(ifs:List Expr)(t:TT):Prop:=
 ∀(pins:List (Addr×Obj)) (s:Shared) (σ:L2.St) (H:Hp) (Q:Bool->Hp->Prop),Inv X pins σ H s->t σ H Q->wpAny (model X.prog X.w) X.A (tests ifs X.env) (TP X pins σ Q) X.xe s
theorem Td:UY X [] (λσ H Q=>Q true H):=λpins s σ H Q I h=>wpAny_tests_nil ⟨H,I,h⟩
theorem Tc(h:PT X c tc):UY X [c] tc:=λpins s σ H Q I k=>wpAny_tests_one (h pins s σ H Q I k)
def Rt(J:It)(g:TG)(tc:TT)(te:TE)(σ0:L2.St)(H0:Hp)(Q:List V->Hp->Prop):Prop:=∃W:Nat->List V->Nat->L2.St->Hp->Prop,(∃m,W 0 [] m σ0 H0)/\∀i acc m σ' H',W i acc m σ' H'->
 (J.stop i H'/\Q acc H')\/(J.go i H'/\acc.length < sizeLine/\∀x H2,J.Mz i H' x H2->g x σ' H2 λσ2 H3=>tc σ2 H3 λb H4=>if b=true then te σ2 H4 λy H5=>∃m',m' < m/\W (i+1) (acc++[y]) m' σ2 H5 else ∃m',m' < m/\W (i+1) acc m' σ2 H4)
theorem Rl{pins:List (Addr×Obj)}{σ:L2.St}{H:Hp}{s:Shared}{J:It}{fp:List Addr}{it:Addr}{tn:Nat->Heap->Prop}{Q:List V->Hp->Prop}{E:Value->Shared->Prop}(hc:X.calm=true)(ok:DV X.N X.env.scope N scope fr)
 (hb:∀C s H fp,PG (AV X N scope C s H fp) tg g/\PE (AV X N scope C s H fp) elt te/\UY (AV X N scope C s H fp) ifs tc)(I:Inv X pins σ H s)(T:Turn X.prog X.w X.K tg J fp it tn)(t0:tn 0 s.heap)(hf:∀b∈fp,G4 X pins H b)
 (hW:Rt J g tc te (Cf fr σ) H Q):
 wpAny (model X.prog X.w) X.A (newList []) (λacc s₃=>wpAny (model X.prog X.w) X.A (newFunctionEnv scope X.env.globals (KW X.env.cells scope.names []) [] X.env.qual none .none (some X.env)) (λcenv s₄=>
  codeAny (model X.prog X.w) X.A (.compStart (.ListComp elt [⟨tg,iter,ifs,0⟩] scope pos) 0 (.ref it) acc {cenv with scope:=relabel scope X.env}) (CompEnd X pins σ Q acc cenv.locals) s₄) E s₃) E s:=by
 have hfl:∀b∈fp,b < s.heap.objs.size:=λb hb=>by
  obtain⟨o,e,_⟩:=T.obj 0 _ t0 b hb;exact Heap.lt_size e
 refine wpAny_newObj_type (wpAny_newFunctionEnv ok.J3 (by intro y hy;simp at hy) (λh₁ hns₁ hsb₁=>?_) ok.kind);dsimp only at hns₁ hsb₁ ⊢;generalize hH2:s.heap.push {cls:=.type "list",dict:=none,data:=.seq ([]:List Value).toArray}=H2 at hns₁ hsb₁ ⊢;have hC:H2.objs.size=s.heap.objs.size+1:=by rw[<-hH2,Heap.size_push]
 have hDC:s.heap.objs.size≠H2.objs.size:=by rw[hC];exact Nat.ne_of_lt (Nat.lt_succ_self _)
 have hCle:s.heap.objs.size<=H2.objs.size:=by rw[hC];exact Nat.le_succ _
 have old:∀b o,s.heap.get? b=some o->h₁.get? b=some o:=λb o e=>
  hsb₁.extBut b o (by rw[hC];exact Nat.ne_of_lt (Nat.lt_succ_of_lt (Heap.lt_size e))) (gP (hH2▸gP e))
 have hacc:h₁.get? s.heap.objs.size=some {cls:=.type "list",dict:=none,data:=.seq ([]:List Value).toArray}:=hsb₁.extBut _ _ hDC (gP (hH2▸Heap.get?_push_size _ rfl));obtain⟨W,⟨m0,w0⟩,turn⟩:=hW;obtain⟨hg,he,ht⟩:=hb H2.objs.size s H fp;have I1:=Rf (N:=N) (fr:=fr) (tk:=s.toks+([]:List (Str×Value)).length) I ok hf hfl hCle hns₁ old;have hDfp:s.heap.objs.size∉fp:=λz=>Nat.lt_irrefl _ (hfl _ z)
 have fpx:∀{H':Hp} {ps:List (Addr×Obj)},(∀b∈fp,H' b=none)->(∀p∈ps,p.1=s.heap.objs.size)->∀b∈fp,G4 (AV X N scope H2.objs.size s H fp) ps H' b:=λ{H' ps} hn hp b hb=>
  ⟨hn b hb,(I1.ok.bQ b hb).1,I1.ok.QX b hb,.inl hb,(I1.ok.bQ b hb).2,λp hp' z=>by
   have hp':p∈([]:List (Addr×Obj))++ps:=hp';rw[nil_append]at hp'
   exact hDfp (by rw[<-hp p hp',z];exact hb)⟩
 have loop :∀s₃:Shared,s₃={s with heap:=h₁,toks:=s.toks + ([]:List (Str×Value)).length}->
  codeAny (model X.prog X.w) X.A (.compLoop (.ListComp elt [⟨tg,iter,ifs,0⟩] scope pos) 0 (.ref it) (.ref s.heap.objs.size) (compEnvC scope (KW X.env.cells scope.names []) H2.objs.size X.env))
   (CompEnd X pins σ Q (.ref s.heap.objs.size) H2.objs.size) s₃:=by
  rintro s₃ rfl
  refine LQ (λn s'=>∃i acc its k σ' H',Inv (AV X N scope H2.objs.size s H fp) [(s.heap.objs.size,({cls:=.type "list",data:=.seq its k}:Obj))] σ' H' s'/\tn i s'.heap/\(∀b∈fp,H' b=none)/\acc.length<=sizeLine/\Vals acc its.toList/\W i acc n σ' H') ?_ m0
   ⟨0,[],#[],0,Cf fr σ,H,?_,?_,λb hb=>(hf b hb).1,Nat.zero_le _,.nil,w0⟩
  .rintro n s3 ⟨i,acc,its,k,σ3,H3,I3,st3,fr3,hz3,va3,w3⟩
   have pinD:=I3.pin _ (mR mS);rcases turn i acc n σ3 H3 w3 with⟨stop,q⟩|⟨go,hlen,step⟩
   .refine Bf (T.done (AV X N scope H2.objs.size s H fp) rfl rfl rfl hc i _ s3 σ3 H3 _ I3 (fpx fr3 (by simp)) st3 stop) λr s4 ⟨hr,I4⟩=>?_
    subst hr;have p4:=I4.pin _ (mR mS);have J4:Inv X pins σ H3 s4:=I.W0 (ch:=fp) I4.os I4.base I4.Af I4.bare λb hb=>⟨(hf b hb).2.2.2.1,(hf b hb).2.1,(hf b hb).2.2.2.2.1,(hf b hb).2.2.2.2.2⟩
    have fD:G4 X pins H3 s.heap.objs.size:=I.M8 (lR) p4.2.1;have e4:s4.heap.get? s.heap.objs.size=some {cls:=.type "list",data:=.seq its.toList.toArray k}:=by simpa using p4.1
    refine⟨rfl,_,H3,acc,rfl,p4.2.1,J4.Z4 fD hz3 va3 e4,?_,I.M8 hCle ?_,q⟩
    .obtain⟨m,hn,_⟩:=I4.loc;exact⟨m,hn⟩
    .rw[An (Ne.symm hDC)];exact I4.free
   .refine Bf (T.item (AV X N scope H2.objs.size s H fp) rfl rfl rfl hc i _ s3 σ3 H3 _ I3 (fpx fr3 (by simp)) st3 go) λr s4 ⟨u,hr,h4⟩=>?_
    subst hr;refine Bf h4 λ_ s5 ⟨x,H5,I5,r5,y5,st5,fr5⟩=>?_
    have I5':=I5.pinned (fpx fr5 (by simp)) (T.obj _ _ st5);refine Bf (hg _ s5 σ3 H5 x u _ I5' r5 (step x H5 y5)) λ_ s6 ⟨σ6,H6,I6,q6⟩=>?_
    refine Bf (ht _ s6 σ6 H6 _ I6 q6) λok s6' ⟨H6',I6',q6'⟩=>?_
    cases ok with
    |false=>
      rw[iN Bool.false_ne_true]at q6' ⊢;obtain⟨m',hm,w7⟩:=q6';have p7:=I6'.pin _ (mR (mL mS));refine⟨m',hm,i+1,acc,its,k,σ6,H6',?_,?_,λb hb=>?_,hz3,va3,w7⟩
      .refine(I6'.DL (pins':=[]) λp hp=>absurd hp (by simp)).DL λp hp=>?_
       have:p=(s.heap.objs.size,({cls:=.type "list",data:=.seq its k}:Obj)):=by simpa using hp
       subst this;exact p7
      .refine T.keep _ _ _ st5 λb hb o e=>?_
       exact(I6'.pin (b,o) (mR (mR (Ck hb e)))).1
      .obtain⟨o,e,d⟩:=T.obj _ _ st5 b hb;exact(I6'.pin (b,o) (mR (mR (Ck hb e)))).2.1
    |true=>
    rw[iP rfl]at q6' ⊢;refine Bf (he _ s6' σ6 H6' _ I6' q6') λy s7 ⟨z,H7,I7,r7,q7⟩=>?_
    obtain⟨m',hm,w7⟩:=q7;have p7:=I7.pin _ (mR (mL mS));have hsz:its.size=acc.length:=by rw[va3.length];simp
    refine wpAny_list_append_plain (hsz:=by rw[hsz];exact hz3) ⟨k,p7.1⟩ λh₅ hl₅ hs₅=>?_
    obtain⟨k',e5⟩:=hl₅;refine⟨m',hm,i+1,acc++[z],its.push y,k',σ6,H7,?_,?_,λb hb=>?_,?_,?_,w7⟩
    .have J7:Inv (AV X N scope H2.objs.size s H fp) [] σ6 H7 s7:=I7.DL λp hp=>absurd hp (by simp)
     have J8:Inv (AV X N scope H2.objs.size s H fp) [] σ6 H7 {s7 with heap:=h₅}:=by
      refine J7.turned (t':=s7.toks) (it:=s.heap.objs.size) (λb o hb e=>(hs₅.2 b hb).trans e) p7.2.1 p7.2.2.1 (.inr (lR)) (λx c e z=>?_) λp hp=>absurd (show p∈([]:List (Addr×Obj))from hp) (by simp)
      obtain⟨v,oc,hoc,hod⟩:=J7.cell x c e;rw[z,p7.1]at hoc;cases hoc;cases hod
     refine J8.DL λp hp=>?_
     have:p=(s.heap.objs.size,({cls:=.type "list",data:=.seq (its.push y) k'}:Obj)):=by simpa using hp
     subst this;exact⟨e5,p7.2.1,p7.2.2.1,p7.2.2.2.1,λv z=>by cases z⟩
    .refine T.keep _ _ _ st5 λb hb o e=>?_
     have q:=(I7.pin (b,o) (mR (mR (Ck hb e)))).1;exact(hs₅.2 b (λz=>hDfp (z▸hb))).trans q
    .obtain⟨o,e,d⟩:=T.obj _ _ st5 b hb;exact(I7.pin (b,o) (mR (mR (Ck hb e)))).2.1
    .rw[lA,lS];exact hlen
    .rw[Array.toList_push];exact Vals.append va3 (.cons r7 .nil)
  .refine I1.DL λp hp=>?_
   have:p=(s.heap.objs.size,({cls:=.type "list",data:=.seq #[] 0}:Obj)):=by simpa using hp
   subst this
   exact⟨hacc,I.Af.fresh (lR),hDC,λz=>I.ah (lR) (by
    rcases mK (I.IP _ z)with e|e
    .exact absurd I.lt (by rw[<-e];exact Nat.lt_irrefl _)
    .exact e),λv z=>by cases z⟩
  .exact T.keep _ _ _ t0 λb _ o e=>old b o e
 refine codeAny_compStart_list (loop _ rfl) ?_;exact T.self _ 0 _ _ _ (T.keep _ _ _ t0 λb _ o e=>old b o e) (loop _ rfl)
def IJ(wi:TI)(g:TG)(tc:TT)(te:TE)(fr:List (Option Nat)):TE:=λσ H Q=>wi σ H λJ H1=>Rt J g tc te (Cf fr σ) H1 λxs H'=>∀p,H' p=none->Q (.ref p) (upd H' p (.lst xs))
theorem PZ(N:List Str)(fr:List (Option Nat))(hc:X.calm=true)(ok:DV X.N X.env.scope N scope fr)(hi:PI X tg iter wi)(hb:∀C s H fp,PG (AV X N scope C s H fp) tg g/\PE (AV X N scope C s H fp) elt te/\UY (AV X N scope C s H fp) ifs tc)
 (hs:∀x,foldedSetIterable iter X.env x=pure x:=by intro _;rfl):PE X (.ListComp elt [⟨tg,iter,ifs,0⟩] scope pos) (IJ wi g tc te fr):=by
 intro pins s σ H Q I h;rw[eval_ListComp];refine wpAny_comprehension_free (use:=none) rfl hs (Ej λy hy e=>I.ok.has y.1 (ok.free y hy e)) ok.kind ok.own ?_;refine Bf (hi pins s σ H _ I h) λv s1 h1=>Bf h1 λitv s2 h2=>?_
 obtain⟨it,fp,tn,J,H2,e,I2,T,st2,f2,hW⟩:=h2;subst e;refine Bf (Rl (pos:=pos) (iter:=iter) (E:=X.xe) hc ok hb I2 T st2 f2 hW) λacc s3 h3=>Bf h3 λcenv s4 h4=>?_
 refine codeAny_mono h4 λr s5 h5=>?_
 obtain⟨rfl,D,H',xs,rfl,hD,I5,⟨m,hn⟩,fC,q⟩:=h5;refine⟨m,hn,λh' hs'=>⟨.ref D,_,I5.turned (t':=s5.toks) (it:=cenv.locals) (λb o hb e=>(hs'.2 b hb).trans e) fC.1 fC.2.1 fC.2.2.2.1 fC.2.2.2.2.1 fC.2.2.2.2.2,rfl,q D hD⟩⟩
theorem PD{i:Nat}{y:Str}{py spos:Pos}(N:List Str)(fr:List (Option Nat))(hN:X.N.Nodup)(hy:X.N[i]? =some y)(hl:X.env.scope.names.lookup y=some .local)(hc:X.calm=true)(ok:DV X.N X.env.scope N scope fr)(hi:PI X tg iter wi)
 (hb:∀C s H fp,PG (AV X N scope C s H fp) tg g/\PE (AV X N scope C s H fp) elt te/\UY (AV X N scope C s H fp) ifs tc)
 (hsw:swapsWith (.ListComp elt [⟨tg,iter,ifs,0⟩] scope pos) (some (.Name y py)) spos.line X.env=pure true:=by rfl)
 (hs:∀x,foldedSetIterable iter X.env x=pure x:=by intro _;rfl):PS X (.Assign [.Name y py] (.ListComp elt [⟨tg,iter,ifs,0⟩] scope pos) spos) (P4 (IJ wi g tc te fr) (EH i)):=by
 intro pins s σ H Q I h;rw[exec_Assign_Name_used _ _ _ _ hsw];refine wB (wpAny_standAt (wB ?_));show wpAny _ X.A (do let _ <-comprehension (.ListComp elt [⟨tg,iter,ifs,0⟩] scope pos) scope X.env _ (newList []) false (eval iter X.env) (some (assign (.Name y py) X.env))) _ _ s;refine wB (wpAny_mono (wpAny_comprehension_free (use:=some (assign (.Name y py) X.env)) (Q:=λ_ s'=>SP X pins Q .next s') rfl hs (Ej λy hy e=>I.ok.has y.1 (ok.free y hy e)) ok.kind ok.own ?_) (λ_ s' hq=>wP (wP hq)) λ_ _ e=>e);refine Bf (hi pins s σ H _ I h) λv s1 h1=>Bf h1 λitv s2 h2=>?_
 obtain⟨it,fp,tn,J,H2,e,I2,T,st2,f2,hW⟩:=h2;subst e;refine Bf (Rl (pos:=pos) (iter:=iter) (E:=X.xe) hc ok hb I2 T st2 f2 hW) λacc s3 h3=>Bf h3 λcenv s4 h4=>?_
 refine codeAny_mono h4 λr s5 h5=>?_
 obtain⟨rfl,D,H',xs,rfl,hD,I5,⟨m,hn⟩,fC,q⟩:=h5;show wpAny _ X.A (assign (.Name y py) X.env (.ref D)) _ _ _;refine wpAny_assign_Name (HS (v:=.ref D) I5 hN hy (.inl hl) rfl (λs6 I6 hsb=>?_) (.inr hl));obtain⟨a,sb,ha⟩:=hsb
 have hCa:cenv.locals≠a:=by
  rcases ha with e|e
  .rw[e];exact fC.2.1
  .exact λz=>fC.2.2.2.2.1 _ _ e z.symm
 refine⟨m,hn.sameBut sb hCa,λh' hs'=>?_⟩;exact⟨_,_,I6.turned (t':=s6.toks) (it:=cenv.locals) (λb o hb e=>(hs'.2 b hb).trans e) fC.1 fC.2.1 fC.2.2.2.1 fC.2.2.2.2.1 fC.2.2.2.2.2,q D hD⟩
end
end Iv
namespace Iv
open PySem L2
variable{ρ:Env}
theorem EF{i:Nat}(e:A8 ρ i=none):ρ.set i none=ρ:=by
 apply ext_getElem?;intro j;rw[List.getElem?_set];split
 .rename_i hj;subst hj;split
  .rename_i hl;unfold A8 at e;rw[List.getElem?_eq_getElem hl]at e ⊢;have e:ρ[i]=none:=e;rw[e]
  .rename_i hl;rw[List.getElem?_eq_none (by lia)]
 .rfl
variable{j:Nat}
theorem Ed{i:Nat}(h:i≠j):A8 (ρ.set i x) j=A8 ρ j:=by
 unfold A8;rw[List.getElem?_set_ne h]
variable{W:Wd}{H:Hp}
variable{fr:List (Option Nat)}
theorem AM{o:Option Nat}:(o::fr).filterMap id=(match o with|some i=>[i]|none=>[])++fr.filterMap id:=by
 cases o<;>simp
theorem L5{i:Nat}(h:i∉fr.filterMap id):AR fr (ρ.set i none)=AR fr ρ:=by
 unfold AR;apply map_congr_left;intro o ho;cases o with
 |none=>rfl
 |some j=>
   show A8 (ρ.set i none) j=A8 ρ j;refine Ed λz=>h ?_
   subst z;exact mem_filterMap.mpr ⟨some i,ho,rfl⟩
theorem Fc:∀{fr:List (Option Nat)} {ρ:Env} {σ:L2.St} {os:List Addr},(fr.filterMap id).Nodup->Aa W H ρ σ os->∃ob or_,Aa W H (AR fr ρ) (Cf fr σ) ob/\Aa W H (By fr ρ) σ or_/\(ob++or_).Perm os
 |[],ρ,σ,os,_,hR=>⟨[],os,⟨rfl,rfl⟩,hR,.refl _⟩
 | none::fr,ρ,σ,os,hn,hR=>by
   obtain⟨ob,or_,h1,h2,h3⟩:=Fc (fr:=fr) (by simpa[AM]using hn) hR;exact⟨ob,or_,⟨none,Cf fr σ,rfl,h1⟩,by unfold By at h2 ⊢;simpa[AM]using h2,h3⟩
 | some i::fr,ρ,σ,os,hn,hR=>by
   rw[AM]at hn;have hn:=nA hn;have hi:i∉fr.filterMap id:=λz=>hn.2.2 i mS i z rfl
   cases hg:A8 ρ i with
   |none=>
     obtain⟨ob,or_,h1,h2,h3⟩:=Fc (fr:=fr) hn.2.1 hR;refine⟨ob,or_,?_,?_,h3⟩
     .show Aa W H (A8 ρ i::AR fr ρ) _ _;rw[hg];exact⟨_,Cf fr σ,rfl,h1⟩
     .unfold By at h2 ⊢;rw[AM,List.foldl_append];show Aa W H ((fr.filterMap id).foldl _ (ρ.set i none)) _ _;rw[EF hg];exact h2
   |some c=>
     obtain⟨v,o,osr,t1,t2,t3,t4⟩:=hR.take hg;obtain⟨ob,or_,h1,h2,h3⟩:=Fc (fr:=fr) hn.2.1 t3;rw[L5 hi]at h1;refine⟨o++ob,or_,?_,?_,?_⟩
     .show Aa W H (A8 ρ i::AR fr ρ) _ _;rw[hg];refine⟨v,Cf fr σ,o,ob,?_,t2,h1,rfl⟩;show(σ[i]?).join::Cf fr σ=_;rw[t1];rfl
     .unfold By at h2 ⊢;rw[AM,List.foldl_append];exact h2
     .rw[append_assoc];exact(h3.append_left o).trans t4
theorem Fo:∀{fr:List (Option Nat)} {β ρ:Env} {τ σ:L2.St} {ob or_:List Addr},(fr.filterMap id).Nodup->Aa W H β τ ob->Aa W H ρ σ or_->(∀i∈fr.filterMap id,A8 ρ i=none)->(∀(j i:Nat),fr[j]? =some (some i)->τ[j]? =some ((σ[i]?).join))->(ob++or_).Nodup->
 ∃os',Aa W H (As ρ fr β) σ os'/\os'.Nodup/\∀a∈os',a∈ob++or_
 |[],β,ρ,τ,σ,ob,or_,_,_,hR,_,_,hn=>⟨or_,by cases β<;>exact hR,(nA hn).2.1,λa ha=>mR ha⟩
 |none::fr,[],ρ,τ,σ,ob,or_,_,_,hR,_,_,hn=>⟨or_,hR,(nA hn).2.1,λa ha=>mR ha⟩
 |some i::fr,[],ρ,τ,σ,ob,or_,_,_,hR,_,_,hn=>⟨or_,hR,(nA hn).2.1,λa ha=>mR ha⟩
 | none::fr,x::β,ρ,τ,σ,ob,or_,hd,hB,hR,he,ht,hn=>by
   have hd':(fr.filterMap id).Nodup:=by simpa[AM]using hd
   have he':∀i∈fr.filterMap id,A8 ρ i=none:=λi hi=>he i (by rw[AM];exact mR hi)
   cases x with
   |none=>
     obtain⟨y,r,rfl,hB⟩:=hB;show ∃os',Aa W H (As ρ fr β) σ os'/\_;exact Fo hd' hB hR he' (λj i e=>by simpa using ht (j+1) i (by simpa using e)) hn
   |some c=>
     obtain⟨v,r,o,o2,rfl,hc,hB,rfl⟩:=hB;show ∃os',Aa W H (As ρ fr β) σ os'/\_
     have hn':(o2++or_).Nodup:=by
      rw[append_assoc]at hn;exact(nA hn).2.1
     obtain⟨os',h1,h2,h3⟩:=Fo hd' hB hR he' (λj i e=>by simpa using ht (j+1) i (by simpa using e)) hn';exact⟨os',h1,h2,λa ha=>by rw[append_assoc];exact mR (h3 a ha)⟩
 | some i::fr,x::β,ρ,τ,σ,ob,or_,hd,hB,hR,he,ht,hn=>by
   rw[AM]at hd;have hd:=nA hd;have hi:i∉fr.filterMap id:=λz=>hd.2.2 i mS i z rfl
   have hei:A8 ρ i=none:=he i (by rw[AM];exact mL mS)
   have he':∀{y:Option C},∀k∈fr.filterMap id,A8 (ρ.set i y) k=none:=λ{y} k hk=>by
    have hne:i≠k:=λz=>hi (by rw[z];exact hk)
    rw[Ed hne];exact he k (by rw[AM];exact mR hk)
   have hti:=ht 0 i rfl;cases x with
   |none=>
     obtain⟨y,r,rfl,hB⟩:=hB;show ∃os',Aa W H (As (ρ.set i none) fr β) σ os'/\_;have hR':Aa W H (ρ.set i none) σ or_:=by rw[EF hei];exact hR
     exact Fo hd.2.1 hB hR' he' (λj i e=>by simpa using ht (j+1) i (by simpa using e)) hn
   |some c=>
     obtain⟨v,r,o,o2,rfl,hc,hB,rfl⟩:=hB
     have hσ:σ[i]? =some (some v):=by
      have hti:some (some v)=some ((σ[i]?).join):=hti;cases q:σ[i]? with
      |none=>rw[q]at hti;cases hti
      |some z=>rw[q]at hti;exact congrArg some (Option.some.inj hti).symm
     have hil:i < ρ.length:=by
      rw[<-hR.length];exact(List.getElem?_eq_some_iff.mp hσ).1
     obtain⟨os2,u1,u2⟩:=Aa.fill hc hR hei hil;rw[set_same hσ]at u1;show ∃os',Aa W H (As (ρ.set i (some c)) fr β) σ os'/\_
     have hp:(o2++os2).Perm ((o++o2)++or_):=by
      refine(u2.append_left o2).trans ?_;rw[<-append_assoc];exact perm_append_comm.append_right or_
     obtain⟨os',h1,h2,h3⟩:=Fo hd.2.1 hB u1 he' (λj i e=>by simpa using ht (j+1) i (by simpa using e)) (hp.nodup_iff.mpr hn);exact⟨os',h1,h2,λa ha=>hp.subset (h3 a ha)⟩
theorem NN:(By fr ρ).length=ρ.length:=EJ
theorem Ll{i:Nat}(h:i∈fr.filterMap id):A8 (By fr ρ) i=none:=Ee h
theorem OU{i:Nat}(h:i∉fr.filterMap id):A8 (By fr ρ) i=A8 ρ i:=Fu h
theorem J0{i:Nat}:∀{fr:List (Option Nat)} {ρ β:Env},i∉fr.filterMap id->A8 (As ρ fr β) i=A8 ρ i
 |[],ρ,β,_=>by cases β<;>rfl
 |none::fr,ρ,[],_=>rfl
 |some j::fr,ρ,[],_=>rfl
 |none::fr,ρ,x::β,h=>J0 (fr:=fr) (by simpa[AM]using h)
 | some j::fr,ρ,x::β,h=>by
   rw[AM]at h;have h1:i∉fr.filterMap id:=λz=>h (mR z)
   have h2:j≠i:=λz=>h (mL (by rw[z];exact mS))
   show A8 (As (ρ.set j x) fr β) i=_;rw[J0 h1,Ed h2]
theorem LH{i:Nat}{x:Option C}:∀{fr:List (Option Nat)} {ρ β:Env} {j:Nat},(fr.filterMap id).Nodup->fr[j]? =some (some i)->β[j]? =some x->i < ρ.length->A8 (As ρ fr β) i=x
 |[],_,_,_,_,e,_,_=>by simp at e
 |o::fr,ρ,[],j,_,_,e,_=>by simp at e
 |none::fr,ρ,y::β,0,_,e,_,_=>by simp at e
 |none::fr,ρ,y::β,j+1,hn,e,e2,hl=>LH (fr:=fr) (j:=j) (by simpa[AM]using hn) (by simpa using e) (by simpa using e2) hl
 | some k::fr,ρ,y::β,0,hn,e,e2,hl=>by
   rw[AM]at hn;have hn:=nA hn;simp at e e2;subst e e2;show A8 (As (ρ.set k y) fr β) k=y;rw[J0 (λz=>hn.2.2 k mS k z rfl),BS hl]
 | some k::fr,ρ,y::β,j + 1,hn,e,e2,hl=>by
   rw[AM]at hn;have hn:=nA hn;exact LH (fr:=fr) (j:=j) (ρ:=ρ.set k y) hn.2.1 (by simpa using e) (by simpa using e2) (by rw[length_set];exact hl)
theorem LZ{i:Nat}(h:inner fr i=some j):fr[j]? =some (some i):=by
 unfold inner at h;obtain⟨hj,h1,_⟩:=List.findIdx?_eq_some_iff_getElem.mp h;rw[List.getElem?_eq_getElem hj];exact congrArg some (by simpa using h1)
theorem Hj{i:Nat}(h:inner fr i=none):i∉fr.filterMap id:=λz=>by
 unfold inner at h;obtain⟨o,ho,e⟩:=mem_filterMap.mp z;have e:o=some i:=e;subst e;have:=List.findIdx?_eq_none_iff.mp h _ ho;simp at this
variable{σ:L2.St}
theorem HM{g:Tg}(h:Br g fr=true):(fr.filterMap id).Nodup/\∀j∈g.slots,fr[j]? =some none:=by
 unfold Br at h;rw[bA]at h;exact⟨of_decide_eq_true h.1,λj hj=>of_decide_eq_true (all_eq_true.mp h.2 j hj)⟩
theorem QS{i:Nat}(e:fr[j]? =some (some i)):(Cf fr σ)[j]? =some ((σ[i]?).join):=by
 unfold Cf;rw[List.getElem?_map,e];rfl
theorem UA{k:IK}{F:Env->Res (List Hd)}{B:Env->Res Bool}{E:Env->Res C}{Q:VK}(h:tG W (rV W) (λρ=>(F ρ).bind (Dd k g fr B E)) σ H Q):
 IJ (NM W k F) (gT W g) (tG W rB B) (tG W (rV W) E) fr σ H Q:=by
 obtain⟨ρ,os,hR,hn,hA⟩:=h;dsimp only at hA;refine⟨ρ,os,hR,hn,?_⟩;unfold Cs;cases eF:F ρ with
 |stuck=>rw[eF]at hA;exact hA
 |ok hs ρ1=>
   rw[eF,Res.A5]at hA;intro vs H1 o1 os1 h1 h2 h3 h4;have hA:=Cs.shift hA h4;unfold Dd at hA;cases ec:Am ρ1 hs with
   |none=>rw[ec]at hA;exact hA.elim
   |some cs=>
   rw[ec]at hA;dsimp only at hA;cases ex:Ae k cs with
   |none=>rw[ex]at hA;exact hA.elim
   |some xs=>
   rw[ex]at hA;dsimp only at hA;refine⟨cs,xs,DE h2 h1 ec,ex,λJ hJ=>?_⟩;split at hA
   case isFalse=>exact hA.elim
   rename_i hgd;rw[bA,bA]at hgd;obtain⟨⟨hgf,hbk⟩,hbig⟩:=hgd;have hbig:xs.length<=big:=of_decide_eq_true hbig;obtain⟨hnd,hsl⟩:=HM hbk;cases eL:CW g (B8 fr hs cs) B E xs [] (AR fr ρ1)with
   |stuck=>rw[eL]at hA;exact hA.elim
   |ok ys βf=>
   rw[eL]at hA;have hA:∀v H' o os',Bk W H' (.lst ys) v o->Aa W H' (As (By fr ρ1) fr βf) σ os'->(o++os').Nodup->Ba H1 H' (o1++os1) (o++os')->Q v H':=hA;obtain⟨ob,or_,s1,s2,s3⟩:=Fc hnd h2;have n3:=nA h3;have nob:=nA (s3.nodup_iff.mpr n3.2.1);have hlen:(Cf fr σ).length=fr.length:=by unfold Cf;rw[lM]
   have whole:∀{H':Hp} {β:Env} {τ:L2.St} {ob':List Addr},Aa W H' β τ ob'->ob'.Nodup->Ba H1 H' ob ob'->AQ g.slots (Cf fr σ) τ->∃os',Aa W H' (As (By fr ρ1) fr β) σ os'/\os'.Nodup/\∀a∈os',a∈ob'++or_:=by
    intro H' β τ ob' r1 r2 r3 r4;have k1:B0 H1 H':=r3.but.keep s1.own;have s2':Aa W H' (By fr ρ1) σ or_:=s2.frame k1 r3.but λa ha z=>nob.2.2 a z a ha rfl
    refine Fo hnd r1 s2' (λi hi=>Ll hi) (λj i e=>?_) ?_
    .rw[r4.2 j (λz=>by rw[hsl j z]at e;cases e)];exact QS e
    .rw[nodup_append];refine⟨r2,nob.2.1,λa ha b hb z=>?_⟩;subst z;rcases r3.src a ha with y|y
     .exact nob.2.2 a y a hb rfl
     .obtain⟨x,e,_⟩:=s2.own a hb;rw[y]at e;cases e
   have rd : ∀ {H':Hp} {β:Env} {τ:L2.St} {ob':List Addr},Aa W H' β τ ob'->ob'.Nodup->Ba H1 H' ob ob'->AQ g.slots (Cf fr σ) τ->holds (B8 fr hs cs) β=true->E3 W H' cs vs:=by
    intro H' β τ ob' r1 r2 r3 r4 hh;obtain⟨os',w1,w2,w3⟩:=whole r1 r2 r3 r4;refine IW w1 (r3.but.keep s1.own) r3.but h1 ec h2 hgf (λq hq=>⟨?_,rfl⟩) λa ha z=>n3.2.2 a ha a (s3.subset (mL z)) rfl
    have hq':A8 ρ1 q.1=some q.2:=by
     unfold guards at hq;obtain⟨p,hp,e⟩:=mem_filterMap.mp hq;split at e
     .cases e
     .split at e
      .rename_i i hi;cases e
       have:∀{hs:List Hd} {cs:List C},Am ρ1 hs=some cs->p∈hs.zip cs->p.1.cont ρ1=some p.2:=by
        intro hs
        induction hs with
        |nil=>intro cs _ hp;simp at hp
        |cons h hs ih=>
          intro cs e hp;unfold Am at e;obtain⟨c,ec,e⟩:=oB e;obtain⟨ds,ed,rfl⟩:=oM e;rw[zip_cons_cons]at hp;rcases mK hp with z|z
          .rw[z];exact ec
          .exact ih ed z
       have z:=this ec hp;rw[hi]at z;exact z
      .cases e
    have hlt:q.1 < (By fr ρ1).length:=by rw[NN];exact D9 hq'
    cases hin:inner fr q.1 with
    |none=>rw[J0 (Hj hin),OU (Hj hin)];exact hq'
    |some j=>
      have hm:(j,q.2)∈B8 fr hs cs:=by
       unfold B8;exact mem_filterMap.mpr ⟨q,hq,by rw[hin];rfl⟩
      have hj:=Ik hh _ hm;have hj:A8 β j=some q.2:=hj
      have hjβ:β[j]? =some (some q.2):=by
       unfold A8 at hj;cases z:β[j]? with
       |none=>rw[z]at hj;cases hj
       |some y=>rw[z]at hj;exact congrArg some hj
      exact LH hnd (LZ hin) hjβ hlt
   refine⟨λi acc m τ H'=>m=xs.length - i/\i<=xs.length/\∃β ob' accP,Aa W H' β τ ob'/\ob'.Nodup/\Ba H1 H' ob ob'/\AQ g.slots (Cf fr σ) τ/\A7 W H' accP acc/\accP.length<=i/\CW g (B8 fr hs cs) B E (xs.drop i) accP β= .ok ys βf,
    ⟨xs.length,rfl,Nat.zero_le _,AR fr ρ1,ob,[],s1,nob.1,Ba.refl _ _,AQ.refl _ _,.nil,lR,eL⟩,?_⟩
   rintro i acc m τ H' ⟨rfl,hi,β,ob',accP,r1,r2,r3,r4,r5,r6,r7⟩
   by_cases hlt:i < xs.length
   .rw[List.drop_eq_getElem_cons hlt]at r7;unfold CW at r7;split at r7
    case isFalse=>cases r7
    rename_i hh;have hrd:=rd r1 r2 r3 r4 hh;refine .inr ⟨hJ.go i H' hrd hlt,?_,λx H2 hy=>?_⟩
    .rw[r5.length];exact Nat.lt_of_le_of_lt r6 (Nat.lt_of_lt_of_le hlt (Nat.le_trans hbig BP))
    obtain⟨sm,p,ep,rp⟩:=hJ.Mz i H' x H2 hrd hlt hy;rw[List.getElem?_eq_getElem hlt]at ep;cases ep;cases eT:Dp g xs[i] β with
    |none=>rw[eT]at r7;cases r7
    |some β1=>
    rw[eT,Res.J1,Res.A5]at r7;refine VU eT rp (r1.same sm) r2 (λj hj=>?_) λτ2 ob2 g1 g2 g3 g4=>?_
    .have e:=hsl j hj;have:τ.length=fr.length:=r4.1.trans hlen;rw[this];exact(List.getElem?_eq_some_iff.mp e).1
    have fr2:Ba H1 H2 ob ob2:=(r3.trans (Ba.of sm λa ha=>.inl ha)).sub g3;have un2:AQ g.slots (Cf fr σ) τ2:=r4.trans g4;refine⟨β1,ob2,g1,g2,?_⟩;unfold Cs;cases eB:B β1 with
    |stuck=>rw[eB]at r7;cases r7
    |ok b β2=>
    rw[eB,Res.A5]at r7;intro b' H4 o4 os4 rb hR4 hn4 fr4;obtain⟨rfl,rfl⟩:=rb;have fr4':Ba H1 H4 ob os4:=fr2.trans fr4;have kp4:B0 H' H4:=(B0.of sm).trans (fr4.but.keep g1.own);cases b with
    |false=>
      rw[iN Bool.false_ne_true]at r7 ⊢;exact⟨xs.length-(i+1),by lia,rfl,hlt,β2,os4,accP,hR4,hn4,fr4',un2,r5.mono kp4,by lia,r7⟩
    |true=>
      rw[iP rfl]at r7 ⊢;refine⟨β2,os4,hR4,hn4,?_⟩;unfold Cs;cases eE:E β2 with
      |stuck=>rw[eE]at r7;cases r7
      |ok c β3=>
      rw[eE,Res.A5]at r7;intro y H5 o5 os5 rc hR5 hn5 fr5;cases c with
      |obj _ _=>cases r7
      |b bb=>
      cases bb with
      |lst _=>cases r7
      |AB _=>cases r7
      |ro _=>cases r7
      |p yp=>
      have r7:CW g (B8 fr hs cs) B E (xs.drop (i+1)) (accP++[yp]) β3= .ok ys βf:=r7;obtain⟨rp5,rfl⟩:=(show Al W H5 yp y/\o5=[]from rc);have kp5:B0 H' H5:=kp4.trans (fr5.but.keep hR4.own);refine⟨xs.length-(i+1),by lia,rfl,hlt,β3,os5,accP++[yp],hR5,hn5,fr4'.trans fr5,un2,A7.append (.cons rp5 .nil) (r5.mono kp5),?_,r7⟩;rw[lA,lS]
      lia
   .have e:i=xs.length:=by lia
    subst e;rw[List.drop_length]at r7;unfold CW at r7;split at r7
    case isFalse=>cases r7
    rename_i hh;cases r7;refine .inl ⟨hJ.stop H' (rd r1 r2 r3 r4 hh),λp hp=>?_⟩;obtain⟨os',w1,w2,w3⟩:=whole r1 r2 r3 r4;have sm:D2 H' (upd H' p (.lst acc)):=λb o e=>by rw[An (AO e hp)];exact e
    have hpos:p∉os':=λz=>by
     obtain⟨x,e,_⟩:=w1.own p z;rw[hp]at e;cases e
    have fr':Ba H1 H' (o1++os1) os':=by
     have f1:=((r3.more or_).perm (perm_append_comm.trans s3) (.refl _)).sub (os2:=os') λa ha=>by
      rcases mem_append.mp (w3 a ha)with z|z
      .exact mR z
      .exact mL z
     exact f1.weak λa ha=>mR ha
    refine hA (.ref p) _ [p] os' ⟨p,acc,rfl,Ay,r5.mono (B0.of sm),rfl⟩ (w1.same sm) ?_ ?_
    .rw[nodup_append];exact⟨by simp,w2,λa ha b hb z=>hpos (by rw[<-mE ha,z];exact hb)⟩
    .refine fr'.trans (Ba.of sm λa ha=>?_);rcases mem_append.mp ha with z|z
     .rw[mE z];exact .inr hp
     .exact .inl z
variable{X:Cx}
theorem Az{t t':TE}(h:PE X e t)(k:∀σ H Q,t' σ H Q->t σ H Q):PE X e t':=λpins s σ H Q I z=>h pins s σ H Q I (k σ H Q z)
theorem GS{t t':TT}(h:PT X e t)(k:∀σ H Q,t' σ H Q->t σ H Q):PT X e t':=λpins s σ H Q I z=>h pins s σ H Q I (k σ H Q z)
theorem LG{t t':TA}(h:PA X e t)(k:∀σ H Q,t' σ H Q->t σ H Q):PA X e t':=λpos pins s σ H Q I z=>h pos pins s σ H Q I (k σ H Q z)
variable{t':TS}
theorem DK{e:Stmt}{t:TS}(h:PS X e t)(k:∀D σ H,t' D σ H->t D σ H):PS X e t':=λpins s σ H D I z=>h pins s σ H D I (k D σ H z)
theorem MQ{e:List Stmt}{t:TS}(h:ON X e t)(k:∀D σ H,t' D σ H->t D σ H):ON X e t':=λpins s σ H D I z=>h pins s σ H D I (k D σ H z)
def XR(W:Wd)(σ:L2.St)(H:Hp):T->V->Prop
 |.cst p,v=>IA p=true/\Al W H p v
 |.var i,v=>σ[i]? =some (some v)
 |.fld i f,v=>∃a C dx fs,σ[i]? =some (some (.ref a))/\H a=some (.ins C dx fs)/\FA W.K C/\C2 W.K C f/\fs.lookup f=some v
 |_,_=>False
def tX(W:Wd)(t:T):TE:=λσ H Q=>∃v,XR W σ H t v/\Q v H
def Z8(W:Wd):List T->TA
 |[]=>Gm
 |t::ts=>CJ (tX W t) (Z8 W ts)
section
variable{cf:CF}{mt:MT}{ρ:Env}{os:List Addr}
theorem L7(h:IA p=true):∃v,Al W H p v:=by
 cases p with
 |AI=>exact⟨_,B5.mpr rfl⟩
 |bl b=>exact⟨_,Cq.mpr rfl⟩
 |int b=>exact⟨_,Ai.mpr rfl⟩
 |str b=>exact⟨_,AD.mpr rfl⟩
 |tup b=>cases h
theorem FZ(hR:Aa W H ρ σ os){i:Nat}{c:C}(e:Bz ρ i f=some c):∃a C dx fs v b o',σ[i]? =some (some (.ref a))/\H a=some (.ins C dx fs)/\FA W.K C/\C2 W.K C f/\fs.lookup f=some v/\c= .b b/\BZ W H b v o':=by
 unfold Bz at e;cases hg:A8 ρ i with
 |none=>rw[hg]at e;cases e
 |some d=>
   rw[hg]at e;cases d with
   |b x=>cases e
   |obj k fs'=>
     obtain⟨b,hb,rfl⟩:=oM e;obtain⟨u,o',q1,q2,_⟩:=hR.get hg;obtain⟨a',dx',vs,os',rfl,q3,q4,_,q5⟩:=q2;obtain⟨v',o'',g1,g2,_⟩:=q4.look hb;exact⟨a',W.DG k,dx',vs,v',b,o'',q1,q3,q5.1,q5.2 _ (PySem.mem_of_lookup hb),g1,rfl,g2⟩
theorem QN{t:T}(ht:t.calm=true)(hR:Aa W H ρ σ os):(∃h v,BG t (ev cf mt t) ρ= .ok h ρ/\XR W σ H t v/\ER W σ H ρ h v [])\/BG t (ev cf mt t) ρ= .stuck:=by
 have slot:∀i,(∃h v,(if(A8 ρ i).isSome then Res.ok (Hd.slot i) ρ else .stuck)= .ok h ρ/\σ[i]? =some (some v)/\ER W σ H ρ h v [])\/(if(A8 ρ i).isSome then Res.ok (Hd.slot i) ρ else .stuck)= .stuck:=by
  intro i;cases hg:A8 ρ i with
  |none=>exact .inr rfl
  |some c=>
    obtain⟨v,o,q1,_⟩:=hR.get hg;exact .inl ⟨.slot i,v,rfl,q1,q1,rfl⟩
 cases t with
 |cst p=>
   obtain⟨v,hv⟩:=L7 (W:=W) (H:=H) (show IA p=true from ht);exact .inl ⟨.Bt (.p p),v,by unfold BG ev den;rfl,⟨ht,hv⟩,hv,rfl⟩
 |var i=>exact slot i
 |fld i f=>
   show(∃h v,(if(Bz ρ i f).isSome then Res.ok (Hd.fld i f) ρ else .stuck)= .ok h ρ/\_)\/(if(Bz ρ i f).isSome then Res.ok (Hd.fld i f) ρ else .stuck)= .stuck;cases hg:Bz ρ i f with
   |none=>exact .inr rfl
   |some c=>
     obtain⟨a,C,dx,fs,v,b,o',q1,q2,q3,q4,q5,_⟩:=FZ hR hg;exact .inl ⟨.fld i f,v,rfl,⟨a,C,dx,fs,q1,q2,q3,q4,q5⟩,rfl,a,C,dx,fs,q1,q2,q5⟩
 |_=>cases ht
theorem BL(t:T)(ts:List T)(ρ:Env):Ad cf mt (t::ts) ρ=(BG t (ev cf mt t) ρ).bind λh ρ=>match h with
 |.fld i f=>if ts.all T.calm then(Ad cf mt ts ρ).bind λhs ρ=>.ok (.fld i f::hs) ρ else .stuck
 |h=>(Ad cf mt ts ρ).bind λhs ρ=>.ok (h::hs) ρ:=rfl
theorem DD(ρ:Env):Ad cf mt [] ρ= .ok [] ρ:=rfl
theorem Iq:∀{ts:List T},ts.all T.calm=true->Aa W H ρ σ os->(∃hs,Ad cf mt ts ρ= .ok hs ρ/\∀Q:List V->Hp->Prop,(∀vs,Bn W σ H ρ hs vs []->Q vs H)->Z8 W ts σ H Q)\/Ad cf mt ts ρ= .stuck
 |[],_,hR=>.inl ⟨[],DD ρ,λQ k=>k [] ⟨rfl,rfl⟩⟩
 | t ::ts,ht,hR=>by
   rw[all_cons,bA]at ht;rcases QN (cf:=cf) (mt:=mt) ht.1 hR with⟨h,v,e,x,r⟩|e
   .rcases Iq ht.2 hR with⟨hs,e2,q2⟩|e2
    .refine .inl ⟨h::hs,?_,λQ k=>⟨v,x,q2 _ λvs r2=>k (v::vs) ⟨v,vs,[],[],rfl,r,r2,rfl⟩⟩⟩;rw[BL,e,Res.A5];cases h with
     |fld i f=>dsimp only;rw[iP ht.2,e2];rfl
     |slot i=>dsimp only;rw[e2];rfl
     |Bt c=>dsimp only;rw[e2];rfl
    .refine .inr ?_;rw[BL,e,Res.A5];cases h with
     |fld i f=>dsimp only;rw[iP ht.2,e2];rfl
     |slot i=>dsimp only;rw[e2];rfl
     |Bt c=>dsimp only;rw[e2];rfl
   .refine .inr ?_;rw[BL,e];rfl
def P2(W:Wd)(cf:CF)(mt:MT):List T->TA
 |[]=>Gm
 |t::ts=>if(t::ts).all T.calm=true then Z8 W (t::ts)else CJ (tG W (ER W) (BG t (ev cf mt t))) (P2 W cf mt ts)
theorem Rn{r:Res C}{i:Nat}(e:(r.bind λc ρ=>Res.ok (Hd.Bt c) ρ)=Res.ok (Hd.fld i f) ρ'):False:=by
 cases r<;>cases e
theorem Ug{i:Nat}(e:BG t (ev cf mt t) ρ= .ok (.fld i f) ρ'):t= .fld i f:=by
 cases t with
 |fld j g=>
   have e:(if(Bz ρ j g).isSome then Res.ok (Hd.fld j g) ρ else .stuck)= .ok (.fld i f) ρ':=e;split at e
   .cases e;rfl
   .cases e
 |var j=>
   have e:(if(A8 ρ j).isSome then Res.ok (Hd.slot j) ρ else .stuck)= .ok (.fld i f) ρ':=e;split at e<;>cases e
 |_=>
   unfold BG at e;exact(Rn e).elim
theorem LI:∀{ts:List T} {σ:L2.St} {H:Hp} {K:List V->Hp->Prop},tG W (Bn W) (Ad cf mt ts) σ H K->P2 W cf mt ts σ H K
 | [],σ,H,K,h=>by
   obtain⟨ρ,os,hR,hn,hA⟩:=h;rw[DD]at hA;exact hA [] H [] os ⟨rfl,rfl⟩ hR hn (Ba.refl _ _)
 | t ::ts,σ,H,K,h=>by
   unfold P2;split
   .rename_i hc;obtain⟨ρ,os,hR,hn,hA⟩:=h;rcases Iq (cf:=cf) (mt:=mt) hc hR with⟨hs,e,q⟩|e
    .rw[e]at hA;exact q K λvs r=>hA vs H [] os r hR hn (Ba.refl _ _)
    .rw[e]at hA;exact hA.elim
   .rename_i hc
    by_cases hf:∃i f,t= .fld i f
    .obtain⟨i,f,rfl⟩:=hf;have hts:¬ts.all T.calm=true:=λz=>hc (by rw[all_cons,z];rfl)
     obtain⟨ρ,os,hR,hn,hA⟩:=h;rw[BL]at hA;have e:BG (.fld i f) (ev cf mt (.fld i f)) ρ=(if(Bz ρ i f).isSome then Res.ok (Hd.fld i f) ρ else .stuck):=rfl;rw[e]at hA;cases hg:(Bz ρ i f).isSome with
     |false=>rw[hg]at hA;exact False.elim hA
     |true=>
       rw[hg]at hA;have hA:Cs W (Bn W σ) H os σ (if ts.all T.calm then(Ad cf mt ts ρ).bind λhs ρ=>.ok (.fld i f::hs) ρ else .stuck) K:=hA;rw[iN hts]at hA;exact False.elim hA
    .have nf:∀ρ h ρ',BG t (ev cf mt t) ρ= .ok h ρ'->∀i f,h≠.fld i f:=λρ h ρ' e i f z=>hf ⟨i,f,by rw[z]at e;exact Ug e⟩
     have h2:tG W (Bn W) (λρ=>(BG t (ev cf mt t) ρ).bind λh ρ=>(Ad cf mt ts ρ).bind λhs ρ=>.ok (h::hs) ρ) σ H K:=by
      obtain⟨ρ,os,hR,hn,hA⟩:=h;refine⟨ρ,os,hR,hn,?_⟩;rw[BL]at hA;show Cs W (Bn W σ) H os σ ((BG t (ev cf mt t) ρ).bind λh ρ=>(Ad cf mt ts ρ).bind λhs ρ=>.ok (h::hs) ρ) K;cases e:BG t (ev cf mt t) ρ with
      |stuck=>rw[e]at hA;exact hA
      |ok h ρ'=>
        rw[e,Res.A5]at hA;cases h with
        |fld i f=>exact absurd rfl (nf ρ _ ρ' e i f)
        |slot i=>exact hA
        |Bt c=>exact hA
     have:=QL nf h2;exact FE this λv H1 z=>LI z
end
end Iv
namespace Iv
open PySem L2 PyProof.Rows
def AL:Expr->Bool
 |.Starred _ _=>false
 |.Set _ _ _=>false
 |.Slice _ _ _ _=>false
 |_=>true
theorem Au(h:AL e=true)(es:List Expr)(env:PySem.Env):starEach (e::es) env=(false,eval e env)::starEach es env:=by
 cases e<;>first|rfl|cases h
theorem Iz(h:AL e=true)(op:CmpOp):behindInMarks op e=false:=by
 cases e<;>first|rfl|cases h
theorem CK(h:BW e=false)(tg:Option Expr)(l:Nat)(env:PySem.Env):swapsWith e tg l env=pure false:=by
 cases e<;>first|rfl|cases h
theorem FY(h:AL e=true)(env:PySem.Env)(x:Value):foldedSetIterable e env x=pure x:=by
 cases e<;>first|rfl|cases h
variable{W:Wd}{σ:L2.St}{H:Hp}
theorem M3{F:Env->Res C}{Q:VK}(h:tG W (ER W) (λρ=>(F ρ).bind λc ρ=>.ok (.Bt c) ρ) σ H Q):tG W (rV W) F σ H Q:=by
 obtain⟨ρ,os,hR,hn,hA⟩:=h;refine⟨ρ,os,hR,hn,?_⟩;dsimp only at hA;cases e:F ρ with
 |stuck=>rw[e]at hA;exact hA
 |ok c ρ'=>rw[e]at hA;exact hA
theorem Lo{F:Env->Res Hd}{Q:Bool->Hp->Prop}(h:tG W rB (λρ=>(F ρ).bind λh ρ=>Res.of ((h.cont ρ).bind CI) ρ) σ H Q):tG W (ER W) F σ H λx H1=>Pt W x H1 Q:=by
 obtain⟨ρ,os,hR,hn,hA⟩:=h;dsimp only at hA;refine⟨ρ,os,hR,hn,?_⟩;unfold Cs;cases eF:F ρ with
 |stuck=>rw[eF]at hA;exact hA
 |ok a ρ1=>
   rw[eF,Res.A5]at hA;intro u H1 o1 os1 rA hR1 hn1 fr1;cases ec:a.cont ρ1 with
   |none=>rw[ec]at hA;exact False.elim hA
   |some c=>
     rw[ec]at hA;have hA:Cs W (rB σ) H os σ (Res.of (CI c) ρ1) Q:=hA;cases eb:CI c with
     |none=>rw[eb]at hA;exact False.elim hA
     |some b=>
       rw[eb]at hA;refine⟨c,b,EA hR1 rA ec,eb,hA b H1 [] os1 ⟨rfl,rfl⟩ hR1 (nA hn1).2.1 (fr1.sub λa ha=>mR ha)⟩
variable{X:Cx}
theorem Pz(hK:W.K=X.K){a:Expr}{ta:TE}(ha:PE X a ta)(he:∀whole,isTrue a X.env whole=(do let v <-whole;standAt a.pos;holding [v] (truthy v))):PT X a (λσ H Q=>ta σ H λx H1=>Pt W x H1 Q):=by
 intro pins s σ H Q I h;exact isTrue_plain (Bf (ha pins s σ H _ I h) λv s1 ⟨x,H1,I1,r1,q1⟩=>Wm hK pins s1 σ H1 x v Q I1 r1 q1) (he _)
structure AK(X:Cx)(W:Wd)(cf:CF)(mt:MT)(e:Expr)(t:T):Prop where
 v:PE X e (tG W (rV W) (ev cf mt t))
 h:PE X e (tG W (ER W) (BG t (ev cf mt t)))
 b:PT X e (tG W rB (tv cf mt t))
 x:t.calm=true->PE X e (tX W t)
 st:AL e=true
 i:(Bd t).1.ok=true->∀tg,PI X tg e (NM W (Bd t).1 (Ad cf mt (Bd t).2))
 a:∀(i:Nat) (y:Str) (py spos:Pos),X.N.Nodup->X.N[i]? =some y->Loc X.env.scope y->(X.fn y=true\/X.env.scope.names.lookup y=some .local)->PS X (.Assign [.Name y py] e spos) (P4 (tG W (rV W) (ev cf mt t)) (EH i))
 nc:BW e=true->∃elt gs sc pos,e= .ListComp elt gs sc pos
 rv:∀u,t= .prim (.iter .rev) [u]->∃l p pos,e= .Call (.Name "reversed" p) [l] [] pos/\Gl X "reversed"/\X.mg "reversed"=none/\PE X l (tG W (ER W) (BG u (ev cf mt u)))/\AL l=true
 zp:∀u w,t= .prim (.iter .zip) [u,w]->∃l m p pos,e= .Call (.Name "zip" p) [l,m] [] pos/\Gl X "zip"/\X.mg "zip"=none/\PA X [l,m] (tG W (Bn W) (Ad cf mt [u,w]))/\AL l=true/\AL m=true
inductive Cz(X:Cx)(W:Wd)(cf:CF)(mt:MT):List Expr->List T->Prop where
 |nil:Cz X W cf mt [] []
 |cons {e:Expr} {t:T} {es:List Expr} {ts:List T} (h:AK X W cf mt e t) (r:Cz X W cf mt es ts):Cz X W cf mt (e::es) (t::ts)
section
variable{cf:CF}{mt:MT}
theorem KJ(t:T)(ρ:Env):Ad cf mt [t] ρ=(BG t (ev cf mt t) ρ).bind λh ρ=>.ok [h] ρ:=by
 rw[BL];cases BG t (ev cf mt t) ρ with
 |stuck=>rfl
 |ok h ρ'=>cases h<;>(rw[Res.A5,Res.A5];dsimp only;rw[DD];rfl)
theorem DC(t:T):Ad cf mt [t]=λρ=>(BG t (ev cf mt t) ρ).bind λh ρ=>.ok [h] ρ:=funext λρ=>KJ t ρ
theorem AK.of(hK:W.K=X.K)(hw:W.w=X.w){e:Expr}{t:T}(ht:∀v ρ,BG t v ρ=(v ρ).bind λc ρ=>.ok (.Bt c) ρ)(hb:∀ρ,tv cf mt t ρ=((ev cf mt t ρ).bind λc ρ=>.ok (Hd.Bt c) ρ).bind λh ρ=>Res.of ((h.cont ρ).bind CI) ρ)
 (hc:t.calm=false)(hi:Bd t=(.op,[t]))(v:PE X e (tG W (rV W) (ev cf mt t)))(he:∀whole,isTrue e X.env whole=(do let v <-whole;standAt e.pos;holding [v] (truthy v)))(st:AL e=true)(nc:BW e=false:=by rfl):AK X W cf mt e t:=by
 have h:PE X e (tG W (ER W) (BG t (ev cf mt t))):=Az v λσ H Q z=>M3 (by
  rw[show BG t (ev cf mt t)=λρ=>(ev cf mt t ρ).bind λc ρ=>.ok (.Bt c) ρ from funext λρ=>ht _ ρ]at z
  exact z)
 refine⟨v,h,GS (Pz hK h he) λσ H Q z=>Lo ?_,λz=>(by rw[hc]at z;cases z),st,λ_ tg=>?_,λi y py spos hN hi' hx hf=>GU hN hi' hx v (CK nc _ _ _) hf,λz=>(by rw[nc]at z;cases z),λu z=>?_,λu w z=>?_⟩
 .rw[show(λρ=>(BG t (ev cf mt t) ρ).bind λh ρ=>Res.of ((h.cont ρ).bind CI) ρ)=tv cf mt t from funext λρ=>by rw[hb,ht]];exact z
 .rw[hi];show PI X tg e (NM W .op (Ad cf mt [t]));rw[DC];exact MW hK hw h
 .rw[z]at hi;cases hi
 .rw[z]at hi;cases hi
theorem AK.ZX(hK:W.K=X.K)(hw:W.w=X.w){t:T}(ht:∀v ρ,BG t v ρ=(v ρ).bind λc ρ=>.ok (.Bt c) ρ)
 (hc:t.calm=false)(hi:Bd t=(.op,[t]))(v:PE X e (tG W (rV W) (ev cf mt t)))(hb:PT X e (tG W rB (tv cf mt t)))(st:AL e=true)(nc:BW e=false:=by rfl):AK X W cf mt e t:=by
 have h:PE X e (tG W (ER W) (BG t (ev cf mt t))):=Az v λσ H Q z=>M3 (by
  rw[show BG t (ev cf mt t)=λρ=>(ev cf mt t ρ).bind λc ρ=>.ok (.Bt c) ρ from funext λρ=>ht _ ρ]at z
  exact z)
 refine⟨v,h,hb,λz=>(by rw[hc]at z;cases z),st,λ_ tg=>?_,λi y py spos hN hi' hx hf=>GU hN hi' hx v (CK nc _ _ _) hf,λz=>(by rw[nc]at z;cases z),λu z=>?_,λu w z=>?_⟩
 .rw[hi];show PI X tg e (NM W .op (Ad cf mt [t]));rw[DC];exact MW hK hw h
 .rw[z]at hi;cases hi
 .rw[z]at hi;cases hi
variable{α:Type}{H:Hp}
theorem GJ{β:Type}{rep:L2.St->Hp->Env->α->β->List Addr->Prop}{F:Env->Res α}(hF:∀ρ,F ρ= .stuck){σ:L2.St}{Q:β->Hp->Prop}(h:tG W rep F σ H Q):False:=by
 obtain⟨ρ,os,hR,hn,hA⟩:=h;rw[hF]at hA;exact hA
theorem Dt{rep:L2.St->Hp->Env->α->V->List Addr->Prop}{F:Env->Res α}(hF:∀ρ,F ρ= .stuck):PE X e (tG W rep F):=λ_ _ _ _ _ _ h=>(GJ hF h).elim
theorem K3{rep:L2.St->Hp->Env->α->Bool->List Addr->Prop}{F:Env->Res α}(hF:∀ρ,F ρ= .stuck):PT X e (tG W rep F):=λ_ _ _ _ _ _ h=>(GJ hF h).elim
theorem AK.not(hK:W.K=X.K)(hw:W.w=X.w){t:T}(ht:∀v ρ,BG t v ρ=(v ρ).bind λc ρ=>.ok (.Bt c) ρ)(hv:∀ρ,ev cf mt t ρ= .stuck)(hb:∀ρ,tv cf mt t ρ= .stuck)(hc:t.calm=false)(hi:Bd t=(.op,[t]))(st:AL e=true)(nc:BW e=false:=by rfl):AK X W cf mt e t:=
 AK.ZX hK hw ht hc hi (Dt hv) (K3 hb) st nc
def ID(t:TE):Prop:=∀σ H Q Q',t σ H Q->(∀v H',Q v H'->Q' v H')->t σ H Q'
theorem TM{rep:L2.St->Hp->Env->Hd->V->List Addr->Prop}{F:Env->Res Hd}:ID (tG W rep F):=λ_ _ _ _ h k=>FE h k
theorem TL :ID (tX W t):=λ_ _ _ _ ⟨v,h1,h2⟩ k=>⟨v,h1,k _ _ h2⟩
def bU(X:Cx):List Expr->List TE->Prop
 |[],[]=>True
 |e::es,t::ts=>PE X e t/\AL e=true/\bU X es ts/\ID t
 |_,_=>False
def chain:List TE->TA
 |[]=>Gm
 |t::ts=>CJ t (chain ts)
theorem K9:∀{es:List Expr} {ts:List TE},bU X es ts->PA X es (chain ts)
 |[],[],_=>EW
 |e::es,t::ts,⟨h1,h2,h3,_⟩=>D7 h1 (K9 h3) (Au h2 es X.env)
 |[],_::_,h=>h.elim
 |_::_,[],h=>h.elim
theorem HB:∀{es:List Expr} {ts:List T},Cz X W cf mt es ts->ts.all T.calm=true->∃tes,bU X es tes/\Z8 W ts=chain tes
 |_,_,.nil,_=>⟨[],True.intro,rfl⟩
 | _,_,.cons (t:=t) (ts:=ts) h r,hc=>by
   rw[all_cons,bA]at hc;obtain⟨tes,h1,h2⟩:=HB r hc.2;exact⟨tX W t::tes,⟨h.x hc.1,h.st,h1,TL⟩,by show CJ (tX W t) (Z8 W ts)=CJ (tX W t) (chain tes);rw[h2]⟩
theorem Et:∀{es:List Expr} {ts:List T},Cz X W cf mt es ts->∃tes,bU X es tes/\P2 W cf mt ts=chain tes
 |_,_,.nil=>⟨[],True.intro,rfl⟩
 | _,_,.cons (t:=t) (ts:=ts) h r=>by
   by_cases hc:(t::ts).all T.calm=true
   .obtain⟨tes,h1,h2⟩:=HB (.cons h r) hc;refine⟨tes,h1,?_⟩;unfold P2;rw[iP hc];exact h2
   .obtain⟨tes,h1,h2⟩:=Et r;refine⟨_::tes,⟨h.h,h.st,h1,TM⟩,?_⟩;unfold P2;rw[iN hc,h2];rfl
variable{ts:List T}
theorem WY{es:List Expr}(h:Cz X W cf mt es ts):PA X es (P2 W cf mt ts):=by
 obtain⟨tes,h1,h2⟩:=Et h;rw[h2];exact K9 h1
theorem DM{es:List Expr}(h:Cz X W cf mt es ts):PA X es (tG W (Bn W) (Ad cf mt ts)):=LG (WY h) λσ H Q z=>LI z
theorem Cz.plain:∀{es:List Expr} {ts:List T},Cz X W cf mt es ts->∀e∈es,AL e=true
 |_,_,.nil,e,he=>by cases he
 | _,_,.cons h r,e,he=>by
   rcases mK he with z|z
   .rw[z];exact h.st
   .exact r.plain e z
theorem GL:∀{es:List Expr},(∀e∈es,AL e=true)->∀env,starEach es env=es.map λe=>(false,eval e env)
 |[],_,env=>rfl
 |e::es,h,env=>by rw[Au (h e mS),GL (λe he=>h e (mC he)) env];rfl
theorem Cv{o:O}(Af:o.ok=true){σ:L2.St}{Q:VK}(h:tG W (rV W) (ev cf mt (.prim o ts)) σ H Q):P2 W cf mt ts σ H λvs H1=>AZ W (Ab o) vs H1 Q:=by
 refine LI (VJ ?_)
 rw[show ev cf mt (.prim o ts)=λρ=>(Ad cf mt ts ρ).bind λhs ρ=>Res.of ((Am ρ hs).bind (Ab o)) ρ from funext λρ=>by
   show(den cf mt (.prim o ts)).v ρ=_
   conv=>lhs;unfold den
   show(if o.ok=true then _ else _)=_
   rw[iP Af]]at h
 exact h
theorem GW{o:O}(Af:o.ok=false)(ρ:Env):ev cf mt (.prim o ts) ρ= .stuck:=by
 show(den cf mt (.prim o ts)).v ρ=_
 conv=>lhs;unfold den
 show(if o.ok=true then _ else _)=_;rw[Af];rfl
theorem BI(ρ:Env):tv cf mt (.prim o ts) ρ=((ev cf mt (.prim o ts) ρ).bind λc ρ=>.ok (Hd.Bt c) ρ).bind λh ρ=>Res.of ((h.cont ρ).bind CI) ρ:=rfl
theorem CM{g:List C->Option C}{g2:C->C->Option C}(hg:∀a b,g [a,b]=g2 a b){x y:V}{Q:VK}(h:AZ W g [x,y] H Q):CZ W g2 x y H Q:=by
 obtain⟨cs,c,h1,h2,h3⟩:=h;have:=h1.length;obtain⟨a,b,rfl⟩:=Xn this.symm;obtain⟨r1,r2⟩:=IV h1;exact⟨a,b,c,r1,r2,by rw[<-hg];exact h2,h3⟩
theorem GQ{g:List C->Option C}{g1:C->Option C}(hg:∀a,g [a]=g1 a){x:V}{Q:VK}(h:AZ W g [x] H Q):Zp W g1 x H Q:=by
 obtain⟨cs,c,h1,h2,h3⟩:=h;have:=h1.length;obtain⟨a,rfl⟩:=Qu this.symm;obtain⟨v,e,r1⟩:=C7 h1;cases e;exact⟨a,c,r1,by rw[<-hg];exact h2,h3⟩
theorem F8(h1:AK X W cf mt a x)(h2:AK X W cf mt b y):∃ta tb,PE X a ta/\PE X b tb/\P2 W cf mt [x,y]=CJ ta (CJ tb Gm)/\ID ta/\ID tb:=by
 obtain⟨tes,h3,h4⟩:=Et (.cons h1 (.cons h2 .nil))
 match tes,h3 with
 |[ta,tb],⟨q1,_,⟨q2,_,_,m2⟩,m1⟩=>exact⟨ta,tb,q1,q2,h4,m1,m2⟩
theorem Qa(h1:AK X W cf mt a x):∃ta,PE X a ta/\P2 W cf mt [x]=CJ ta Gm/\ID ta:=by
 obtain⟨tes,h3,h4⟩:=Et (.cons h1 .nil)
 match tes,h3 with
 |[ta],⟨q1,_,_,m⟩=>exact⟨ta,q1,h4,m⟩
variable{r':R2}
theorem Dl.imp{f:Value->Value->Sem Value}{r:R2}(h:Dl X f r)(k:∀x y H Q,r' x y H Q->r x y H Q):Dl X f r':=λpins s σ H x y v u Q I rx ry z=>h pins s σ H x y v u Q I rx ry (k _ _ _ _ z)
theorem W4.imp{f:Value->Sem Value}{r r':V->Hp->VK->Prop}(h:W4 X f r)(k:∀x H Q,r' x H Q->r x H Q):W4 X f r':=λpins s σ H x v Q I rx z=>h pins s σ H x v Q I rx (k _ _ _ z)
theorem AW.imp{r r':List V->Hp->VK->Prop}(h:AW X f r)(k:∀x H Q,r' x H Q->r x H Q):AW X f r':=λpins s σ H xs us Q I r z=>h pins s σ H xs us Q I r (k _ _ _ z)
theorem S3.imp{r:R2}(h:S3 X r)(k:∀x y H Q,r' x y H Q->r x y H Q):S3 X r':=λvalue slice pins s σ H x y v u Q I rx ry z hs=>h value slice pins s σ H x y v u Q I rx ry (k _ _ _ _ z) hs
theorem Bj(v:Env->Res C)(ρ:Env):BG (.prim o ts) v ρ=(v ρ).bind λc ρ=>.ok (.Bt c) ρ:=rfl
variable{pos:Pos}
theorem Er(hK:W.K=X.K)(hw:W.w=X.w){op:Operator}{o:O}(Af:o.ok=true){g:C->C->Option C}(ho:Dl X (binaryOp op) (CZ W g))(hg:∀a b,Ab o [a,b]=g a b){a b:Expr}{x y:T}(hi:Bd (.prim o [x,y])=(.op,[.prim o [x,y]]))
 (h1:AK X W cf mt a x)(h2:AK X W cf mt b y):AK X W cf mt (.BinOp a op b pos) (.prim o [x,y]):=by
 obtain⟨ta,tb,q1,q2,q3,_,_⟩:=F8 h1 h2;refine AK.of hK hw Bj BI rfl hi (Az (ZJ (Dl.imp ho λx y H Q z=>CM hg z) q1 q2) λσ H Q z=>?_) (λ_=>rfl) rfl;have z:=Cv Af z;rw[q3]at z;exact z
theorem Sy(hK:W.K=X.K)(hw:W.w=X.w)(h1:AK X W cf mt a x):AK X W cf mt (.UnaryOp .USub a pos) (.prim .neg [x]):=by
 obtain⟨ta,q1,q3,_⟩:=Qa h1;refine AK.of hK hw Bj BI rfl rfl (Az (ZH (W4.imp Z1 λx H Q z=>GQ (W:=W) (g:=Ab .neg) (g1:=Jl Kj) (λ_=>rfl) z) q1) λσ H Q z=>?_) (λ_=>rfl) rfl;have z:=Cv (o:=.neg) rfl z;rw[q3]at z;exact z
theorem O4{o:O}(Af:o.ok=true)(hbl:∀cs c,Ab o cs=some c->∃b,c= .p (.bl b)){σ:L2.St}{Q:Bool->Hp->Prop}(h:tG W rB (tv cf mt (.prim o ts)) σ H Q):
 P2 W cf mt ts σ H λvs H1=>AZ W (Ab o) vs H1 λx H2=>∃k,x= .bl k/\Q k H2:=by
 refine Cv Af ?_;obtain⟨ρ,os,hR,hn,hA⟩:=h;refine⟨ρ,os,hR,hn,?_⟩;rw[BI]at hA
 have hv :∀c ρ',ev cf mt (.prim o ts) ρ= .ok c ρ'->∃b,c= .p (.bl b):=by
  intro c ρ' e;have e:(den cf mt (.prim o ts)).v ρ= .ok c ρ':=e;unfold den at e;have e:(if o.ok=true then(Ad cf mt ts ρ).bind λhs ρ=>Res.of ((Am ρ hs).bind (Ab o)) ρ else .stuck)= .ok c ρ':=e;rw[iP Af]at e;cases e1:Ad cf mt ts ρ with
  |stuck=>rw[e1]at e;cases e
  |ok hs ρ2=>
    rw[e1,Res.A5]at e;cases e2:Am ρ2 hs with
    |none=>rw[e2]at e;cases e
    |some cs=>
      rw[e2]at e;have e:Res.of (Ab o cs) ρ2= .ok c ρ':=e;cases e3:Ab o cs with
      |none=>rw[e3]at e;cases e
      |some d=>
        rw[e3]at e;cases e;exact hbl cs _ e3
 show Cs W (rV W σ) H os σ (ev cf mt (.prim o ts) ρ) _;cases e:ev cf mt (.prim o ts) ρ with
 |stuck=>rw[e]at hA;exact hA
 |ok c ρ'=>
   rw[e]at hA;obtain⟨b,rfl⟩:=hv c ρ' e;intro v H' o1 os' r1 r2 r3 r4;have r1:Bk W H' (.p (.bl b)) v o1:=r1;obtain⟨r5,rfl⟩:=r1;refine⟨b,Cq.mp r5,?_⟩;exact hA b H' [] os' ⟨rfl,rfl⟩ r2 r3 r4
theorem SJ(hK:W.K=X.K)(hw:W.w=X.w){op:CmpOp}{o:O}(Af:o.ok=true)(ho:Dl X (compareOp op) (CZ W (F3 o)))(hg:∀a b,Ab o [a,b]=F3 o a b)(hbl:∀cs c,Ab o cs=some c->∃b,c= .p (.bl b)){a b:Expr}{x y:T}
 (hi:Bd (.prim o [x,y])=(.op,[.prim o [x,y]]))(h1:AK X W cf mt a x)(h2:AK X W cf mt b y):AK X W cf mt (.Compare a [op] [b] pos) (.prim o [x,y]):=by
 obtain⟨ta,tb,q1,q2,q3,_,_⟩:=F8 h1 h2;have ho':=Dl.imp ho λx y H Q z=>CM hg z
 refine AK.ZX hK hw Bj rfl hi (Az (Tq ho' q1 q2 (Iz h2.st op)) λσ H Q z=>?_) (GS (T8 ho' q1 q2 (Iz h2.st op)) λσ H Q z=>?_) rfl
 .have z:=Cv Af z;rw[q3]at z;exact z
 .have z:=O4 Af hbl z;rw[q3]at z;exact z
end
variable{α β γ δ:Type}
theorem BH{rep:L2.St->Hp->Env->α->β->List Addr->Prop}{rep':L2.St->Hp->Env->γ->δ->List Addr->Prop}{F:Env->Res α}{G:α->Env->Res γ}{Q:δ->Hp->Prop}{K:β->Hp->Prop}
 (h:tG W rep' (λρ=>(F ρ).bind G) σ H Q)(k:∀a ρ1 b H1 o1 os1,rep σ H1 ρ1 a b o1->Aa W H1 ρ1 σ os1->(o1++os1).Nodup->Cs W (rep' σ) H1 (o1++os1) σ (G a ρ1) Q->B0 H H1->(∃ρ0,F ρ0= .ok a ρ1)->K b H1):tG W rep F σ H K:=by
 obtain⟨ρ,os,hR,hn,hA⟩:=h;dsimp only at hA;refine⟨ρ,os,hR,hn,?_⟩;unfold Cs;cases eF:F ρ with
 |stuck=>rw[eF]at hA;exact hA
 |ok a ρ1=>
   rw[eF,Res.A5]at hA;exact λb H1 o1 os1 h1 h2 h3 h4=>k a ρ1 b H1 o1 os1 h1 h2 h3 (Cs.shift hA h4) (h4.but.keep hR.own) ⟨ρ,eF⟩
section
variable{cf:CF}{mt:MT}
variable{pos:Pos}
theorem SE(hK:W.K=X.K)(hw:W.w=X.w)(hu:X.A.units + 200 < cLine)(hs:JK b)(h1:AK X W cf mt a x)(h2:AK X W cf mt b y):AK X W cf mt (.Subscript a b pos) (.prim .idx [x,y]):=by
 obtain⟨ta,tb,q1,q2,q3,_,_⟩:=F8 h1 h2;refine AK.of hK hw Bj BI rfl rfl (Az (ZK (S3.imp (ay hK (g:=BB) (XB hK hw hu)) λx y H Q z=>CM (W:=W) (g:=Ab .idx) (g2:=BB) (λ_ _=>rfl) z) q1 q2 hs) λσ H Q z=>?_) (λ_=>rfl) rfl;have z:=Cv (o:=.idx) rfl z;rw[q3]at z;exact z
abbrev TV:=L2.St->Hp->(Option V->Hp->Prop)->Prop
def dR:Option V->Value->Prop
 |none,u=>u= .none
 |some v,u=>RelV v u
def cE:Option V->Option Int->Prop
 |none,none=>True
 |some v,some i=>v= .int i
 |_,_=>False
def PV(X:Cx)(e:Option Expr)(t:TV):Prop:=∀(pins:List (Addr×Obj)) (s:Shared) (σ:L2.St) (H:Hp) (Q:Option V->Hp->Prop),Inv X pins σ H s->t σ H Q->
    wpAny (model X.prog X.w) X.A (evalPart e X.env) (λu s'=>∃o H',Inv X pins σ H' s'/\dR o u/\Q o H') X.xe s
def Wh:TV:=λ_ H Q=>Q none H
def Wg(t:TE):TV:=λσ H Q=>t σ H λv H1=>Q (some v) H1
theorem MP:PV X none Wh:=by
 intro pins s σ H Q I h;rw[evalPart_none];exact wP ⟨none,H,I,rfl,h⟩
variable{te:TE}
theorem MN(h:PE X e te):PV X (some e) (Wg te):=by
 intro pins s σ H Q I hw;rw[evalPart_some];exact Bf (h pins s σ H _ I hw) λu s1 ⟨x,H1,I1,r1,q1⟩=>⟨some x,H1,I1,r1,q1⟩
theorem VL{o:Option V}{i:Option Int}(h:cE o i)(r:dR o u):IsPart u i:=by
 cases o with
 |none=>
   cases i with
   |none=>rw[show u= .none from r];exact .none
   |some i=>exact h.elim
 |some v=>
   cases i with
   |none=>exact h.elim
   |some i=>
     have h:v= .int i:=h;subst h;obtain⟨t,rfl⟩:=r;exact .int i t
theorem PY{r:V->Option Int->Option Int->Hp->VK->Prop}{lo hi:Option Expr}{tl th:TV}(hr:YW X r)(he:PE X e te)(hl:PV X lo tl)(hu:PV X hi th):
 PE X (.Subscript e (.Slice lo hi none p2) pos) (λσ H Q=>te σ H λx H1=>tl σ H1 λl H2=>th σ H2 λu H3=>∃i j,cE l i/\cE u j/\r x i j H3 Q):=by
 intro pins s σ H Q I h;refine Subscript_ (Bf (he pins s σ H _ I h) λv s1 ⟨x,H1,I1,r1,q1⟩=>?_);refine wpAny_Slice (Bf (hl pins s1 σ H1 _ I1 q1) λvl s2 ⟨l,H2,I2,pl,q2⟩=>Bf (hu pins s2 σ H2 _ I2 q2) λvu s3 ⟨u,H3,I3,pu,i,j,g1,g2,q3⟩=>?_);rw[evalPart_none];refine wP ?_;have I4:Inv X pins σ H3 {s3 with heap:=s3.heap.push {cls:=.type "slice",data:=.fields #[vl,vu,.none]}}:=I3.kept (t':=s3.toks) λb ob q=>gP q
 obtain⟨T,id,hT,ht,hg⟩:=hr pins {s3 with heap:=s3.heap.push {cls:=.type "slice",data:=.fields #[vl,vu,.none]}} σ H3 x v vl vu i j s3.heap.objs.size Q I4 r1 (Heap.IsSliceOf.new ..) (VL g1 pl) (VL g2 pu) q3;show wpAny (model X.prog X.w) X.A (subscriptTail e (.Slice lo hi none p2) v (.ref s3.heap.objs.size)) (EP X pins σ Q) X.xe {s3 with heap:=s3.heap.push {cls:=.type "slice",data:=.fields #[vl,vu,.none]}};exact tail_any (ops:=[.ref s3.heap.objs.size,v]) ht hT hg (by with_unfolding_all rfl)
theorem MZ{i:Int}{H:Hp}(h:Du d=some i)(r:Em W H d u):u= .int i:=by
 unfold Du at h;split at h
 .cases h;exact AS r
 .cases h
theorem Pb(hK:W.K=X.K)(hw:W.w=X.w)(h1:AK X W cf mt a x)(h2:AK X W cf mt b y):AK X W cf mt (.Subscript a (.Slice (some b) none none p2) pos) (.prim (.Gn true false) [x,y]):=by
 obtain⟨ta,tb,q1,q2,q3,m1,m2⟩:=F8 h1 h2;refine AK.of hK hw Bj BI rfl rfl (Az (PY (VH hK) q1 (MN q2) MP) λσ H Q z=>?_) (λ_=>rfl) rfl;have z:=Cv (o:=.Gn true false) rfl z;rw[q3]at z;refine m1 _ _ _ _ z λu H1 z=>m2 _ _ _ _ z λw H2 z=>?_
 obtain⟨a,b,c,g1,g2,g3,g4⟩:=CM (g:=Ab (.Gn true false)) (g2:=λa i=>(Du i).bind λi=>E4 a (some i) none) (λ_ _=>rfl) z;obtain⟨i,e1,e2⟩:=oB g3;exact⟨some i,none,MZ e1 g2,True.intro,a,c,g1,e2,g4⟩
theorem Pa(hK:W.K=X.K)(hw:W.w=X.w)(h1:AK X W cf mt a x)(h2:AK X W cf mt b y):AK X W cf mt (.Subscript a (.Slice none (some b) none p2) pos) (.prim (.Gn false true) [x,y]):=by
 obtain⟨ta,tb,q1,q2,q3,m1,m2⟩:=F8 h1 h2;refine AK.of hK hw Bj BI rfl rfl (Az (PY (VH hK) q1 MP (MN q2)) λσ H Q z=>?_) (λ_=>rfl) rfl;have z:=Cv (o:=.Gn false true) rfl z;rw[q3]at z;refine m1 _ _ _ _ z λu H1 z=>m2 _ _ _ _ z λw H2 z=>?_
 obtain⟨a,b,c,g1,g2,g3,g4⟩:=CM (g:=Ab (.Gn false true)) (g2:=λa i=>(Du i).bind λi=>E4 a none (some i)) (λ_ _=>rfl) z;obtain⟨i,e1,e2⟩:=oB g3;exact⟨none,some i,True.intro,MZ e1 g2,a,c,g1,e2,g4⟩
end
section
variable{cf:CF}{mt:MT}
def Yh(c:C)(r:Env->Res C)(ρ:Env):Res C:=match c with
    |.p (.bl true)=>r ρ
    |.p (.bl false)=>.ok (.p (.bl false)) ρ
    |_=>.stuck
def cK(c:C)(r:Env->Res C)(ρ:Env):Res C:=match c with
    |.p (.bl true)=>.ok (.p (.bl true)) ρ
    |.p (.bl false)=>r ρ
    |_=>.stuck
theorem XJ(a b:T):ev cf mt (.and a b)=λρ=>(ev cf mt a ρ).bind λc ρ=>Yh c (ev cf mt b) ρ:=rfl
theorem Wf(a b:T):tv cf mt (.and a b)=λρ=>(tv cf mt a ρ).bind λc ρ=>if c then tv cf mt b ρ else .ok false ρ:=rfl
theorem aR(a b:T):ev cf mt (.or a b)=λρ=>(ev cf mt a ρ).bind λc ρ=>cK c (ev cf mt b) ρ:=rfl
theorem Z3(a b:T):tv cf mt (.or a b)=λρ=>(tv cf mt a ρ).bind λc ρ=>if c then .ok true ρ else tv cf mt b ρ:=rfl
variable{H:Hp}
theorem YV{c:C}{b:Bool}(r:Bk W H (.p (.bl b)) v o):v= .bl b/\o=[]:=⟨Cq.mp r.1,r.2⟩
theorem Mq{os:List Addr}{σ:L2.St}{b:Bool}{Q:VK}(hR:Aa W H ρ σ os)(hn:os.Nodup)(h:Cs W (rV W σ) H os σ (.ok (.p (.bl b)) ρ) Q):Q (.bl b) H:=
 h (.bl b) H [] os ⟨Cq.mpr rfl,rfl⟩ hR hn (Ba.refl _ _)
theorem b9{σ:L2.St}{Q:VK}(h:tG W (rV W) (ev cf mt (.and a b)) σ H Q):VF (tG W (rV W) (ev cf mt a)) (tG W (rV W) (ev cf mt b)) σ H Q:=by
 rw[XJ]at h;refine BH h λc ρ1 v H1 o1 os1 r1 r2 r3 r4 kp ef=>?_
 unfold Yh at r4;split at r4
 .obtain⟨rfl,rfl⟩:=YV (c:=.p (.bl true)) r1;exact⟨true,rfl,Ua ⟨ρ1,os1,r2,r3,r4⟩⟩
 .obtain⟨rfl,rfl⟩:=YV (c:=.p (.bl false)) r1;exact⟨false,rfl,Ub (Mq r2 r3 r4)⟩
 .exact False.elim r4
theorem cI{σ:L2.St}{Q:VK}(h:tG W (rV W) (ev cf mt (.or a b)) σ H Q):Zc (tG W (rV W) (ev cf mt a)) (tG W (rV W) (ev cf mt b)) σ H Q:=by
 rw[aR]at h;refine BH h λc ρ1 v H1 o1 os1 r1 r2 r3 r4 kp ef=>?_
 unfold cK at r4;split at r4
 .obtain⟨rfl,rfl⟩:=YV (c:=.p (.bl true)) r1;exact⟨true,rfl,Ua (Mq r2 r3 r4)⟩
 .obtain⟨rfl,rfl⟩:=YV (c:=.p (.bl false)) r1;exact⟨false,rfl,Ub ⟨ρ1,os1,r2,r3,r4⟩⟩
 .exact False.elim r4
theorem ba{σ:L2.St}{Q:Bool->Hp->Prop}(h:tG W rB (tv cf mt (.and a b)) σ H Q):Zi (tG W rB (tv cf mt a)) (tG W rB (tv cf mt b)) σ H Q:=by
 rw[Wf]at h;refine BH h λc ρ1 v H1 o1 os1 r1 r2 r3 r4 kp ef=>?_
 obtain⟨rfl,rfl⟩:=r1;cases c with
 |true=>exact Ua ⟨ρ1,os1,r2,r3,r4⟩
 |false=>exact Ub (r4 false H1 [] os1 ⟨rfl,rfl⟩ r2 r3 (Ba.refl _ _))
theorem cJ{σ:L2.St}{Q:Bool->Hp->Prop}(h:tG W rB (tv cf mt (.or a b)) σ H Q):dM (tG W rB (tv cf mt a)) (tG W rB (tv cf mt b)) σ H Q:=by
 rw[Z3]at h;refine BH h λc ρ1 v H1 o1 os1 r1 r2 r3 r4 kp ef=>?_
 obtain⟨rfl,rfl⟩:=r1;cases c with
 |true=>exact Ua (r4 true H1 [] os1 ⟨rfl,rfl⟩ r2 r3 (Ba.refl _ _))
 |false=>exact Ub ⟨ρ1,os1,r2,r3,r4⟩
structure JJ(X:Cx)(W:Wd)(cf:CF)(mt:MT)(op:PySem.BoolOp)(es:List Expr)(t:T):Prop where
 v:∀pos,PE X (.BoolOp op es pos) (tG W (rV W) (ev cf mt t))
 w:∀pos,PW X (.BoolOp op es pos) (tG W rB (tv cf mt t))
theorem JJ.one{op:PySem.BoolOp}(h:AK X W cf mt e t):JJ X W cf mt op [e] t:=
 ⟨λpos=>WR h.v,λpos=>by cases op with|And=>exact T6 h.b|Or=>exact WD h.b⟩
variable{e':Expr}
theorem JJ.and{es:List Expr}(h:AK X W cf mt e t)(r:JJ X W cf mt .And (e'::es) u):JJ X W cf mt .And (e::e'::es) (.and t u):=
 ⟨λpos=>Az (WX h.v (r.v pos)) λ_ _ _ z=>b9 z,λpos whole pins s σ H Q I z=>WE h.b (r.w pos) whole pins s σ H Q I (ba z)⟩
theorem JJ.or{es:List Expr}(h:AK X W cf mt e t)(r:JJ X W cf mt .Or (e'::es) u):JJ X W cf mt .Or (e::e'::es) (.or t u):=
 ⟨λpos=>Az (ZI h.v (r.v pos)) λ_ _ _ z=>cI z,λpos whole pins s σ H Q I z=>ZC h.b (r.w pos) whole pins s σ H Q I (cJ z)⟩
def Xg(c:C)(ρ:Env):Res C:=match c with
    |.p (.bl b)=>.ok (.p (.bl (!b))) ρ
    |_=>.stuck
theorem XH(a:T):ev cf mt (.not a)=λρ=>(ev cf mt a ρ).bind λc ρ=>Xg c ρ:=rfl
theorem We(a:T):tv cf mt (.not a)=λρ=>(tv cf mt a ρ).bind λb ρ=>.ok (!b) ρ:=rfl
variable{pos:Pos}
theorem Sx(hK:W.K=X.K)(hw:W.w=X.w)(h1:AK X W cf mt a x):AK X W cf mt (.UnaryOp .Not a pos) (.not x):=by
 refine AK.ZX hK hw (λ_ _=>rfl) rfl rfl (Az (WS h1.v) λσ H Q z=>?_) (GS (WI h1.b) λσ H Q z=>?_) rfl
 .rw[XH]at z;refine BH z λc ρ1 v H1 o1 os1 r1 r2 r3 r4 kp ef=>?_
  unfold Xg at r4;split at r4
  .rename_i b;obtain⟨rfl,rfl⟩:=YV (c:=.p (.bl b)) r1;exact⟨b,rfl,Mq r2 r3 r4⟩
  .exact False.elim r4
 .rw[We]at z;refine BH z λc ρ1 v H1 o1 os1 r1 r2 r3 r4 kp ef=>?_
  obtain⟨rfl,rfl⟩:=r1;exact r4 (!c) H1 [] os1 ⟨rfl,rfl⟩ r2 r3 (Ba.refl _ _)
def Nu(c:C)(r:Env->Res (List P))(ρ:Env):Res (List P):=match c with
    |.p x=>(r ρ).bind λxs ρ=>.ok (x::xs) ρ
    |_=>.stuck
theorem Ip(t:T)(ts:List T):E2 cf mt (t::ts)=λρ=>(ev cf mt t ρ).bind λc ρ=>Nu c (E2 cf mt ts) ρ:=rfl
theorem Hv(ρ:Env):E2 cf mt [] ρ= .ok [] ρ:=rfl
theorem IZ:∀{es:List Expr} {ts:List T},Cz X W cf mt es ts->PA X es (tG W (dQ W) (E2 cf mt ts))
 | _,_,.nil=>LG EW λσ H Q h=>by
   obtain⟨ρ,os,hR,hn,hA⟩:=h;rw[Hv]at hA;exact hA [] H [] os ⟨A7.nil,rfl⟩ hR hn (Ba.refl _ _)
 | _,_,.cons (t:=t) (ts:=ts) h r=>LG (D7 h.v (IZ r) (Au h.st _ _)) λσ H Q z=>by
   rw[Ip]at z;refine BH z λc ρ1 v H1 o1 os1 r1 r2 r3 r4 kp ef=>?_
   unfold Nu at r4;split at r4
   .rename_i x;have r1:Bk W H1 (.p x) v o1:=r1;obtain⟨r5,rfl⟩:=r1;refine BH (rep':=dQ W) (G:=λxs ρ=>.ok (x::xs) ρ) (Q:=Q) ⟨ρ1,os1,r2,r3,r4⟩ λxs ρ2 vs H2 o2 os2 s1 s2 s3 s4 kp2 _=>?_
    obtain⟨s5,rfl⟩:=s1;exact s4 (v::vs) H2 [] os2 ⟨A7.cons (r5.mono kp2) s5,rfl⟩ s2 s3 (Ba.refl _ _)
   .exact False.elim r4
theorem Hw:∀{ts:List T} {ρ ρ':Env} {ps:List P},E2 cf mt ts ρ= .ok ps ρ'->ps.length=ts.length
 |[],ρ,ρ',ps,e=>by rw[Hv]at e;cases e;rfl
 | t ::ts,ρ,ρ',ps,e=>by
   rw[Ip]at e;dsimp only at e;cases e1:ev cf mt t ρ with
   |stuck=>rw[e1]at e;cases e
   |ok c ρ2=>
     rw[e1,Res.A5]at e;unfold Nu at e;split at e
     .cases e2:E2 cf mt ts ρ2 with
      |stuck=>rw[e2]at e;cases e
      |ok qs ρ3=>
        rw[e2]at e;cases e;rw[lC,lC,Hw e2]
     .cases e
theorem R0(ts:List T):ev cf mt (.tup ts)=λρ=>if ts.length<=1000 then(E2 cf mt ts ρ).bind λps ρ=>.ok (.p (.tup ps)) ρ else .stuck:=rfl
theorem R3(ts:List T):ev cf mt (.lst ts)=λρ=>if ts.length<=1000 then(E2 cf mt ts ρ).bind λps ρ=>.ok (.lst ps) ρ else .stuck:=rfl
theorem J9{os:List Addr}{σ:L2.St}{Q:VK}(hR:Aa W H ρ σ os)(hn:os.Nodup)(h:Cs W (rV W σ) H os σ (.ok c ρ) Q):F4 W H c Q:=λv H' o s r ho hf=>h.made hR hn s r ho hf
theorem GN{n:Nat}(h:n<=1000):n<=sizeLine:=Nat.le_trans h (by decide)
variable{ts:List T}
theorem Sw(hK:W.K=X.K)(hw:W.w=X.w){es:List Expr}{k:Nat}(h:Cz X W cf mt es ts):AK X W cf mt (.Tuple es k pos) (.tup ts):=by
 refine AK.of hK hw (λ_ _=>rfl) (λρ=>by show(den cf mt (.tup ts)).b ρ=(((den cf mt (.tup ts)).v ρ).bind _).bind _;unfold den;rfl) rfl rfl ?_ (λ_=>rfl) rfl;rw[R0]
 by_cases hl:ts.length<=1000
 .refine Az (WO (IZ h)) λσ H Q z=>?_
  simp only[iP hl]at z;refine BH z λps ρ1 vs H1 o1 os1 r1 r2 r3 r4 kp ef=>?_
  obtain⟨r5,rfl⟩:=r1;obtain⟨ρ0,ef⟩:=ef;exact⟨GN (by rw[r5.length,Hw ef];exact hl),(J9 r2 r3 r4).tup r5⟩
 .exact Dt λρ=>iN hl
theorem SA(hK:W.K=X.K)(hw:W.w=X.w){es:List Expr}(h:Cz X W cf mt es ts):AK X W cf mt (.List es pos) (.lst ts):=by
 refine AK.of hK hw (λ_ _=>rfl) (λρ=>by show(den cf mt (.lst ts)).b ρ=(((den cf mt (.lst ts)).v ρ).bind _).bind _;unfold den;rfl) rfl rfl ?_ (λ_=>rfl) rfl;rw[R3]
 by_cases hl:ts.length<=1000
 .refine Az (WT (IZ h)) λσ H Q z=>?_
  simp only[iP hl]at z;refine BH z λps ρ1 vs H1 o1 os1 r1 r2 r3 r4 kp ef=>?_
  obtain⟨r5,rfl⟩:=r1;obtain⟨ρ0,ef⟩:=ef;exact⟨GN (by rw[r5.length,Hw ef];exact hl),(J9 r2 r3 r4).list r5⟩
 .exact Dt λρ=>iN hl
theorem Tp:PE X (.Dict [] [] pos) (λ_ H Q=>∀p,H p=none->(p == sysModules)=false->Q (.ref p) (upd H p (DX p []))):=λpins s σ H Q I h=>by
 have hsm:(s.heap.objs.size == sysModules)=false:=beq_eq_false_iff_ne.mpr (Ne.symm (Nat.ne_of_lt I.big));refine wpAny_Dict_empty ⟨.ref s.heap.objs.size,_,I.laid (a:=s.heap.objs.size) (o:=DX s.heap.objs.size []) (t':=s.toks) (λ_ _ q=>gP q) (lR) ?_,rfl,h _ (I.Af.fresh (lR)) hsm⟩;have hg:(s.heap.push {cls:=.type "dict",data:=.dict #[]}).get? s.heap.objs.size=some {cls:=.type "dict",data:=.dict #[]}:=Heap.get?_push_size _ rfl;refine⟨⟨_,hg,⟨rfl,rfl,rfl⟩,rfl⟩,⟨_,hg⟩,?_⟩
 rintro h1 h2 ⟨o,q1,q2,q3⟩ k
 exact⟨o,k o q1,q2,q3⟩
theorem SI(hK:W.K=X.K)(hw:W.w=X.w):AK X W cf mt (.Dict [] [] pos) (.AB [] []):=by
 refine AK.of hK hw (λ_ _=>rfl) (λρ=>by show(den cf mt (.AB [] [])).b ρ=(((den cf mt (.AB [] [])).v ρ).bind _).bind _;unfold den;rfl) rfl rfl ?_ (λ_=>rfl) rfl;rw[show ev cf mt (.AB [] [])=λρ=>.ok (.AB []) ρ from funext λρ=>by show(den cf mt (.AB [] [])).v ρ=_;unfold den;rfl];refine Az Tp λσ H Q z p hp hs=>?_
 obtain⟨ρ,os,hR,hn,hA⟩:=z;have q:=J9 hR hn hA;have s:D2 H (upd H p (DX p [])):=λb o e=>by rw[An (AO e hp)];exact e
 exact q (.ref p) _ [p] s ⟨p,rfl,⟨⟨[],Ay,.nil⟩,by simp,λq hq=>(by cases hq),Nat.zero_le _,hs⟩,rfl⟩ (by simp) (λa ha=>by rw[mE ha];exact hp)
end
end Iv
namespace Xc
open PySem PySem.Spec
abbrev Fw(C t:Addr)(d:Option Addr):Obj:={cls:=.ref C,dict:=d,data:=.fields #[.ref t,.none,.none,.none,.bool false,.none]}
abbrev JR(rest:List Value):Obj:={cls:=.type "tuple",data:=.seq rest.toArray}
section
variable{prog:Program}{w:World}{A:Around}{h:Heap}{g:Array GenState}{d:Drawn}{t:Nat}{os:OsState}
variable{nm q:Str}{C N:Addr}{bs bm:List Value}{hdct:Bool}{sn:List Str}{sub:List Value}{ab:Bool}{col:Option Bool}{dd:Option Addr}{k0 k1 k2 k3 k5:Option Value}
structure FA(h:Heap)(C:Addr)(bm:List Value):Prop where
 at_:∃nm q N bs hdct sn sub ab col dd k0 k1 k2 k3 k5,h.get? C=some (excClassObj nm q C N bs bm hdct sn sub ab col dd k0 k1 k2 k3 k5 "ValueError.__new__")
 val:bm.contains (.type "ValueError")=true
 base:bm.contains (.type "BaseException")=true
 YF:bm.contains (.type "AttributeError")=false
 fG:bm.contains (.type "NameError")=false
theorem FA.keeps{h h':Heap}{C:Addr}{bm:List Value}(c:FA h C bm)(k:∀b o,h.get? b=some o->h'.get? b=some o):FA h' C bm:=by
 obtain⟨⟨nm,q,N,bs,hdct,sn,sub,ab,col,dd,k0,k1,k2,k3,k5,e⟩,h1,h2,h3,h4⟩:=c;exact⟨⟨nm,q,N,bs,hdct,sn,sub,ab,col,dd,k0,k1,k2,k3,k5,k _ _ e⟩,h1,h2,h3,h4⟩
theorem Oa{M:Model}{E:Value->Shared->Prop}{rest:List Value}{Q:Unit->Shared->Prop}(c:FA h C bm)(hq:Q () ⟨h,g,d,t,os⟩):wpAny M A (checkBuiltinCall "ValueError.__new__" ⟨.ref C::rest,[]⟩) Q E ⟨h,g,d,t,os⟩:=by
 obtain⟨⟨nm,q,N,bs,hdct,sn,sub,ab,col,dd,k0,k1,k2,k3,k5,hC⟩,h1,-,-,-⟩:=c;have F:=PySem.F.excBase_ValueError;have hv:(Value.ref C::bm).contains (.type "ValueError")=true:=by rw[contains_cons,h1,Bool.or_true]
 have hs:=F.noStar;simp only[checkBuiltinCall,F.newKind,F.newSplit,F.newRow]
 repeat (first
  |simp only[bne_self_eq_false,Bool.false_eq_true,if_false]
  |refine wpAny_madeBy_exc hC ?_
  |refine wpAny_staticBase_exc hC ?_
  |refine wpAny_loadPart_at hC ?_
  |(refine wpAny_isSubtype_exc hC ?_;rw[hv])
  |wp_step)
 exact hq
theorem TF{R:Result->Shared->Prop}{rest:List Value}(c:FA h C bm)(hr:rest.length<=sizeLine)(hq:R (.ok (.ret (.ref (h.objs.size + 1)))) ⟨(h.push (JR rest)).push (Fw C h.objs.size none),g,d,t,os⟩):
 codeAny (model prog w) A (.builtin "ValueError.__new__" ⟨.ref C::rest,[]⟩) R ⟨h,g,d,t,os⟩:=by
 obtain⟨⟨nm,q,N,bs,hdct,sn,sub,ab,col,dd,k0,k1,k2,k3,k5,hC⟩,h1,-,h3,h4⟩:=c;have F:=PySem.F.excBase_ValueError;have he:=F.ends;have hv:(Value.ref C::bm).contains (.type "ValueError")=true:=by rw[contains_cons,h1,Bool.or_true]
 have ha:(Value.ref C::bm).contains (.type "AttributeError")=false:=by rw[contains_cons,h3];rfl
 have hn:(Value.ref C::bm).contains (.type "NameError")=false:=by rw[contains_cons,h4];rfl
 refine codeAny_builtinAt F.entry ?_;unfold Builtin.«BaseException.__new__»;refine wpAt_bind ?_;show wpAt _ _ _ (stack >>= _) _ _ _;refine wpAt_bind (wpAt_stack λp below=>wpAt_of_wpAny ?_)
 wp_walk
 refine wpAt_of_wpAny ?_;rw[F.owner]
 repeat (first
  |with_reducible refine wpAny_loadPart_at hC ?_
  |with_reducible refine wpAny_madeHere_exc F.canon hC ?_
  |(with_reducible refine wpAny_isSubtype_exc hC ?_;first|rw[hv]|rw[ha]|rw[hn])
  |wp_step)
 show R _ _;rw[Heap.size_push];exact hq
end
section
variable{prog:Program}{w:World}{A:Around}{h:Heap}{g:Array GenState}{d:Drawn}{t:Nat}{os:OsState}{C f:Addr}{bm:List Value}{K:PySem.W.Frag}
theorem QY{R:Result->Shared->Prop}{rest:List Value}(X:K.In h)(c:FA h C bm)(hi:findIn K (.ref C) "__init__"=some (some (.ref f)))(hf:typeIn K (.ref f)=some (.type "function"))(hr:rest.length<=sizeLine)
 (hq:codeAny (model prog w) (A.under (.builtin "type.__call__" ⟨.ref C::rest,[]⟩)) (.call (.ref f) ⟨.ref (h.objs.size+1)::rest,[]⟩) (InitBack (h.objs.size+1) R) ⟨(h.push (JR rest)).push (Fw C h.objs.size none),g,d,t,os⟩):
 codeAny (model prog w) A (.call (.ref C) ⟨rest,[]⟩) R ⟨h,g,d,t,os⟩:=by
 obtain⟨nm,q,N,bs,hdct,sn,sub,ab,col,dd,k0,k1,k2,k3,k5,hC⟩:=c.at_;have F:=PySem.F.excBase_ValueError;have f1:=tc_lookup;have f2:=tc_bind (.ref C);have hT:(⟨h,g,d,t,os⟩:Shared).TypeIs (.ref C) "type":=⟨_,hC,rfl⟩;refine codeAny_of_tree ?_;show wpAny _ _ (callAny (.ref C) _) _ _ _
 repeat (any_goals (first|assumption|with_reducible refine wpAny_loadPart_at hC ?_|wp_step))
 refine⟨rfl,?_⟩;refine codeAny_call_builtin_at (Code.quiet_builtin _ (by decide +kernel)) entry_typeCall (wpAny_check_type_call_sub hC ?_)
 repeat (first|with_reducible refine wpAny_loadPart_at hC ?_|with_reducible refine wpAny_madeBy_exc hC ?_|wp_step)
 refine codeAny_call_builtin_code (Code.quiet_builtin _ F.quiet) (Oa c ?_);refine TF c hr ?_;show wpAny _ _ _ _ _ _;have k:∀b o,h.get? b=some o->((h.push (JR rest)).push (Fw C h.objs.size none)).get? b=some o:=λb o e=>gP (gP e)
 have hg:((h.push (JR rest)).push (Fw C h.objs.size none)).get? (h.objs.size+1)=some (Fw C h.objs.size none):=by heap_get
 have hC1:=k _ _ hC;have hcC:(Value.ref C::bm).contains (.ref C)=true:=by simp
 have i1:=(looks_findIn (M:=model prog w) X hi).keeps k;have b1:=(bind_fn (M:=model prog w) X (.ref (h.objs.size+1)) hf).keeps k;unfold isInstance
 repeat (first|with_reducible refine wpAny_loadPart_at hg ?_|(with_reducible refine wpAny_isSubtype_exc hC1 ?_;rw[hcC])|wp_step)
 show wpAny _ _ (isSubtype (.ref C) (.ref C)) _ _ ⟨(h.push (JR rest)).push (Fw C h.objs.size none),g,d,t,os⟩;refine wpAny_isSubtype_exc hC1 ?_;rw[hcC];simp only[Bool.not_true,Bool.false_eq_true,if_false];have t1:Looks (model prog w) ((h.push (JR rest)).push (Fw C h.objs.size none)) (typeOf (.ref (h.objs.size+1))) (.ref C):=(Looks.ld hg).andThen .now;unfold callSpecial? specialOf
 repeat (first|with_reducible refine wpAny_call ?_|lk)
 refine codeAny_mono hq λr s' z=>?_
 rcases r with e|(v|_|_|_)<;>first|exact z|exact z.elim|skip
 obtain⟨rfl,z⟩:=z;exact wP (wP z)
end
end Xc
namespace Xc
open PySem PySem.Spec PySem.Builtin PySem.Builtin.ObjectAttr
def Q7:List Value->Bool
 |.ref _::r=>Q7 r
 |r=>r == [.type "ValueError",.type "Exception",.type "BaseException",.type "object"]
theorem Ka(self:Value):∀{l:List Value},Q7 l=true->refuseLoop self "__setattr__" l=pure ():=by
 intro l
 induction l with
 |nil=>intro e;cases e
 |cons v l ih=>
   intro e;cases v with
   |ref c=>rw[refuseLoop_ref];exact ih e
   |_=>
     have:=beq_iff_eq.mp (show(_ == _)=true from e);rw[this];exact PySem.F.store_ValueError.passes self
theorem Q6:∀{l:List Value},Q7 l=true->l.contains (.type "object")=true:=by
 intro l
 induction l with
 |nil=>intro e;cases e
 |cons v l ih=>
   intro e;cases v with
   |ref c=>rw[contains_cons,ih e,Bool.or_true]
   |_=>
     have:=beq_iff_eq.mp (show(_ == _)=true from e);rw[this];decide +kernel
def N1(K:PySem.W.Frag)(C:Addr):Bool:=(clsIn K C).any λcd=>Q7 cd.mro
section
variable{prog:Program}{w:World}{A:Around}{E:Value->Shared->Prop}{s:Shared}{x C:Addr}{K:PySem.W.Frag}{name:Str}{v:Value}
theorem SQ{Q:Unit->Shared->Prop}{vs:Array Value}(X:K.In s.heap)(hx:s.heap.get? x=some ⟨.ref C,none,.fields vs,#[]⟩)
 (hs:findIn K (.ref C) "__setattr__"=some (some (.builtin "object.__setattr__")))(hp:N1 K C=true)(ht:takerIn K C name=some none)(hh:hasDictIn K C=true)
 (h:∀h' tk,h'.get? x=some ⟨.ref C,some s.heap.objs.size,.fields vs,#[]⟩->(∀b o,b≠x->s.heap.get? b=some o->h'.get? b=some o)->Q () {s with heap:=h',toks:=tk}):
 wpAny (model prog w) A (setAttr (.ref x) name v) Q E s:=by
 have I:InstAt s.heap x ⟨.ref C,none,.fields vs,#[]⟩ C none:=⟨hx,rfl,rfl,trivial⟩;refine set_plain X I hs ?_;have SF:=PySem.F.store_object;obtain⟨cd,hc,ho⟩:=any_some hp;obtain⟨cd',hc',hd⟩:=any_some hh;obtain rfl:cd=cd':=Option.some.inj (hc.symm.trans hc');have ne:cd.mro.isEmpty=false:=by cases q:cd.mro with|nil=>rw[q]at ho;cases ho|cons _ _=>rfl
 have sub:Looks (model prog w) s.heap (isInstance (.ref x) (.type "object")) true:=I.type.andThen (PySem.W.looks_mroIn X (by unfold mroIn;rw[hc,Option.bind_some,iN (by rw[ne];decide),Q6 ho]));refine codeAny_call_builtin SF.slot.plain SF.entry (@PySem.W.check_slot (model prog w) _ _ _ "object.__setattr__" "object" "__setattr__" (.ref x) [.str name s.toks,v] [] _ SF.kind SF.split sub (SF.args (.ref x) (.str name s.toks) v) ?_);obtain⟨attr,ha,hr⟩:=oB ht;have hm:Looks (model prog w) s.heap (mroOf (.ref C)) cd.mro:=(looks_clsIn X hc).andThen .now
 have L3:Looks (model prog w) s.heap (storeTaker? attr) none:=by
  cases attr with
  |none=>exact .now
  |some a=>
    obtain⟨b,hb,e⟩:=oM hr;refine(PySem.W.looks_takesIn X hb).andThen ?_;cases b
    .exact .now
    .cases e
 rw[osa_eq,refuse_eq];have kk:∀b o,s.heap.get? b=some o->s.heap.get? b=some o:=λ_ _ e=>e
 refine wB (wB (I.type _ _ _ _ kk (wB (hm _ _ _ _ kk ?_))));rw[Ka _ ho];refine wP (wB (I.type _ _ _ _ kk (wB (looks_findIn X ha _ _ _ _ kk (wB (L3 _ _ _ _ kk ?_))))));show wpAny _ _ (storeInOwnDict (.ref x) (.ref C) (.str name s.toks) name v _) _ _ _;refine wB (wP (wB (wB (wpAny_loadPart hx (wB (looks_clsIn X hc _ _ _ _ kk ?_))))));rw[hd];show wpAny _ _ (alloc _ >>= λd=>_) _ _ _;have hx1:(s.heap.push {cls:=.type "dict",data:=.dict #[]}).get? x=some ⟨.ref C,none,.fields vs,#[]⟩:=gP hx;have hxs:x≠s.heap.objs.size:=Nat.ne_of_lt (Heap.lt_size hx);refine wB (wpAny_alloc' (wB (wpAny_update' hx1 ?_)));refine wP ?_;show wpAny _ _ (storeInDict s.heap.objs.size (.str name s.toks) name v) _ _ _
 have hgd:((s.heap.push {cls:=.type "dict",data:=.dict #[]}).update x λo=>{cls:=o.cls,dict:=some s.heap.objs.size,data:=o.data,slots:=o.slots}).get? s.heap.objs.size=some {cls:=.type "dict",data:=.dict #[]}:=
  (Heap.get?_update_ne _ _ _ _ hxs.symm).trans (Heap.get?_push_at rfl rfl)
 have hnd:((s.heap.push {cls:=.type "dict",data:=.dict #[]}).update x λo=>{cls:=o.cls,dict:=some s.heap.objs.size,data:=o.data,slots:=o.slots}).Ns s.heap.objs.size (λ_=>none):=
  ⟨_,#[],_,hgd,rfl,λe he=>absurd he (by simp),λ_=>rfl⟩
 unfold storeInDict newKeyGuard;refine wB (wP (wB (wpAny_nsSet1 (s:=⟨_,s.gens,s.drawn,s.toks+1,s.os⟩) (Heap.Ns1.of_empty hnd) λh' hn' hs'=>?_)));obtain⟨oD,esD,epD,hoD,hdD,hcD⟩:=hn'.count (Within.cons name v Within.nil);refine wB (wpAny_lookBehind hoD (by rw[hdD];exact pastItsLine_dict (Nat.le_trans hcD (by rw[lC,length_nil,sizeLine_eq];omega))) ?_)
 wp_walk
 refine h h' _ ((hs'.2 x hxs).trans (Heap.get?_update_self _ hx1 rfl)) λb o hb e=>?_
 exact(hs'.2 b (Nat.ne_of_lt (Heap.lt_size e))).trans ((Heap.get?_update_ne _ _ _ _ hb).trans (gP e))
end
end Xc
namespace Xc
open PySem PySem.Spec L2
section
variable{P:Program}{w:World}{A:Around}{s:Shared}{e C f:Addr}{K:PySem.W.Frag}{x qual:Str}{st:Stmt}{fd:FuncData}{p1 p2 p3 p4:Pos}{sf pl:Str}
theorem QH{R:Result->Shared->Prop}{vs:Array Value}(F:Fz K x qual st f fd)(S:DU [sf,pl] [sf,pl] (Aw st))(hb:Binds K fd [sf,pl] [])
 (h1:(Aw st).names.lookup sf=some .local)(h2:(Aw st).names.lookup pl=some .local)
 (hbody:CD st=[.Assign [.Attribute (.Name sf p1) pl p2] (.Name pl p3) p4])(hne:sf≠pl)(d1:(sf == ("__debug__":Str))=false)(d2:(pl == ("__debug__":Str))=false)(hr:C6 2 A)(X:K.In s.heap)(lim:s.heap.NoLimit)
 (he:s.heap.get? e=some ⟨.ref C,none,.fields vs,#[]⟩)(hs:findIn K (.ref C) "__setattr__"=some (some (.builtin "object.__setattr__")))(hp:N1 K C=true)(ht:takerIn K C pl=some none)(hh:hasDictIn K C=true)
 (h:∀h' tk d,h'.get? e=some ⟨.ref C,some d,.fields vs,#[]⟩->(∀b o,b≠e->s.heap.get? b=some o->h'.get? b=some o)->R (.ok (.ret .none)) {s with heap:=h',toks:=tk}):
 codeAny (model P w) A (.call (.ref f) ⟨[.ref e,.none],[]⟩) R s:=by
 obtain⟨oc,od,kV,doc,pm,an,cdv,ct,osl,rfl,lk,hcd⟩:=F.ex
 have hkind:∀y∈[sf,pl].zip [Value.ref e,Value.none],(Aw st).names.lookup y.1=some .local\/((Aw st).names.lookup y.1=some .cell/\((cellsFrom (s.heap.objs.size + 1) (Aw st).names []).lookup y.1).isSome=true):=λ⟨n,v⟩ hy=>by
  rcases S.par n (of_mem_zip hy).1 with q|q
  .exact .inl q
  .exact .inr ⟨q,cellsFrom_some _ _ _ (.inl q)⟩
 refine codeAny_call_function hr.depth (X _ _ lk) rfl S.co S.gen rfl (codeRec_of X hcd) (hb s [.ref e,.none] X rfl _ _ _ _ ?_);refine wpAny_newFunctionEnv_cells S.kind hkind λenv hen s1 x=>?_
 subst hen;refine⟨lim.keeps x.toInCall.keep,codeAny_func ?_⟩;show wpAny (model P w) (A.deeper (PyProof.Rows.envOfC qual (Aw st) s.heap.objs.size f cdv)) (execs (CD st) (PyProof.Rows.envOfC qual (Aw st) s.heap.objs.size f cdv)) _ _ s1;have hk:=x.toInCall.keep;have hns:=x.toInCall.ns;obtain⟨h1',tk,rfl,hkp⟩:=x.done;have m1:=EC (kindOf:=(PyProof.Rows.envOfC qual (Aw st) s.heap.objs.size f cdv).kindOf) (m:=λ_=>none) (vs:=[Value.ref e,Value.none]) S.nd (i:=0) (x:=sf) rfl rfl h1;have m2:=EC (kindOf:=(PyProof.Rows.envOfC qual (Aw st) s.heap.objs.size f cdv).kindOf) (m:=λ_=>none) (vs:=[Value.ref e,Value.none]) S.nd (i:=1) (x:=pl) rfl rfl h2;rw[hbody];refine wpAny_execs_cons (plainObj_wpAny_Assign_Attribute ?_);refine wpAny_Name (wpAny_loadName_local S.kind h2 hns m2 ?_) d2;refine wpAny_Name (wpAny_loadName_local S.kind h1 hns m1 ?_) d1;refine SQ (λb o q=>hk b o (X b o q)) (hk _ _ he) hs hp ht hh λh' tk' q1 q2=>?_
 exact wpAny_execs_nil (h h' tk' _ q1 λb o hb q=>q2 b o hb (hk b o q))
end
variable{s:Shared}
theorem Ly{M:Model}{A:Around}{E:Value->Shared->Prop}{env:Env}{x:Sem Value}{Q:Flow->Shared->Prop}{C:Addr}{bm:List Value}(hh:A.handled=none)
 (h:wpAny M A x (λv s1=>∃e d t,v= .ref e/\FA s1.heap C bm/\s1.heap.get? e=some (Fw C t d)/\E (.ref e) s1) E s):wpAny M A (raiseStmt env (some x) none) Q E s:=by
 unfold raiseStmt;refine wB (Bf h λv s1 ⟨e,d,t,hv,c,he,hE⟩=>?_);subst hv;obtain⟨nm,q,N,bs,hdct,sn,sub,ab,col,dd,k0,k1,k2,k3,k5,hC⟩:=c.at_;have hcB:(Value.ref C::bm).contains (.type "BaseException")=true:=by rw[contains_cons,c.base,Bool.or_true]
 obtain⟨hp,g,dr,tk,os⟩:=s1
 repeat (first|with_reducible refine wpAny_loadPart_at he ?_|with_reducible refine wpAny_loadPart_at hC ?_|(with_reducible refine wpAny_isSubtype_exc hC ?_;rw[hcB])|wp_step)
 exact wpAny_raiseNew_none hh hE
structure Xk(K:PySem.W.Frag)(C f:Addr)(sf pl:Str)(st:Stmt)(fd:FuncData):Prop where
 cls:∃bm,∀h:Heap,K.In h->FA h C bm
 kp:keepIn K (.ref C)=true
 fj:findIn K (.ref C) "__init__"=some (some (.ref f))
 fn:isFn K (.ref f)=true
 sa:findIn K (.ref C) "__setattr__"=some (some (.builtin "object.__setattr__"))
 ov:N1 K C=true
 tk:takerIn K C pl=some none
 hd:hasDictIn K C=true
 fu:∃x qual,Fz K x qual st f fd
 sc:DU [sf,pl] [sf,pl] (Aw st)
 bi:Binds K fd [sf,pl] []
 l1:(Aw st).names.lookup sf=some .local
 l2:(Aw st).names.lookup pl=some .local
 bd:∃p1 p2 p3 p4,CD st=[.Assign [.Attribute (.Name sf p1) pl p2] (.Name pl p3) p4]
 ne:sf≠pl
 d1:(sf == ("__debug__":Str))=false
 d2:(pl == ("__debug__":Str))=false
theorem O0{X:Cx}{C:Addr}{sf pl:Str}{st:Stmt}{fd:FuncData}{cp pos np:Pos}{j:Nat}{pins:List (Addr×Obj)}{σ:St}{H:Hp}{Q:Flow->Shared->Prop}
 (k:Xk X.K C f sf pl st fd)(hr:C6 4 X.A)(hg:Gl X x)(hm:X.mg x=some (.ref C))(hdb:(x == ("__debug__":Str))=false)(I:Inv X pins σ H s)
 (h:∀s1 s' e t d,Inv X pins σ H s1->s'.os=s1.os->s'.gens=s1.gens->(∀b o,s1.heap.get? b=some o->s'.heap.get? b=some o)->s1.heap.get? e=none->s'.heap.get? e=some (Fw C t d)->X.xe (.ref e) s'):
 wpAny (model X.prog X.w) X.A (exec (.Raise (some (.Call (.Name x p) [.Constant .none j np] [] cp)) none pos) X.env) Q X.xe s:=by
 rw[arm_exec_Raise];obtain⟨bm,hc⟩:=k.cls;refine wB (wpAny_standAt (Ly (C:=C) (bm:=bm) hr.hd ?_));refine wB (Bf (Q:=λv s1=>∃e d t,v= .ref e/\FA s1.heap C bm/\s1.heap.get? e=some (Fw C t d)/\X.xe (.ref e) s1) ?_ λv s1 h1=>wB (wpAny_standAt (wP h1)));refine wpAny_Call_Name_kw (Ex I hg hm ?_ hdb);refine callWith_K (h₀:=X.base) I.ok.mod.B3 k.kp (Bf ((D7 (X:=X) (PR (j:=j) (pos:=np)) EW rfl) cp pins s σ H (λvs H1=>vs=[V.AI]/\H1=H) I ⟨rfl,rfl⟩) λus s1 ⟨vs,H1,I1,r,e1,e2⟩=>⟨I1.DQ,?_⟩);subst e1;subst e2;obtain⟨u,rfl,ru⟩:=vals1 r;obtain rfl:u=Value.none:=ru;obtain⟨x',qual,F⟩:=k.fu;obtain⟨p1,p2,p3,p4,hb⟩:=k.bd;have hf:=beq_iff_eq.mp k.fn;have I0:=I1;obtain⟨hp,g,dr,tk,os⟩:=s1;refine wpAny_call (QY I1.DQ (hc _ I1.DQ) k.fj hf (by decide) ?_);have kk:∀b o,hp.get? b=some o->((hp.push (JR [.none])).push (Fw C hp.objs.size none)).get? b=some o:=λb o e=>gP (gP e)
 refine QH (s:=⟨(hp.push (JR [.none])).push (Fw C hp.objs.size none),g,dr,tk,os⟩) F k.sc k.bi k.l1 k.l2 hb k.ne k.d1 k.d2 ((hr.mono (by decide:3<=4)).make C [.none] []) (λb o q=>kk b o (I1.DQ b o q)) (I1.nolimit.keeps kk) (by heap_get) k.sa k.ov k.tk k.hd λh' tk' d q1 q2=>?_
 have kp:∀b o,hp.get? b=some o->h'.get? b=some o:=λb o q=>q2 b o (Nat.ne_of_lt (Nat.lt_succ_of_lt (Heap.lt_size q))) (kk b o q)
 exact⟨rfl,_,some d,hp.objs.size,rfl,(hc hp I1.DQ).keeps kp,q1,h ⟨hp,g,dr,tk,os⟩ _ _ _ _ I0 rfl rfl kp (Heap.get?_none_of_le (Nat.le_succ _)) q1⟩
end Xc
namespace Xc
open PySem PySem.Spec L2 PyProof.Rows
noncomputable def HH(P:Program)(w:World):VA:=λouter H s E e s'=>∃(ea:Addr) (cls a0:Value) (B:Heap) (H':Hp),e= .ref ea/\s'.os=s.os/\AllBare s'.gens/\Un (DR outer) [] H H' s.heap s'.heap/\Ce P w H' s'.heap/\
 Heap.FlyingW B outer ea cls a0 s'.heap/\(∀b,b∉DR outer->((∃o,s.heap.get? b=some o)\/H' b≠none)->∃o,B.get? b=some o)/\E cls none H'
variable{w:World}
theorem MY{P:Program}{X:Cx}:Passes (HH P w) X E0:=λ_ _ _ _ _ _ _ ⟨_,_,_,_,_,_,_,_,_,_,_,_,q⟩=>q.elim
section
variable{X:Cx}{pins:List (Addr×Obj)}{σ:L2.St}{H H':Hp}{s s':Shared}{B h':Heap}{e:Addr}{cls a0:Value}{E:XK}
theorem aF{P:Program}{w:World}(ok:Ce P w H' s'.heap)(hB:∀b o,s'.heap.get? b=some o->H' b≠none->h'.get? b=some o):Ce P w H' h':=λa o q=>
 (ok a o q).JT (λb u hb r=>hB b u r (by rcases hb with rfl|hb<;>simp_all)) (λ_ r=>r) λ_ _ r=>r
theorem QO{l:List Addr}{R:Addr->Prop}(k0:B.StaysIn s'.heap)(hB:∀b,b∉l->R b->∃o,B.get? b=some o){b:Addr}{o:Obj}(q:s'.heap.get? b=some o)(hb:b∉l)(r:R b):B.get? b=some o:=by
 obtain⟨o2,e2⟩:=hB b hb r;have:=k0 b o2 e2;rw[q]at this;rw[e2,this]
theorem MA(I:Inv X pins σ H s)(un:Un (DR X.stack) [] H H' s.heap s'.heap)(k0:B.StaysIn s'.heap)(hB:∀b,b∉DR X.stack->((∃o,s.heap.get? b=some o)\/H' b≠none)->∃o,B.get? b=some o)(k1:B.StaysIn h')(k4:s'.heap.UpToSlots h'):
 Un (DR X.stack) [] H H' s.heap h' where
 keep:=λb o q n hb hx=>k1 b o (QO k0 hB (un.keep b o q n hb hx) hb (.inl ⟨o,q⟩))
 slot:=λb o q n hb hx=>by
  obtain⟨sl,e1⟩:=un.slot b o q n hb hx;obtain⟨_,o',q',hd⟩:=I.stack.mem hb;rw[q]at q';cases q';obtain⟨sl',e2⟩:=k4 b _ e1 hd;exact⟨sl',e2⟩
 free:=un.free
 there:=λb o q hx=>by
  by_cases hb:b∈DR X.stack
  .obtain⟨sl,e1⟩:=un.slot b o q (I.Fb b hb) hb hx;obtain⟨_,o',q',hd⟩:=I.stack.mem hb;rw[q]at q';cases q';obtain⟨sl',e2⟩:=k4 b _ e1 hd;exact⟨_,e2⟩
  .obtain⟨o',e1⟩:=un.there b o q hx;exact⟨o',k1 b o' (QO k0 hB e1 hb (.inl ⟨o,q⟩))⟩
 Gj:=un.Gj
 FX:=un.FX
 Gk:=un.Gk
theorem Kt(I:Inv X pins σ H s)(un:Un (DR X.stack) [] H H' s.heap s'.heap)(Af:Ce X.prog X.w H' s'.heap)(k0:B.StaysIn s'.heap)(hB:∀b,b∉DR X.stack->((∃o,s.heap.get? b=some o)\/H' b≠none)->∃o,B.get? b=some o)(k1:B.StaysIn h'):Ce X.prog X.w H' h':=
 aF Af λb o q hn=>k1 b o (QO k0 hB q (λhb=>by
  obtain⟨_,o',q',_⟩:=I.stack.mem hb
  exact hn (un.free b o' q' (I.Fb b hb) (by simp))) (.inr hn))
theorem N7(I:Inv X pins σ H s)(hst:X.stack=X.env::X.outer)(hf:X.env.frame=some X.env.locals)(hex:X.ex=[])(os:s'.os=s.os)(gb:AllBare s'.gens)(un:Un (DR X.stack) [] H H' s.heap s'.heap)(Af:Ce X.prog X.w H' s'.heap)
 (k0:B.StaysIn s'.heap)(hB:∀b,b∉DR X.stack->((∃o,s.heap.get? b=some o)\/H' b≠none)->∃o,B.get? b=some o)(L:Heap.LeftW B (X.env::X.outer) e cls a0 s'.heap h')(en:B.get? e=none)(q:E cls none H'):
 HH X.prog X.w X.outer X.H₀ X.s₀ E (.ref e) {s' with heap:=h'}:=by
 obtain⟨k1,⟨_,_,k2⟩,k3,k4⟩:=L;have U:=MA I un k0 hB k1 k4;have hfs:DR X.stack=X.env.locals::DR X.outer:=by rw[hst];unfold DR;rw[filterMap_cons,hf]
 have out:∀b o,X.s₀.heap.get? b=some o->b∉DR X.outer->b∉DR X.stack:=λb o q hb=>by
  rw[hfs];intro hm;rcases mK hm with z|z
  .exact absurd (Heap.lt_size q) (by rw[z];exact Nat.not_lt.mpr I.ok.above)
  .exact hb z
 have M0:∀b,b∈DR X.outer->b∈DR X.stack:=λb hb=>by rw[hfs];exact mC hb
 have no:∀b:Addr,b∉X.ex:=λb=>by rw[hex];simp
 refine⟨e,cls,a0,B,H',rfl,os.trans I.os,gb,⟨λb o q n hb hx=>?_,λb o q n hb hx=>?_,λb o q n hx=>?_,λb o q hx=>?_,λb xs q=>U.Gj b xs (I.base.Gj b xs q),λb o u q=>U.FX b o u (I.base.FX b o u q),λb ps q=>?_⟩,Kt I un Af k0 hB k1,⟨k1,en,k2,k3⟩,λb hb hor=>?_,q⟩
 .exact U.keep b o (I.base.keep b o q n hb (no b)) (I.base.free b o q n (no b)) (out b o q hb) hx
 .obtain⟨sl,e1⟩:=I.base.slot b o q n hb (no b);obtain⟨sl',e2⟩:=U.slot b _ e1 (I.base.free b o q n (no b)) (M0 b hb) hx;exact⟨sl',e2⟩
 .obtain⟨o',e1⟩:=I.base.there b o q (no b);exact U.free b o' e1 (I.base.free b o q n (no b)) hx
 .obtain⟨o',e1⟩:=I.base.there b o q (no b);exact U.there b o' e1 hx
 .obtain⟨m1,e1⟩:=I.base.Gk b ps q;obtain⟨m2,e2⟩:=U.Gk b _ e1;exact⟨m1++m2,by rw[e2,Array.append_assoc]⟩
 .rcases hor with⟨o,e0⟩|hn
  .obtain⟨o',e1⟩:=I.base.there b o e0 (no b);exact hB b (out b o e0 hb) (.inl ⟨o',e1⟩)
  .exact hB b (λhm=>by
    obtain⟨_,o',q',_⟩:=I.stack.mem hm
    exact hn (un.free b o' q' (I.Fb b hm) (by simp))) (.inr hn)
end
variable{X:Cx}{pins:List (Addr×Obj)}{σ:L2.St}{H H':Hp}{s s':Shared}{E E':XK}
variable{h:Heap}
theorem Ib{P:Program}{H:Hp}{a:Addr}{o:HO}(x:BN P w H h a o):∃ob,h.get? a=some ob:=by
 induction o with
 |lst xs=>obtain⟨_,_,_,_,e⟩:=x;exact⟨_,e⟩
 |tup xs=>obtain⟨_,_,_,ob,e,_⟩:=x;exact⟨ob,e⟩
 |dK kvs=>obtain⟨_,_,_,_,o,_,_,e,_⟩:=x;exact⟨_,e⟩
 |dT kvs=>obtain⟨_,_,_,_,o,_,_,e,_⟩:=x;exact⟨_,e⟩
 |set S n=>obtain⟨o,_,_,_,e,_⟩:=x;exact⟨_,e⟩
 |ins C dx fs=>obtain⟨_,_,_,e,_⟩:=x;exact⟨_,e⟩
 |own y=>exact x
 |xd fs=>obtain⟨_,⟨_,_,_,e,_⟩,_⟩:=x;exact⟨_,e⟩
 |Ff lo hi=>obtain⟨_,_,_,e⟩:=x;exact⟨_,e⟩
 |M7 o u ih=>exact⟨_,x.1⟩
 |VB ps=>exact⟨_,x⟩
 |met f y=>exact⟨_,x⟩
 |ext φ=>exact x.2.1
theorem Kv{base:Heap}{as:List Addr}:∀{l:List PySem.Env},h.FunFrames base l->(∀b∈DR l,b∈as)->h.FunFrames (hideAll h as) l
 |[],_,_=>trivial
 | env::l,⟨hk,⟨L,o,hf,_,ho,hd⟩,hr⟩,hin=>by
   have h1:DR (env::l)=L::DR l:=by unfold DR;rw[filterMap_cons,hf]
   exact⟨hk,⟨L,o,hf,hideAll_none _ (hin L (by rw[h1];exact .head _)),ho,hd⟩,Kv hr λb hb=>hin b (by rw[h1];exact .tail _ hb)⟩
theorem OP{C:Addr}{d:Option Addr}(I:Inv X pins σ H s)(hst:X.stack=X.env::X.outer)(hf:X.env.frame=some X.env.locals)(hex:X.ex=[])(os:s'.os=s.os)(gb:s'.gens=s.gens)
 (kp:∀b o,s.heap.get? b=some o->s'.heap.get? b=some o)(en:s.heap.get? e=none)(he:s'.heap.get? e=some (Fw C t d))(q:E (.ref C) none H):
 wpAny (model X.prog X.w) X.A (leaving X.env (.ref e)) (λ_ s''=>HH X.prog X.w X.outer X.H₀ X.s₀ E (.ref e) s'') (λe' s''=>HH X.prog X.w X.outer X.H₀ X.s₀ E e' s'') s':=by
 have k0:(hideAll s.heap (DR X.stack)).StaysIn s'.heap:=λb o q=>kp b o (of_hideAll _ q)
 have en':(hideAll s.heap (DR X.stack)).get? e=none:=by
  cases q:(hideAll s.heap (DR X.stack)).get? e with
  |none=>rfl
  |some o=>have:=of_hideAll _ q;rw[en]at this;cases this
 have ff:=Kv I.stack (as:=DR X.stack) λb hb=>hb
 have ff':=ff.of_keeps (h':=s'.heap) λb o q _=>⟨o,kp b o q,rfl⟩
 have ff2:s'.heap.FunFrames (hideAll s.heap (DR X.stack)) (X.env::X.outer):=hst▸ff';refine wpAny_leaving_firstW (base:=hideAll s.heap (DR X.stack)) (outer:=X.outer) (by rw[I.ok.frames,hst]) ff2 hf he k0 en' rfl rfl rfl λh' L=>?_
 refine N7 (B:=hideAll s.heap (DR X.stack)) I hst hf hex os (by rw[gb];exact I.bare) ⟨λb o q _ _ _=>kp b o q,λb o q _ _ _=>⟨o.slots,kp b o q⟩,λb o q n _=>n,λb o q _=>⟨o,kp b o q⟩,λ_ _ q=>q,λ_ _ _ q=>q,λ_ ps q=>⟨#[],by rw[Array.append_empty];exact q⟩⟩ (I.Af.kept kp) k0 (λb hb hor=>?_) L en' q;rcases hor with⟨o,e0⟩|hn
 .exact⟨o,hideAll_get _ e0 hb⟩
 .have hl:∃o,s.heap.get? b=some o:=by
   cases hH:H b with
   |none=>exact absurd hH hn
   |some u=>exact Ib (I.Af b u hH)
  obtain⟨o,e0⟩:=hl;exact⟨o,hideAll_get _ e0 hb⟩
theorem Si(I:Inv X pins σ H s)(hst:X.stack=X.env::X.outer)(hf:X.env.frame=some X.env.locals)(hex:X.ex=[])(c:HH X.prog X.w X.stack H s E' e s')(hE:∀cls H',E' cls none H'->E cls none H'):
 wpAny (model X.prog X.w) X.A (leaving X.env e) (λ_ s''=>HH X.prog X.w X.outer X.H₀ X.s₀ E e s'') (λe' s''=>HH X.prog X.w X.outer X.H₀ X.s₀ E e' s'') s':=by
 obtain⟨ea,cls,a0,B,H',rfl,os,gb,un,Af,⟨f1,f2,f3,f4⟩,hB,q⟩:=c;rw[hst]at f3;exact wpAny_leaving_nextW (by rw[I.ok.frames,hst]) f3 hf f4 f1 f2 λh' L=>N7 I hst hf hex os gb un Af f1 hB L f2 (hE _ _ q)
section
variable{C:Addr}{x z:Str}{p zp rp hp:Pos}{j:Nat}
theorem land{R:Hp->Prop}{Q:Flow->Shared->Prop}(hc:∃bm,∀h:Heap,X.K.In h->FA h C bm)(hg:Gl X x)(hm:X.mg x=some (.ref C))(hdb:(x == ("__debug__":Str))=false)(I:Inv X pins σ H s)(hst:X.stack=X.env::X.outer)(hf:X.env.frame=some X.env.locals)
 (c:HH X.prog X.w X.stack H s E e s')(hE:∀cls H',E cls none H'->cls= .ref C/\R H')(k:∀H' s'' t,Inv X pins σ H' s''->R H'->Q (.ret (.str z t)) s''):
 wpAny (model X.prog X.w) X.A (noteFrame e X.env) (λ_ s2=>wpAny (model X.prog X.w) X.A (setFlight e none) (λ_ s3=>wpAny (model X.prog X.w) X.A (handleBy e X.env [.ExceptHandler (some (.Name x p)) none [.Return (some (.Constant (.str z) j zp)) rp] hp]) Q X.xe s3) X.xe s2) X.xe s':=by
 obtain⟨ea,cls,a0,B,H',rfl,os,gb,un,Af,fl,hB,q⟩:=c;obtain⟨rfl,r⟩:=hE _ _ q;obtain⟨bm,hc⟩:=hc;have inv:∀h':Heap,B.StaysIn h'->s'.heap.UpToSlots h'->Inv X pins σ H' {s' with heap:=h'}:=λh' k1 k4=>I.W0 (ch:=[]) os (MA I un fl.1 hB k1 k4) (Kt I un Af fl.1 hB k1) gb (λb z=>absurd z (by simp))
 have fr:X.A.frames=some (X.env::X.outer):=by rw[I.ok.frames,hst]
 rw[hst]at fl;refine wpAny_looks_onW fr hf fl λh4 held u4=>?_
 refine wpAny_landsW held λh5 f5 u5=>?_
 refine wpAny_handleBy_cons (codeAny_handlers_test ?_) (by intro z;cases z);have I5:=inv h5 f5.1 (u4.trans u5);refine Calls.Name_function_global I5.ok.kind hg (Calls.loadGlobal_global (by rw[I5.ok.glob];exact I5.mod.glob.keeps I5.bk) hm ?_) hdb;obtain⟨nm,q1,N,bs,hdct,sn,sub,ab,col,dd,k0,k1,k2,k3,k5,hC⟩:=(hc h5 I5.DQ).at_;obtain⟨oe,he,hcl⟩:=f5.there;refine wpAny_excMatches_sub_self hC he hcl (hc h5 I5.DQ).base ?_;show codeAny _ _ _ _ _;refine codeAny_handlers_suite (lands_againW f5 λh6 f6 u6=>?_);have I6:=inv h6 f6.1 ((u4.trans u5).trans u6);exact wpAny_execs_cons (wpAny_Return_some (Calls.Constant_str (k H' _ _ (I6.tok _) r)))
theorem Wl{D:Ends}{st:Stmt}{R:Hp->Prop}{pos:Pos}(hc:∃bm,∀h:Heap,X.K.In h->FA h C bm)(hg:Gl X x)(hm:X.mg x=some (.ref C))(hdb:(x == ("__debug__":Str))=false)(hst:X.stack=X.env::X.outer)(hf:X.env.frame=some X.env.locals)(I:Inv X pins σ H s)
 (hR:∀H',R H'->D.rt (.str z) H')
 (hb:∀xe,PassesOwn (model X.prog X.w) X.A X.env xe->(∀σ H s e s',Inv X pins σ H s->HH X.prog X.w X.stack H s (λcls _ H'=>cls= .ref C/\R H') e s'->xe e s')->wpAny (model X.prog X.w) X.A (exec st X.env) (SP X pins D) xe s):
 wpAny (model X.prog X.w) X.A (exec (.Try [st] [.ExceptHandler (some (.Name x p)) none [.Return (some (.Constant (.str z) j zp)) rp] hp] [] [] pos) X.env) (SP X pins D) X.xe s:=by
 rw[arm_exec_Try];refine wB (wpAny_standAt (wpAny_tryStmt_except (wpAny_execs_cons (wpAny_mono (hb (λe s1=>wpAny (model X.prog X.w) X.A (noteFrame e X.env) (λ_ s2=>wpAny (model X.prog X.w) X.A (setFlight e none) (λ_ s3=>wpAny (model X.prog X.w) X.A (handleBy e X.env [.ExceptHandler (some (.Name x p)) none [.Return (some (.Constant (.str z) j zp)) rp] hp]) (SP X pins D) X.xe s3) X.xe s2) X.xe s1) PassesOwn.looking ?_) (λf s1 q=>?_) λe s1 q=>q))))
 .intro σ' H1 s1 e s2 I1 c;exact land hc hg hm hdb I1 hst hf c (λ_ _ q=>q) λH2 s3 t I2 r=>⟨.str z,σ',H2,I2,⟨t,rfl⟩,hR H2 r⟩
 .cases f with
  |next=>exact wpAny_execs_nil (wpAny_execs_nil q)
  |_=>exact q
end
end Xc
namespace Iv
open PySem L2 PyProof.Rows
section
variable{X:Cx}{W:Wd}{cf:CF}{mt:MT}
theorem AK.at(hK:W.K=X.K)(hw:W.w=X.w){e:Expr}{t:T}(hb:∀ρ,tv cf mt t ρ=(BG t (ev cf mt t) ρ).bind λh ρ=>Res.of ((h.cont ρ).bind CI) ρ)(hi:Bd t=(.op,[t]))(v:PE X e (tG W (rV W) (ev cf mt t)))(h:PE X e (tG W (ER W) (BG t (ev cf mt t))))
 (x:t.calm=true->PE X e (tX W t))(he:∀whole,isTrue e X.env whole=(do let v <-whole;standAt e.pos;holding [v] (truthy v)))(st:AL e=true)(nc:BW e=false:=by rfl):AK X W cf mt e t:=by
 refine⟨v,h,GS (Pz hK h he) λσ H Q z=>Lo ?_,x,st,λ_ tg=>?_,λi y py spos hN hi' hx hf=>GU hN hi' hx v (CK nc _ _ _) hf,λz=>(by rw[nc]at z;cases z),λu z=>?_,λu w z=>?_⟩
 .rw[show(λρ=>(BG t (ev cf mt t) ρ).bind λh ρ=>Res.of ((h.cont ρ).bind CI) ρ)=tv cf mt t from funext λρ=>(hb ρ).symm];exact z
 .rw[hi];show PI X tg e (NM W .op (Ad cf mt [t]));rw[DC];exact MW hK hw h
 .rw[z]at hi;cases hi
 .rw[z]at hi;cases hi
theorem QZ(i:Nat)(ρ:Env):ev cf mt (.var i) ρ=match A8 ρ i with
 |some c=>if c.cp then .ok c ρ else .ok c (ρ.set i none)
 |none=>.stuck:=rfl
variable{pos:Pos}
theorem Sv(hK:W.K=X.K)(hw:W.w=X.w){i:Nat}{x:Str}(hN:X.N[i]? =some x)(hv:bf X.env.scope x)(hd:(x == ("__debug__":Str))=false)(hcd:(x == ("__classdict__":Str))=false):AK X W cf mt (.Name x pos) (.var i):=by
 have pe:=LC (pos:=pos) hN hv hd hcd;refine AK.at hK hw (λρ=>?_) rfl (Az pe λσ H Q z=>?_) (Az pe λσ H Q z=>?_) (λ_=>Az pe λσ H Q z=>z) (λ_=>rfl) rfl
 .show(den cf mt (.var i)).b ρ=_;unfold den;rfl
 .obtain⟨ρ,os,hR,hn,hA⟩:=z;rw[QZ]at hA;cases hg:A8 ρ i with
  |none=>rw[hg]at hA;exact False.elim hA
  |some c=>
    rw[hg]at hA;dsimp only at hA;split at hA
    .rename_i hc;obtain⟨v,o,q1,q2,_⟩:=hR.get hg;have:=q2.cp hc;subst this;exact⟨v,q1,hA v H [] os q2 hR hn (Ba.refl _ _)⟩
    .obtain⟨v,o,os',q1,q2,q3,q4⟩:=hR.take hg;exact⟨v,q1,hA v H o os' q2 q3 (q4.nodup_iff.mpr hn) ((Ba.refl _ _).sub λa ha=>q4.subset ha)⟩
 .obtain⟨ρ,os,hR,hn,hA⟩:=z;have hA:Cs W (ER W σ) H os σ (if(A8 ρ i).isSome then .ok (.slot i) ρ else .stuck) Q:=hA;cases hg:A8 ρ i with
  |none=>rw[hg]at hA;exact False.elim hA
  |some c=>
    rw[hg]at hA;obtain⟨v,o,q1,q2,_⟩:=hR.get hg;exact⟨v,q1,hA v H [] os ⟨q1,rfl⟩ hR hn (Ba.refl _ _)⟩
theorem Ro{H H':Hp}(h:IA p=true)(h1:Al W H p v)(h2:Al W H' p w):v=w:=by
 cases p with
 |AI=>rw[B5.mp h1,B5.mp h2]
 |bl b=>rw[Cq.mp h1,Cq.mp h2]
 |int b=>rw[Ai.mp h1,Ai.mp h2]
 |str b=>rw[AD.mp h1,AD.mp h2]
 |tup _=>cases h
theorem Fe(hK:W.K=X.K)(hw:W.w=X.w){e:Expr}(pe:PE X e (tC v))(hp:∀H,Al W H p v)(he:∀whole,isTrue e X.env whole=(do let v <-whole;standAt e.pos;holding [v] (truthy v)))(st:AL e=true)(nc:BW e=false:=by rfl):AK X W cf mt e (.cst p):=by
 refine AK.at hK hw (λρ=>?_) rfl (Az pe λσ H Q z=>?_) (Az pe λσ H Q z=>?_) (λhc=>Az pe λσ H Q z=>?_) he st nc
 .show(den cf mt (.cst p)).b ρ=_;unfold den;rfl
 .obtain⟨ρ,os,hR,hn,hA⟩:=z
  have hA:Cs W (rV W σ) H os σ (.ok (.p p) ρ) Q:=by
   rw[show ev cf mt (.cst p) ρ= .ok (.p p) ρ from by show(den cf mt (.cst p)).v ρ=_;unfold den;rfl]at hA;exact hA
  exact hA v H [] os ⟨hp H,rfl⟩ hR hn (Ba.refl _ _)
 .obtain⟨ρ,os,hR,hn,hA⟩:=z
  have hA:Cs W (ER W σ) H os σ (.ok (.Bt (.p p)) ρ) Q:=by
   rw[show BG (.cst p) (ev cf mt (.cst p)) ρ= .ok (.Bt (.p p)) ρ from by unfold BG ev den;rfl]at hA;exact hA
  exact hA v H [] os ⟨hp H,rfl⟩ hR hn (Ba.refl _ _)
 .obtain⟨w,⟨h1,h2⟩,q⟩:=z;have:=Ro hc (hp H) h2;subst this;exact q
theorem SH(hK:W.K=X.K)(hw:W.w=X.w){i:Nat}{x:Str}(hN:X.N[i]? =some x)(hv:bf X.env.scope x)(hd:(x == ("__debug__":Str))=false)(hcd:(x == ("__classdict__":Str))=false):AK X W cf mt (.Attribute (.Name x p) f pos) (.fld i f):=by
 have pe:=PX (f:=f) (pos:=pos) (LC (pos:=p) hN hv hd hcd) rfl;refine AK.at hK hw (λρ=>?_) rfl (Az pe λσ H Q z=>?_) (Az pe λσ H Q z=>?_) (λhc=>Az pe λσ H Q z=>?_) (λ_=>rfl) rfl
 .show(den cf mt (.fld i f)).b ρ=_;unfold den;rfl
 .obtain⟨ρ,os,hR,hn,hA⟩:=z;rw[show ev cf mt (.fld i f) ρ=(match Bz ρ i f with|some c=>if c.cp then .ok c ρ else .stuck|none=>.stuck)from by show(den cf mt (.fld i f)).v ρ=_;unfold den;rfl]at hA;cases hg:Bz ρ i f with
  |none=>rw[hg]at hA;exact False.elim hA
  |some c=>
    rw[hg]at hA;dsimp only at hA;split at hA
    .rename_i hc;obtain⟨a,C,dx,fs,v,b,o',q1,q2,q3,q4,q5,rfl,q6⟩:=FZ hR hg;have:o'=[]:=Bk.cp (c:=.b b) q6 hc;subst this;exact⟨.ref a,q1,a,C,dx,fs,v,rfl,q2,hK▸q3,hK▸q4,q5,hA v H [] os q6 hR hn (Ba.refl _ _)⟩
    .exact False.elim hA
 .obtain⟨ρ,os,hR,hn,hA⟩:=z;have hA:Cs W (ER W σ) H os σ (if(Bz ρ i f).isSome then .ok (.fld i f) ρ else .stuck) Q:=hA;cases hg:Bz ρ i f with
  |none=>rw[hg]at hA;exact False.elim hA
  |some c=>
    rw[hg]at hA;obtain⟨a,C,dx,fs,v,b,o',q1,q2,q3,q4,q5,_,q6⟩:=FZ hR hg;exact⟨.ref a,q1,a,C,dx,fs,v,rfl,q2,hK▸q3,hK▸q4,q5,hA v H [] os ⟨rfl,a,C,dx,fs,q1,q2,q5⟩ hR hn (Ba.refl _ _)⟩
 .obtain⟨v,⟨a,C,dx,fs,q1,q2,q3,q4,q5⟩,q⟩:=z;exact⟨.ref a,q1,a,C,dx,fs,v,rfl,q2,hK▸q3,hK▸q4,q5,q⟩
structure bV(X:Cx)(W:Wd)(cf:CF)(k f:Nat):Prop where
 ex:∃fd ps,Eo X.prog X.w X.K X.mg X.base (Xc.HH X.prog X.w) k (W.Jr f) fd ps (NS W (cf f))/\Binds X.K fd ps []
theorem Cp{es:List Expr}(h:∀e∈es,AL e=true)(pos:Pos)(env:PySem.Env):(backTo pos (starEach es env)).any (·.1)=false:=by
 rw[GL h];unfold backTo;rw[map_map,List.any_map];rw[List.any_eq_false];intro e _;simp
theorem AN(f:Nat)(ts:List T):ev cf mt (.call f ts)=λρ=>(Ad cf mt ts ρ).bind λhs ρ=>AY cf f hs ρ:=rfl
theorem Pd(hK:W.K=X.K)(hw:W.w=X.w){k f:Nat}{es:List Expr}{ts:List T}(F:bV X W cf k f)(hr:C6 k X.A)(hg:Gl X x)(hm:X.mg x=some (.ref (W.Jr f)))(hk:keepIn X.K (.ref (W.Jr f))=true)(hdb:(x == ("__debug__":Str))=false)
 (h:Cz X W cf mt es ts):AK X W cf mt (.Call (.Name x p) es [] pos) (.call f ts):=by
 obtain⟨fd,ps,F1,F2⟩:=F.ex;refine AK.of hK hw (λ_ _=>rfl) (λρ=>by show(den cf mt (.call f ts)).b ρ=(((den cf mt (.call f ts)).v ρ).bind _).bind _;unfold den;rfl) rfl rfl ?_ (λ_=>rfl) rfl;rw[AN];have pl:=h.plain;have pd:=DM h
 have conv1:∀σ H Q,tG W (rV W) (λρ=>(Ad cf mt ts ρ).bind λhs ρ=>AY cf f hs ρ) σ H Q->JS (NS W (cf f)) [] E0 (tG W (Bn W) (Ad cf mt ts)) σ H Q:=λσ H Q z=>by
  have:=Nz (E:=E0) z;unfold JS;simp only[append_nil];exact this
 cases es with
 |nil=>
   cases h;refine Az (Q1 F1 hr hg hm hk F2 .nil Xc.MY hdb) λσ H Q z=>?_
   have z:=conv1 σ H Q z;unfold JS at z ⊢;obtain⟨ρ,os,hR,hn,hA⟩:=z;rw[DD]at hA;exact hA [] H [] os ⟨rfl,rfl⟩ hR hn (Ba.refl _ _)
 |cons e es=>
   exact Az (Ts F1 hr hg hm hk F2 .nil Xc.MY pd hdb (Au (pl e mS) es _) (Cp (λe he=>pl e (mC he)) pos _)) conv1
end
section
variable{X:Cx}{W:Wd}{cf:CF}{mt:MT}
variable{H:Hp}
theorem Ic:∀{fs:List (Str×B)} {vs:List (Str×V)} {o:List Addr},Bv W H fs vs o->fs.lookup m=none->vs.lookup m=none
 |[],_,_,h,_=>by rw[h.1];rfl
 | (g,b)::fs,_,_,⟨v,r,o1,o2,e1,h1,h2,e⟩,el=>by
   subst e1;rw[lookup_cons]at el ⊢;cases hg:m == g with
   |true=>rw[hg]at el;cases el
   |false=>rw[hg]at el;exact Ic h2 el
theorem QK{σ:L2.St}{i:Nat}{F:Env->Res (List Hd)}{K:List V->Hp->Prop}(hs:σ[i]? =some (some v))(h:tG W (Bn W) (λρ=>(F ρ).bind λhs ρ=>.ok (.slot i::hs) ρ) σ H K):tG W (Bn W) F σ H λvs H1=>K (v::vs) H1:=
 BH h λa ρ1 vs H1 o1 os1 r1 r2 r3 r4 kp ef=>r4 (v::vs) H1 o1 os1 ⟨v,vs,[],o1,rfl,⟨hs,rfl⟩,r1,rfl⟩ r2 r3 (Ba.refl _ _)
variable{apos pos:Pos}
theorem TN{es:List Expr}{env:PySem.Env}(pl:∀e∈es,AL e=true)(hl:es.length < 29)(hline:(apos.endLine == pos.line)=true):eval (.Call (.Attribute (.Name x p) m apos) es [] pos) env=(do
 let ov <-eval (.Name x p) env
 standAt apos.atName
 let(f,first) <-holding [ov] (getMethod ov m (do return (<-importBound (.Name x p) env).getD true))
 callWith pos f first (backTo pos (starEach es env)) (backToKw pos (keywordEach [] env))):=by
 have XF:methodCallForm (es.length + ([]:List Keyword).length) (backTo pos (starEach es env)) (backToKw pos (keywordEach [] env))=true:=by
  unfold methodCallForm
  have h1:(backTo pos (starEach es env)).all (!·.1)=true:=by
   rw[GL pl];unfold backTo;rw[map_map,all_map,all_eq_true];intro e _;simp
  have h2:(backToKw pos (keywordEach [] env))=[]:=rfl;rw[h1,h2];simp
  lia
 show(do
  let ov <-attributeBase (.Name x p) m env (eval (.Name x p) env)
  standAt apos.atName
  methodCall (.Name x p) m apos pos env ov (es.length+([]:List Keyword).length) (backTo pos (starEach es env)) (backToKw pos (keywordEach [] env)))=_
 have hb:attributeBase (.Name x p) m env (eval (.Name x p) env)=eval (.Name x p) env:=rfl;rw[hb];unfold methodCall calleeOf methodCallPos;rw[XF,hline];simp only[Bool.not_true,Bool.false_or,if_true,pure_bind]
theorem Nj(m:Str)(i:Nat)(ts:List T)(ρ:Env):ev cf mt (.C5 m i ts) ρ=match A8 ρ i with
 | some (.obj c fs)=>match fs.lookup m,mt.m c m with
   |none,some f=>(Ad cf mt ts ρ).bind λhs ρ=>AY cf f (.slot i::hs) ρ
   |_,_=>.stuck
 |_=>.stuck:=rfl
structure dA(X:Cx)(W:Wd)(cf:CF)(mt:MT)(k:Nat):Prop where
 VO:∀c m f,mt.m c m=some f->FA X.K (W.DG c)/\(m≠Str.ofString "__init__"->Meth X.K (W.DG c) m (W.Jr f))/\bV X W cf k f
theorem P8(hK:W.K=X.K)(hw:W.w=X.w){k:Nat}(M:dA X W cf mt k)(hr:C6 k X.A){i:Nat}{m:Str}{es:List Expr}{ts:List T}(hx:PE X (.Name x p) (F9 i))(hni:m≠Str.ofString "__init__")(hl:es.length < 29)(hline:(apos.endLine == pos.line)=true)
 (hne:es≠[])(h:Cz X W cf mt es ts):AK X W cf mt (.Call (.Attribute (.Name x p) m apos) es [] pos) (.C5 m i ts):=by
 refine AK.of hK hw (λ_ _=>rfl) (λρ=>by show(den cf mt (.C5 m i ts)).b ρ=(((den cf mt (.C5 m i ts)).v ρ).bind _).bind _;unfold den;rfl) rfl rfl ?_ (λ_=>rfl) rfl;have pl:=h.plain;have pd:=DM h;intro pins s σ H Q I z;obtain⟨ρ,os,hR,hn,hA⟩:=z;rw[Nj]at hA;cases hg:A8 ρ i with
 |none=>rw[hg]at hA;exact False.elim hA
 |some d=>
   rw[hg]at hA;cases d with
   |b x=>exact False.elim hA
   |obj c fs=>
     dsimp only at hA;cases hl1:fs.lookup m with
     |some y=>rw[hl1]at hA;exact False.elim hA
     |none=>
       cases hl2:mt.m c m with
       |none=>rw[hl1,hl2]at hA;exact False.elim hA
       |some f=>
         rw[hl1,hl2]at hA;dsimp only at hA;obtain⟨v,o,q1,q2,_⟩:=hR.get hg;obtain⟨a,dx,vs,osf,rfl,q3,q4,_,q5⟩:=q2;obtain⟨M1,M2,F⟩:=M.VO c m f hl2;obtain⟨fd,ps,F1,F2⟩:=F.ex
         have key:tG W (Bn W) (Ad cf mt ts) σ H λvs H2=>NS W (cf f) (.ref a::vs) H2 Q E0:=by
          refine QK (i:=i) q1 (Nz ⟨ρ,os,hR,hn,?_⟩);show Cs W (rV W σ) H os σ (((Ad cf mt ts ρ).bind λhs ρ=>.ok (.slot i::hs) ρ).bind λhs ρ=>AY cf f hs ρ) Q;cases e1:Ad cf mt ts ρ with
          |stuck=>rw[e1]at hA;exact hA
          |ok hs ρ'=>rw[e1]at hA;exact hA
         cases es with
         |nil=>exact absurd rfl hne
         |cons e es=>
           refine Tn hx M1 (M2 hni) F1 hr F2 .nil Xc.MY pd (Au (pl e mS) es _) (Cp (λe he=>pl e (mC he)) pos _) (TN pl hl hline) pins s σ H Q I ⟨.ref a,q1,a,dx,vs,rfl,q3,Ic q4 hl1,?_⟩;simp only[append_nil];exact key
theorem TQ{f c:Nat}{σ:L2.St}{Q:VK}{E:XK}(hC:FA W.K (W.DG c))(h:tG W (rV W) (Hf cf f c) σ H Q)(x dx:Addr)(hx:H x=none)(hdx:H dx=none):
 NS W (cf f) [.ref x] (upd (upd H dx (.own x)) x (.ins (W.DG c) dx [])) (λv H2=>v= .AI/\Q (.ref x) H2) E:=by
 obtain⟨ρ,os,hR,hn,hA⟩:=h;unfold Hf at hA;cases ecf:cf f [.obj c []]with
 |stuck=>rw[ecf]at hA;exact False.elim hA
 |err _ _=>rw[ecf]at hA;exact False.elim hA
 |ok rc outs0=>
   rw[ecf]at hA;split at hA
   case h_2=>exact False.elim hA
   rename_i s e;cases e;generalize hH2:upd (upd H dx (.own x)) x (.ins (W.DG c) dx [])=H2
   have sm:D2 H H2:=λb o e=>by
    rw[<-hH2,An (AO e hx),An (AO e hdx)];exact e
   have hx2:H2 x=some (.ins (W.DG c) dx []):=by rw[<-hH2];exact Ay
   have xr:∀a∈os,a∉[x]:=λa ha z=>by
    obtain⟨y,e,_⟩:=hR.own a ha;rw[mE z,hx]at e;cases e
   refine⟨[.obj c []],[x],⟨.ref x,[],[x],[],rfl,⟨x,dx,[],[],rfl,hx2,⟨rfl,rfl⟩,rfl,hC,λq hq=>by cases hq⟩,⟨rfl,rfl⟩,rfl⟩,nodup_cons.mpr ⟨not_mem_nil,nodup_nil⟩,?_⟩;rw[ecf];intro v H' o oos r1 r2 r3 r4;obtain⟨r5,rfl⟩:Bk W H' (.p .AI) v o:=r1;refine⟨B5.mp r5,?_⟩;obtain⟨v',r',os_,oos2,e1,s1,s2,rfl⟩:=r2;cases e1;obtain⟨_,rfl⟩:=s2
   have k1:B0 H2 H':=r4.but.keep λa ha=>by
    rw[mE ha];exact⟨_,hx2,λ_ z=>HO.noConfusion z,λ_ _ z=>HO.noConfusion z⟩
   have r3:(os_++[]).Nodup:=r3;have r4:Ba H2 H' [x] (os_++[]):=r4;rw[append_nil]at r3 r4;refine hA (.ref x) H' os_ os s1 ((hR.same sm).frame k1 r4.but xr) ?_ ?_
   .refine nodup_append.mpr ⟨r3,hn,λa ha b hb z=>?_⟩;subst z;rcases r4.src a ha with y|y
    .exact xr a hb y
    .obtain⟨b,eb,_⟩:=hR.own a hb;rw[sm _ _ eb]at y;cases y
   .have f0:Ba H H2 os (os++[x]):=Ba.of sm λa ha=>by
     rcases mem_append.mp ha with z|z
     .exact .inl z
     .rw[mE z];exact .inr hx
    exact(f0.trans (r4.more os)).sub λa ha=>mem_append.mpr (mem_append.mp ha).symm
theorem P9(hK:W.K=X.K)(hw:W.w=X.w){k c:Nat}(M:dA X W cf mt k)(hr:C6 (k + 1) X.A)(hg:Gl X x)(hm:X.mg x=some (.ref (W.DG c)))(hmk:∀f,mt.m c (Str.ofString "__init__")=some f->Mk X.K (W.DG c) (W.Jr f))(hdb:(x == ("__debug__":Str))=false):AK X W cf mt (.Call (.Name x p) [] [] pos) (.make c):=by
 refine AK.of hK hw (λ_ _=>rfl) (λρ=>rfl) rfl rfl ?_ (λ_=>rfl) rfl;rw[show ev cf mt (.make c)=λρ=>match mt.m c (Str.ofString "__init__")with|some f=>Hf cf f c ρ|none=>.stuck from rfl];cases hf:mt.m c (Str.ofString "__init__")with
 |none=>exact Dt λρ=>rfl
 |some f=>
   obtain⟨M1,_,F⟩:=M.VO c _ f hf;obtain⟨fd,ps,F1,F2⟩:=F.ex;refine Az (PU (hmk f hf) F1 hr hg hm F2 .nil Xc.MY hdb) λσ H Q z=>?_
   exact λx dx h1 h2 _=>TQ (hK▸M1) z x dx h1 h2
end
section
variable{X:Cx}{W:Wd}{cf:CF}{mt:MT}
variable{H:Hp}
theorem TK{m:MO}{r:V->List V->Hp->VK->Prop}(hM:La W m r){σ:L2.St}{os o1:List Addr}{i:Nat}{hs:List Hd}{vs:List V}{Q:VK}(hR:Aa W H ρ σ os)(hn:(o1++os).Nodup)(hh:σ[i]? =some (some (.ref a)))(h1:Bn W σ H ρ hs vs o1)(hA:Cs W (rV W σ) H (o1++os) σ (Ob m i hs ρ) Q):r (.ref a) vs H Q:=by
 unfold Ob at hA;cases ec:A8 ρ i with
 |none=>rw[ec]at hA;exact False.elim hA
 |some d=>
   cases ed:Am ρ hs with
   |none=>rw[ec,ed]at hA;cases d<;>exact False.elim hA
   |some cs=>
     rw[ec,ed]at hA;cases d with
     |obj _ _=>exact False.elim hA
     |b b =>
       dsimp only at hA;split at hA
       case isFalse=>exact False.elim hA
       cases es:Cu m b cs with
       |none=>rw[es]at hA;exact False.elim hA
       |some q=>
         obtain⟨c,b'⟩:=q;rw[es]at hA;have hA:∀v H' o os',Bk W H' c v o->Aa W H' (ρ.set i (some (.b b'))) σ os'->(o++os').Nodup->Ba H (H') (o1++os) (o++os')->Q v H':=hA
         have nb:C.cp (.b b)=false:=by
          cases b with
          |lst _=>rfl
          |AB _=>rfl
          |p _=>exact absurd es (by unfold Cu;exact nofun)
          |ro _=>exact absurd es (by unfold Cu;exact nofun)
         obtain⟨v,o,q1,q2,_⟩:=hR.get ec;rw[hh]at q1;cases q1;have:=BZ.addr q2 nb;subst this;refine hM H a b b' cs c vs Q q2 nb (DE hR h1 ed) es λv x' hb' k rc=>?_
         obtain⟨os',t1,t2,t3⟩:=HR (h:=.slot i) hR (nA hn).2.1 ec ⟨hh,rfl⟩ nb hb' k rfl;exact hA v _ [] os' rc t1 (t2.nodup_iff.mpr (nA hn).2.1) (t3.weak λa ha=>mR ha)
inductive dz(X:Cx)(W:Wd):Expr->T->TE->Prop where
 |nm {x:Str} {p:Pos} {i:Nat} (h:PE X (.Name x p) (F9 i)):dz X W (.Name x p) (.var i) (F9 i)
 |fl {x f:Str} {p q:Pos} {i:Nat} (h:PE X (.Attribute (.Name x p) f q) (Wo X.K (F9 i) f)):dz X W (.Attribute (.Name x p) f q) (.fld i f) (Wo X.K (F9 i) f)
theorem N4{m:MO}{r:V->List V->Hp->VK->Prop}(hM:La W m r){i:Nat}{ts:List T}{σ:L2.St}{Q:VK}(z:tG W (rV W) (ev cf mt (.FK m i ts)) σ H Q):
 F9 i σ H λx H1=>bw X.K "list" x H1/\tG W (Bn W) (Ad cf mt ts) σ H1 λxs H2=>r x xs H2 Q:=by
 obtain⟨ρ,os,hR,hn,hA⟩:=z;have hA:Cs W (rV W σ) H os σ (if aB (A8 ρ i)=true then(Ad cf mt ts ρ).bind λhs ρ=>Ob m i hs ρ else .stuck) Q:=hA;split at hA
 case isFalse=>exact False.elim hA
 rename_i hc
 obtain⟨ps,hg⟩:∃ps,A8 ρ i=some (.lst ps):=by
  unfold aB at hc;split at hc
  .exact⟨_,by assumption⟩
  .cases hc
 obtain⟨v,o,q1,q2,_⟩:=hR.get hg;obtain⟨a,vs,rfl,q3,q4,rfl⟩:=q2;exact⟨.ref a,q1,.inl ⟨rfl,vs,Dk.of q3⟩,BH (rep':=rV W) (G:=λhs ρ=>Ob m i hs ρ) (Q:=Q) ⟨ρ,os,hR,hn,hA⟩ λhs ρ1 vs H1 o1 os1 r1 r2 r3 r4 _ _=>TK hM r2 r3 q1 r1 r4⟩
theorem Qi(m:MO)(i:Nat)(ts:List T)(ρ:Env):tv cf mt (.FK m i ts) ρ=((ev cf mt (.FK m i ts) ρ).bind λc ρ=>.ok (Hd.Bt c) ρ).bind λh ρ=>Res.of ((h.cont ρ).bind CI) ρ:=rfl
variable{id:String}{apos cpos:Pos}
theorem P7(hK:W.K=X.K)(hw:W.w=X.w){m:MO}{name:Str}{r:V->List V->Hp->VK->Prop}(hM:La W m r)(slot:Slot "list" name id)(hty:typeOf (.builtin id)=pure (.type "method_descriptor"))(hm:YX X id r){i:Nat}(hr:PE X (.Name x p) (F9 i))(hline:(apos.endLine == cpos.line)=true):
 AK X W cf mt (.Call (.Attribute (.Name x p) name apos) [] [] cpos) (.FK m i []):=by
 refine AK.of hK hw (λ_ _=>rfl) (Qi m i []) rfl rfl (Az (WW PySem.F.plainAttrs_list slot hty hm hr rfl hline) λσ H Q z=>?_) (λ_=>rfl) rfl;obtain⟨v,q1,q2,q3⟩:=N4 (X:=X) hM z;refine⟨v,q1,q2,?_⟩;obtain⟨ρ,os,hR,hn,hA⟩:=q3;exact hA [] H [] os ⟨rfl,rfl⟩ hR hn (Ba.refl _ _)
theorem JV(hK:W.K=X.K)(hw:W.w=X.w){m:MO}{name:Str}{r:V->List V->Hp->VK->Prop}(hM:La W m r)(slot:Slot "list" name id)(hty:typeOf (.builtin id)=pure (.type "method_descriptor"))(hm:YX X id r){i:Nat}(hr:PE X (.Name y p) (F9 i))(hline:(apos.endLine == cpos.line)=true)
 (h:AK X W cf mt a x):AK X W cf mt (.Call (.Attribute (.Name y p) name apos) [a] [] cpos) (.FK m i [x]):=by
 have st:starEach [a] X.env=[(false,eval a X.env)]:=Au h.st [] X.env
 have XF:((backTo cpos (starEach [a] X.env)).all (λx=>!x.1) && (backToKw cpos (keywordEach [] X.env)).all (λx=>x.1.isSome)
  && decide (([a]:List Expr).length+([]:List Keyword).length+(if([]:List Keyword).isEmpty then 0 else 1) < 30))=true:=by rw[st];rfl
 exact AK.of hK hw (λ_ _=>rfl) (Qi m i [x]) rfl rfl (Az (ZL PySem.F.plainAttrs_list slot hty hm hr (DM (.cons h .nil)) rfl XF hline st rfl) λσ H Q z=>N4 hM z) (λ_=>rfl) rfl
theorem LM:La W .extend ML:=Ja λH a ps xs b' cs c vs Q h1 h2 hv e q=>by
 have e:Fn ps cs=some (c,b'):=e;unfold Fn at e;split at e
 .rename_i zs;split at e
  .rename_i hl;cases e;obtain⟨v,rfl,b,ws,rfl,s1,r1⟩:=C7 hv;have k:=Hg (x':=.lst (xs++ws)) h1;refine⟨a,b,xs,ws,rfl,rfl,h1,s1,by rw[h2.length,r1.length];exact Nat.le_trans hl BP,?_⟩;exact q .AI (.lst (xs++ws)) ⟨a,xs++ws,rfl,Ay,A7.append (r1.mono k) (h2.mono k),rfl⟩ k ⟨B5.mpr rfl,rfl⟩
  .cases e
 .cases e
end
theorem Y9:bootBuiltins "len"=some (.builtin "len"):=rfl
theorem Ya:bootBuiltins "isinstance"=some (.builtin "isinstance"):=rfl
theorem Y8:bootBuiltins "min"=some (.builtin "min"):=rfl
theorem Y6:bootBuiltins "sum"=some (.builtin "sum"):=rfl
theorem Yc:bootBuiltins "all"=some (.builtin "all"):=rfl
theorem OD:bootBuiltins "sorted"=some (.builtin "sorted"):=rfl
theorem UM:bootBuiltins "list"=some (.type "list"):=rfl
theorem L4:bootBuiltins "tuple"=some (.type "tuple"):=rfl
theorem Yb:bootBuiltins "int"=some (.type "int"):=rfl
theorem UO:bootBuiltins "bool"=some (.type "bool"):=rfl
theorem Y7:bootBuiltins "str"=some (.type "str"):=rfl
theorem UN:bootBuiltins "dict"=some (.type "dict"):=rfl
section
variable{X:Cx}{W:Wd}{cf:CF}{mt:MT}
theorem Hx:∀{ts:List T} {ρ ρ':Env} {hs:List Hd},Ad cf mt ts ρ= .ok hs ρ'->hs.length=ts.length
 |[],ρ,ρ',hs,e=>by rw[DD]at e;cases e;rfl
 | t ::ts,ρ,ρ',hs,e=>by
   rw[BL]at e;cases e1:BG t (ev cf mt t) ρ with
   |stuck=>rw[e1]at e;cases e
   |ok h ρ2=>
     rw[e1,Res.A5]at e
     have fin:∀(h:Hd),((Ad cf mt ts ρ2).bind λhs ρ=>.ok (h::hs) ρ)= .ok hs ρ'->hs.length=(t::ts).length:=λh e=>by
      cases e2:Ad cf mt ts ρ2 with
      |stuck=>rw[e2]at e;cases e
      |ok gs ρ3=>
        rw[e2]at e;cases e;rw[lC,lC,Hx e2]
     cases h with
     |Bt c=>exact fin _ e
     |slot i=>exact fin _ e
     |fld i f=>
       dsimp only at e;split at e
       .exact fin _ e
       .cases e
variable{ts:List T}{H:Hp}
theorem GV{o:O}(Af:o.ok=true){σ:L2.St}{Q:VK}(h:tG W (rV W) (ev cf mt (.prim o ts)) σ H Q):tG W (Bn W) (Ad cf mt ts) σ H λvs H1=>vs.length=ts.length/\AZ W (Ab o) vs H1 Q:=by
 refine Jo (λρ hs ρ' e=>Hx e) (VJ ?_)
 rw[show ev cf mt (.prim o ts)=λρ=>(Ad cf mt ts ρ).bind λhs ρ=>Res.of ((Am ρ hs).bind (Ab o)) ρ from funext λρ=>by
   show(den cf mt (.prim o ts)).v ρ=_
   conv=>lhs;unfold den
   show(if o.ok=true then _ else _)=_
   rw[iP Af]]at h
 exact h
theorem MK{g g':List C->Option C}{n:Nat}(hg:∀cs,cs.length=n->g cs=g' cs){vs:List V}{Q:VK}(h:vs.length=n/\AZ W g vs H Q):AZ W g' vs H Q:=by
 obtain⟨hl,cs,c,h1,h2,h3⟩:=h;exact⟨cs,c,h1,by rw[<-hg cs (by rw[<-h1.length];exact hl)];exact h2,h3⟩
variable{id:String}{pos:Pos}
theorem JY(hK:W.K=X.K)(hw:W.w=X.w){o:O}(Af:o.ok=true){g:List C->Option C}(hc:AW X (.builtin id) (AZ W g)){e:Expr}{es:List Expr}(hg':∀cs,cs.length=ts.length->Ab o cs=g cs)(hv:bootBuiltins x=some (.builtin id))
 (hg:Gl X x)(hm:X.mg x=none)(hn:x≠"__name__")(hdb:(x == ("__debug__":Str))=false)(hi:Bd (.prim o ts)=(.op,[.prim o ts]))(h:Cz X W cf mt (e::es) ts):AK X W cf mt (.Call (.Name x p) (e::es) [] pos) (.prim o ts):=by
 have pl:=h.plain;exact AK.of hK hw Bj BI rfl hi (Az (K7 (AW.imp hc λxs H Q z=>MK hg' z) hg hm hv (DM h) hn hdb (Au (pl e mS) es _) (Cp (λe he=>pl e (mC he)) pos _)) λσ H Q z=>GV Af z) (λ_=>rfl) rfl
theorem VG(hK:W.K=X.K)(hw:W.w=X.w){o:O}(Af:o.ok=true){g:List C->Option C}(hc:AW X (.type id) (AZ W g)){e:Expr}{es:List Expr}(hg':∀cs,cs.length=ts.length->Ab o cs=g cs)(hv:bootBuiltins x=some (.type id))
 (hg:Gl X x)(hm:X.mg x=none)(hn:x≠"__name__")(hdb:(x == ("__debug__":Str))=false)(hi:Bd (.prim o ts)=(.op,[.prim o ts]))(h:Cz X W cf mt (e::es) ts):AK X W cf mt (.Call (.Name x p) (e::es) [] pos) (.prim o ts):=by
 have pl:=h.plain;exact AK.of hK hw Bj BI rfl hi (Az (O8 (AW.imp hc λxs H Q z=>MK hg' z) hg hm hv (DM h) hn hdb (Au (pl e mS) es _) (Cp (λe he=>pl e (mC he)) pos _)) λσ H Q z=>GV Af z) (λ_=>rfl) rfl
theorem FJ{f:List C->Option C}{g:C->Option C}(h:∀c,f [c]=g c):∀cs:List C,cs.length=1->f cs=HG g cs:=λcs hl=>by
 obtain⟨c,rfl⟩:=Qu hl;exact h c
theorem Xb{f:List C->Option C}{g:C->C->Option C}(h:∀c d,f [c,d]=g c d):∀cs:List C,cs.length=2->f cs=Ld g cs:=λcs hl=>by
 obtain⟨c,d,rfl⟩:=Xn hl;exact h c d
theorem XZ(hK:W.K=X.K)(hc:X.calm=true):AW X (.type "list") (AZ W (HG λc=>(Lr c).map .lst)):=by
 refine AW.imp (AW.or (Rk hK) (UJ (W:=W) hc)) λxs H Q z=>?_
 obtain⟨x,c,r,rfl,h1,h2,h3⟩:=D5 z;obtain⟨ps,e1,rfl⟩:=oM h2;have go:∀{g:C->Option C},g c=some (.lst ps)->AZ W (HG g) [x] H Q:=λe=>⟨[c],_,⟨x,[],rfl,h1,rfl⟩,e,h3⟩
 unfold Lr at e1;split at e1
 .rename_i qs hn;cases e1;exact .inl (go (by show(DW c).map C.lst=_;unfold DW;rw[hn];rfl))
 .rename_i qs hn;cases e1;exact .inl (go (by show(DW c).map C.lst=_;unfold DW;rw[hn];rfl))
 .rename_i kvs hn;cases e1;have:=LL hn;subst this;exact .inr (go rfl)
 .cases e1
theorem SD(hK:W.K=X.K)(hw:W.w=X.w)(hy:bootBuiltins y=some (.type (MB t)))(hgy:Gl X y)(hmy:X.mg y=none)(hny:y≠"__name__")(hdy:(y == ("__debug__":Str))=false)
 (hg:Gl X "isinstance")(hm:X.mg "isinstance"=none){p:Pos}(h:AK X W cf mt a x):AK X W cf mt (.Call (.Name "isinstance" p) [a,.Name y q] [] pos) (.prim (.FC t) [x]):=by
 obtain⟨ta,q1,q2,m1⟩:=Qa h;have Af:(O.FC t).ok=true:=rfl;have pa:PA X [a,.Name y q] (CJ ta (CJ (tC (.ty (MB t))) Gm)):=D7 q1 (D7 (Tt hgy hmy hy rfl hny hdy) EW (Au rfl [] _)) (Au h.st _ _);refine AK.of hK hw Bj BI rfl rfl (Az (K7 (b5 hK hw t) hg hm Ya pa (by decide) (by decide) (Au h.st _ _) (Cp (λe he=>by rw[mE he];rfl) pos _)) λσ H Q z=>?_) (λ_=>rfl) rfl;have z:=Cv Af z;rw[q2]at z;refine m1 _ _ _ _ z λu H1 z=>?_
 obtain⟨c,r,g1,g2,g3⟩:=GQ (g:=Ab (.FC t)) (g1:=λc=>(Be t c).map λb=>.p (.bl b)) (λ_=>rfl) z;obtain⟨b,e1,rfl⟩:=oM g2;exact⟨u,c,b,rfl,g1,e1,g3.bl⟩
theorem JX(hK:W.K=X.K)(hw:W.w=X.w)(hc:X.calm=true)(hg:Gl X "list")(hm:X.mg "list"=none){p q:Pos}(hg2:Gl X "reversed")(hm2:X.mg "reversed"=none)(hl:PE X l (tG W (ER W) (BG u (ev cf mt u))))(st:AL l=true):
 AK X W cf mt (.Call (.Name "list" p) [.Call (.Name "reversed" q) [l] [] p2] [] pos) (.prim (.list .rev) [u]):=by
 refine AK.of hK hw Bj BI rfl rfl (λpins s σ H Q I z=>?_) (λ_=>rfl) rfl;have hs2:starEach [l] X.env=[(false,eval l X.env)]:=Au st [] X.env;have hs1:starEach [.Call (.Name "reversed" q) [l] [] p2] X.env=[(false,eval (.Call (.Name "reversed" q) [l] [] p2) X.env)]:=rfl;obtain⟨ρ,os,hR,hn,hA⟩:=z
 have hA:Cs W (rV W σ) H os σ ((Ad cf mt [u] ρ).bind λhs ρ=>Res.of ((Am ρ hs).bind (Ab (.list .rev))) ρ) Q:=by
  rw[show ev cf mt (.prim (.list .rev) [u]) ρ=(Ad cf mt [u] ρ).bind λhs ρ=>Res.of ((Am ρ hs).bind (Ab (.list .rev))) ρ from by
    show(den cf mt (.prim (.list .rev) [u])).v ρ=_
    conv=>lhs;unfold den
    rfl]at hA
  exact hA
 rw[KJ]at hA;cases eF:BG u (ev cf mt u) ρ with
 |stuck=>rw[eF]at hA;exact False.elim hA
 |ok h ρ1=>
   rw[eF]at hA;have hA:Cs W (rV W σ) H os σ (Res.of ((Am ρ1 [h]).bind (Ab (.list .rev))) ρ1) Q:=hA
   have ec0:Am ρ1 [h]=(h.cont ρ1).map λc=>[c]:=by
    show((h.cont ρ1).bind λc=>(Am ρ1 []).map (c::·))=_;cases h.cont ρ1<;>rfl
   rw[ec0]at hA;cases ec:h.cont ρ1 with
   |none=>rw[ec]at hA;exact False.elim hA
   |some c=>
     rw[ec]at hA;have hA:Cs W (rV W σ) H os σ (Res.of ((Gp c).map λx=>.lst x.reverse) ρ1) Q:=hA;cases es:Gp c with
     |none=>rw[es]at hA;exact False.elim hA
     |some ps=>
       rw[es]at hA;have hA:Cs W (rV W σ) H os σ (.ok (.lst ps.reverse) ρ1) Q:=hA
       have:c= .p (.tup ps):=by
        unfold Gp at es;split at es
        .cases es;rfl
        .cases es
       subst this;refine LF hc hg hm hg2 hm2 hl hs2 hs1 pins s σ H Q I ⟨ρ,os,hR,hn,?_⟩;rw[eF];intro v H1 o1 os1 r1 r2 r3 r4;obtain⟨a,vs,rfl,g1,g2⟩:=Cg (EA r2 r1 ec);exact⟨a,vs,rfl,hK▸g1,(J9 r2 (nA r3).2.1 (hA.later r4)).list g2.reverse⟩
theorem Ks{i x:Int}:∀{l:List Int},x∈insI i l↔x=i\/x∈l
 |[]=>by unfold insI;simp
 | j ::r=>by
   unfold insI;split
   .simp
   .rw[mem_cons,Ks (l:=r),mem_cons];constructor
    .rintro(h|h|h)
     .exact .inr (.inl h)
     .exact .inl h
     .exact .inr (.inr h)
    .rintro(h|h|h)
     .exact .inr (.inl h)
     .exact .inl h
     .exact .inr (.inr h)
theorem insI_perm(i:Int):∀(l:List Int),(insI i l).Perm (i::l)
 |[]=>.refl _
 | j::r=>by
   unfold insI;split
   .exact .refl _
   .exact((insI_perm i r).cons j).trans (.swap i j r)
theorem Ge :∀{l:List Int},l.Pairwise (·<=·)->(insI i l).Pairwise (·<=·)
 |[],_=>by unfold insI;simp
 | j ::r,h=>by
   obtain⟨h1,h2⟩:=pairwise_cons.mp h;unfold insI;split
   .rename_i hij
    exact pairwise_cons.mpr ⟨λx hx=>by
     rcases mK hx with z|z
     .rw[z];exact hij
     .exact Int.le_trans hij (h1 x z),h⟩
   .rename_i hij
    exact pairwise_cons.mpr ⟨λx hx=>by
     rcases Ks.mp hx with z|z
     .rw[z];lia
     .exact h1 x z,Ge h2⟩
theorem sortI_perm:∀(l:List Int),(sortI l).Perm l
 |[]=>.refl _
 |i::r=>by unfold sortI;exact(insI_perm i _).trans ((sortI_perm r).cons i)
theorem Fd:∀(l:List Int),(sortI l).Pairwise (·<=·)
 |[]=>.nil
 |i::r=>by unfold sortI;exact Ge (Fd r)
theorem HU:∀{a b:List Int},a.Perm b->a.Pairwise (·<=·)->b.Pairwise (·<=·)->a=b
 |[],b,p,_,_=>(List.nil_perm.mp p).symm
 | x :: a,b,p,ha,hb=>by
   cases b with
   |nil=>exact absurd (List.perm_nil.mp p) (by simp)
   |cons y b=>
     obtain⟨a1,a2⟩:=pairwise_cons.mp ha;obtain⟨b1,b2⟩:=pairwise_cons.mp hb
     have hxy:x=y:=by
      have h1:y<=x:=by
       rcases mK (p.subset mS)with z|z
       .lia
       .exact b1 x z
      have h2:x<=y:=by
       rcases mK (p.symm.subset mS)with z|z
       .lia
       .exact a1 y z
      lia
     subst hxy;rw[HU ((List.perm_cons x).mp p) a2 b2]
theorem Jk:∀{ns:List Int} {us:List Value},IntsAre us ns->Vals (ns.map V.int) us:=by
 intro ns us h
 induction h with
 |nil=>exact .nil
 |cons n t h ih=>exact .cons ⟨t,rfl⟩ ih
theorem FW:∀(ns:List Int),A7 W H (ns.map P.int) (ns.map V.int)
 |[]=>.nil
 |n::ns=>.cons (Ai.mpr rfl) (FW ns)
theorem Ri(hK:W.K=X.K)(hc:X.calm=true):AW X (.builtin "sorted") (AZ W (HG Gw)):=by
 intro pins s σ H xs us Q I r h;obtain⟨x,c,r',rfl,h1,e,q⟩:=D5 h;obtain⟨u,rfl,ru⟩:=vals1 r;unfold Gw at e;obtain⟨ns,e1,e2⟩:=oB e;obtain⟨ps,e3,e4⟩:=oB e1;split at e2
 case isFalse=>cases e2
 rename_i h64;cases e2
 have fin:∀{s1:Shared} {h':Heap} {t':Nat} {D:Addr} {out:Array Value} {ns':List Int} {c':Nat},Inv X pins σ H s1->(∀b o,s1.heap.get? b=some o->h'.get? b=some o)->s1.heap.objs.size<=D->h'.get? D=some (seqObj "list" out c')->IntsAre out.toList ns'->ns'.Perm ns->ns'.Pairwise (·<=·)->EP X pins σ Q (.ref D) {s1 with heap:=h',toks:=t'}:=by
  intro s1 h' t' D out ns' c' I hk hD ho a1 a2 a3;have e5:ns'=sortI ns:=HU (a2.trans (sortI_perm ns).symm) a3 (Fd ns);subst e5;refine⟨.ref D,_,I.laid (t':=t') (o:=.lst ((sortI ns).map V.int)) hk hD ?_,rfl,q.list (FW _) _ (I.Af.fresh hD)⟩;refine⟨by rw[lM,(sortI_perm ns).length_eq];have:=BP;unfold big at this;lia,out.toList,c',Jk a1,?_⟩;rw[ho]
 unfold Pm at e3;split at e3
 .rename_i qs hn;cases e3;obtain⟨a,vs,rfl,k1,k2⟩:=C8 h1 hn;cases ru;obtain⟨its,rv,p,hz⟩:=I.list (hK▸k1);have e5:=ints_rep k2 e4;subst e5;have hI:IntsAre its ns:=intsAre_of rv;have hl:its.length=ns.length:=by rw[<-rv.length,lM]
  refine sorted_ints p.isList hI (by lia) λout ns' a1 a2 a3=>?_
  obtain⟨c',he⟩:=sortedAll_at s.heap its out;exact fin (t':=s.toks) I (λ_ _=>sortedAll_old) (Nat.le_succ _) he a1 a2 a3
 .rename_i kvs hn;cases e3;have hn':=LL hn;subst hn';obtain⟨a,rfl,hd⟩:=h1;cases ru;obtain⟨es,ep,x,hp,hl,_⟩:=Ei I hd;obtain⟨vs,v1,v2⟩:=FP hp;have e5:=ints_rep v2 e4;subst e5;have hz:kvs.length<=sizeLine:=Nat.le_trans hd.len BP;refine Calls.call_function_entry kind_sorted plain_sorted entry_sorted (args_sorted1 _) ?_;unfold Builtin.«sorted»;refine wB (m:=checkCount "sorted" 1 1 _) (wP ?_);refine wB (PySem.W.kdu_collect (A:=X.A.in1) (Nn hd.sm) (I.ok.hd hc) x (by lia) λh' tk acc hk hacc=>?_);have eacc:=Hh hacc;have hI:IntsAre acc.toList ns:=by rw[eacc];exact intsAre_of v1
  have hla:acc.toList.length=ns.length:=by rw[eacc,lM,hl];have:=v2.length;rw[lM,lM]at this;lia
  refine wB (wpAny_newList ?_ (by rw[hla];have:=BP;unfold big at this;lia));have hoL:(h'.push {cls:=.type "list",data:=.seq acc.toList.toArray}).get? h'.objs.size=some (seqObj "list" acc.toList.toArray 0):=Heap.get?_push_size _ rfl;refine wB (wpAny_holding (wpAny_call_entry slot_list_sort ⟨_,hoL,rfl⟩ entry_list_sort (list_sort_tree hoL hI (by lia) λout ns' a1 a2 a3=>⟨_,rfl,?_⟩) (args_list_sort _)));obtain⟨c',he⟩:=sortedHeap_at (out:=out) hoL
  exact wP ⟨_,rfl,fin (s1:={s with heap:=h',toks:=tk}) (t':=tk) (I.kept hk) (λb o e'=>by
   rw[sortedHeap_old (Nat.ne_of_lt (Heap.lt_size e')) (by rw[Heap.size_push];exact Nat.lt_succ_of_lt (Heap.lt_size e'))]
   exact gP e') (lR) he a1 a2 a3⟩
 .cases e3
variable{pins:List (Addr×Obj)}{s:Shared}
theorem XQ{σ:L2.St}{kvs:List (P×P)}{Q:Value->Shared->Prop}{E:Value->Shared->Prop}(hK:W.K=X.K)(hw:W.w=X.w)(hu:X.A.units + 200 < cLine)(I:Inv X pins σ H s)(hd:CY W H a kvs)(hk:keyOk k=true)(hx:Al W H k x)(rx:RelV x u)
 (q0:Ac kvs k=none->∀s',Inv X pins σ H s'->Q r s')(q1:∀p y z,Ac kvs k=some p->Al W H p y->RelV y z->∀s',Inv X pins σ H s'->Q z s'):wpAny (model X.prog X.w) X.A (call (.builtin "dict.get") [.ref a,u,r]) Q E s:=by
 have ty:=CG hw I.Af hd;have B3:W.K.In s.heap:=hK▸I.DQ;have Af:Ce X.prog W.w H s.heap:=hw▸I.Af;have hu1:X.A.in1.units=X.A.units+1:=in1_units;refine wpAny_call_entry PySem.F.slot_dict_get ty PySem.F.entry_dict_get ?_ (PySem.F.args_dict_get_3 _ _ _);show wpAny _ _ (dictGet a u >>= _) _ _ s;rw[<-hw];refine wB (DT Af B3 hd hk hx rx (by lia) (λz tk=>?_) λp y z hz hy rz tk=>wP ⟨_,rfl,q1 p y z hz hy rz _ (I.tok tk)⟩);show wpAny _ _ (Builtin.Dict.missed a u >>= _) _ _ _;exact wB (wpAny_missed_other hd.sm (wP ⟨_,rfl,q0 z _ (I.tok tk)⟩))
theorem Uv{σ:L2.St}{kvs:List (P×P)}{Q:Value->Shared->Prop}{E:Value->Shared->Prop}(hK:W.K=X.K)(hw:W.w=X.w)(hu:X.A.units + 200 < cLine)(I:Inv X pins σ H s)(hd:CY W H a kvs)(hk:keyOk k=true)(hx:Al W H k x)(rx:RelV x u)
 (q0:Ac kvs k=none->∀s',Inv X pins σ H s'->Q .none s')(q1:∀p y z,Ac kvs k=some p->Al W H p y->RelV y z->∀s',Inv X pins σ H s'->Q z s'):wpAny (model X.prog X.w) X.A (call (.builtin "dict.get") [.ref a,u]) Q E s:=by
 have ty:=CG hw I.Af hd;have B3:W.K.In s.heap:=hK▸I.DQ;have Af:Ce X.prog W.w H s.heap:=hw▸I.Af;have hu1:X.A.in1.units=X.A.units+1:=in1_units;refine wpAny_call_entry PySem.F.slot_dict_get ty PySem.F.entry_dict_get ?_ (PySem.F.args_dict_get_2 _ _);show wpAny _ _ (dictGet a u >>= _) _ _ s;rw[<-hw];refine wB (DT Af B3 hd hk hx rx (by lia) (λz tk=>?_) λp y z hz hy rz tk=>wP ⟨_,rfl,q1 p y z hz hy rz _ (I.tok tk)⟩);show wpAny _ _ (Builtin.Dict.missed a u >>= _) _ _ _;exact wB (wpAny_missed_other hd.sm (wP ⟨_,rfl,q0 z _ (I.tok tk)⟩))
def Zs(W:Wd):V->List V->Hp->VK->Prop:=λx ys H Q=>∃a kvs k y,x= .ref a/\CY W H a kvs/\keyOk k=true/\Al W H k y/\(∀p v,Ac kvs k=some p->Al W H p v->Q v H)/\((ys=[y]/\(Ac kvs k=none->Q .AI H))\/∃z,ys=[y,z]/\(Ac kvs k=none->Q z H))
theorem Xj(hK:W.K=X.K)(hw:W.w=X.w)(hu:X.A.units + 200 < cLine):YX X "dict.get" (Zs W):=by
 intro pins s σ H x xs v us Q I rx rv h;obtain⟨a,kvs,k,y,rfl,hd,hk,hy,q1,q2⟩:=h;cases rx;rcases q2 with⟨rfl,q2⟩|⟨z,rfl,q2⟩
 .obtain⟨u,rfl,ru⟩:=vals1 rv;exact Uv hK hw hu I hd hk hy ru (λe s' I'=>⟨.AI,H,I',rfl,q2 e⟩) λp y z hz hy rz s' I'=>⟨y,H,I',rz,q1 p y hz hy⟩
 .obtain⟨u,r,rfl,ru,rr⟩:=vals2 rv;exact XQ hK hw hu I hd hk hy ru (λe s' I'=>⟨z,H,I',rr,q2 e⟩) λp y z hz hy rz s' I'=>⟨y,H,I',rz,q1 p y hz hy⟩
theorem WV(hw:W.w=X.w){e:Expr}{es:List Expr}{to:TE}{t:TA}{name:Str}{apos cpos:Pos}{r:V->List V->Hp->VK->Prop}(slot:Slot "dict" name id)(hty:typeOf (.builtin id)=pure (.type "method_descriptor"))(hm:YX X id r)(ho:PE X o to)(ha:PA X (e::es) t)
 (hbase:attributeBase o name X.env (eval o X.env)=eval o X.env)
 (hfew:((backTo cpos (starEach (e::es) X.env)).all (λx=>!x.1) && (backToKw cpos (keywordEach [] X.env)).all (λx=>x.1.isSome)
  && decide ((e::es).length+([]:List Keyword).length+(if([]:List Keyword).isEmpty then 0 else 1) < 30))=true)
 (hline:(apos.endLine == cpos.line)=true)(hs:starEach (e::es) X.env=(false,eval e X.env)::starEach es X.env)(hplain:(backTo cpos (starEach es X.env)).any (·.1)=false):
 PE X (.Call (.Attribute o name apos) (e::es) [] cpos) (λσ H Q=>to σ H λx H1=>(∃a kvs,x= .ref a/\CY W H1 a kvs)/\t σ H1 λxs H2=>r x xs H2 Q):=by
 intro pins s σ H Q I h;refine wpAny_Call_method_late hbase hfew hline rfl (Bf (ho pins s σ H _ I h) λv s1 ⟨x,H1,I1,r1,⟨a,kvs,ex,hd⟩,q1⟩=>?_);subst ex;cases r1;have h1:=CG hw I1.Af hd
 have h2:∀b,Value.ref a= .ref b->∃ob,s1.heap.get? b=some ob/\ob.dict=none:=λb eb=>by
  cases eb;obtain⟨es',ep,⟨ob,g1,g2,_⟩,_⟩:=Ei I1 hd;exact⟨ob,g1,g2.2.1⟩
 refine⟨"dict",id,PySem.F.plainAttrs_dict,slot,hty,h1,h2,?_⟩;have hA:=ha cpos pins s1 σ H1 _ I1 q1;rw[hs]at hA ⊢;refine Calls.callWith_builtin (by show(false || (backTo cpos (starEach es X.env)).any (·.1))=false;rw[hplain]<;>rfl) (Calls.evalArgs_plain ?_);exact Bf hA λus s2 ⟨vs,H2,I2,r2,q2⟩=>hm pins s2 σ H2 (.ref a) vs _ us Q I2 rfl r2 q2
end
section
variable{X:Cx}{W:Wd}{cf:CF}{mt:MT}
variable{ts:List T}
theorem AK.iter{k:IK}(st:AL e=true)(nc:BW e=false)(i:k.ok=true->∀tg,PI X tg e (NM W k (Ad cf mt ts)))
 (rv:∀u,T.prim (.iter k) ts= .prim (.iter .rev) [u]->∃l p pos,e= .Call (.Name "reversed" p) [l] [] pos/\Gl X "reversed"/\X.mg "reversed"=none/\PE X l (tG W (ER W) (BG u (ev cf mt u)))/\AL l=true)
 (zp:∀u w,T.prim (.iter k) ts= .prim (.iter .zip) [u,w]->∃l m p pos,e= .Call (.Name "zip" p) [l,m] [] pos/\Gl X "zip"/\X.mg "zip"=none/\PA X [l,m] (tG W (Bn W) (Ad cf mt [u,w]))/\AL l=true/\AL m=true):AK X W cf mt e (.prim (.iter k) ts):=by
 have hv:∀ρ,ev cf mt (.prim (.iter k) ts) ρ= .stuck:=λρ=>GW rfl ρ
 have v:PE X e (tG W (rV W) (ev cf mt (.prim (.iter k) ts))):=Dt hv;refine⟨v,Dt λρ=>(by rw[Bj,hv];rfl),K3 λρ=>(by rw[BI,hv];rfl),λz=>(by cases z),st,i,λi y py spos hN hi' hx hf=>GU hN hi' hx v (CK nc _ _ _) hf,λz=>(by rw[nc]at z;cases z),rv,zp⟩
variable{pos:Pos}
theorem HV{es:List Expr}{p:Pos}(hg:Gl X "range")(hm:X.mg "range"=none)(h:Cz X W cf mt es ts)(hl:ts.length=1\/ts.length=3):AK X W cf mt (.Call (.Name "range" p) es [] pos) (.prim (.iter .Ff) ts):=by
 refine AK.iter rfl rfl (λ_ tg=>?_) (λu z=>by cases z) (λu w z=>by cases z);have pd:=DM h;have hF:∀ρ hs ρ',Ad cf mt ts ρ= .ok hs ρ'->hs.length=ts.length:=λρ hs ρ' e=>Hx e
 cases h with
 |nil=>rcases hl with z|z<;>cases z
 |cons h1 r1=>
   cases r1 with
   |nil=>exact Th hg hm hF pd (Au h1.st _ _)
   |cons h2 r2=>
     have s2:=Au h2.st;cases r2 with
     |nil=>rcases hl with z|z<;>cases z
     |cons h3 r3=>
       have s3:=Au h3.st;cases r3 with
       |nil=>exact Tf hg hm hF pd (by rw[Au h1.st,s2,s3];rfl) (by rw[s2,s3];rfl)
       |cons _ _=>rcases hl with z|z<;>simp at z
theorem IQ(hK:W.K=X.K){p:Pos}(hg:Gl X "reversed")(hm:X.mg "reversed"=none)(h:AK X W cf mt a u):AK X W cf mt (.Call (.Name "reversed" p) [a] [] pos) (.prim (.iter .rev) [u]):=by
 refine AK.iter rfl rfl (λ_ tg=>?_) (λv z=>?_) (λu w z=>by cases z)
 .rw[DC];exact Ti hK hg hm h.h (Au h.st _ _)
 .cases z;exact⟨a,p,pos,rfl,hg,hm,h.h,h.st⟩
theorem Su{p:Pos}(hg:Gl X "zip")(hm:X.mg "zip"=none)(h1:AK X W cf mt a x)(h2:AK X W cf mt b y):AK X W cf mt (.Call (.Name "zip" p) [a,b] [] pos) (.prim (.iter .zip) [x,y]):=by
 refine AK.iter rfl rfl (λz=>by cases z) (λv z=>by cases z) (λu w z=>?_);cases z;exact⟨a,b,p,pos,rfl,hg,hm,DM (.cons h1 (.cons h2 .nil)),h1.st,h2.st⟩
theorem MD(hK:W.K=X.K)(hw:W.w=X.w){o:O}(Af:o.ok=false)(hi:Bd (.prim o ts)=(.op,[.prim o ts]))(st:AL e=true)(nc:BW e=false):AK X W cf mt e (.prim o ts):=
 AK.not hK hw Bj (λρ=>GW Af ρ) (λρ=>by rw[BI,GW Af];rfl) rfl hi st nc
theorem BF(ρ:Env):Eh cf mt [] ρ= .ok true ρ:=rfl
theorem R7(t:T)(ts:List T):Eh cf mt (t::ts)=tv cf mt t:=rfl
theorem Cb(g:Tg)(k:IK)(its cond:List T)(elt:T)(fr:List (Option Nat)):ev cf mt (.comp g k its cond elt fr)=λρ=>if k.ok then(Ad cf mt its ρ).bind (Dd k g fr (Eh cf mt cond) (ev cf mt elt))else .stuck:=rfl
variable{ifs:List Expr}
theorem Te{t t':TT}(h:UY X ifs t)(k:∀σ H Q,t' σ H Q->t σ H Q):UY X ifs t':=λpins s σ H Q I z=>h pins s σ H Q I (k σ H Q z)
variable{cs:List T}
theorem WM(h:Cz X W cf mt ifs cs)(hl:cs.length<=1):UY X ifs (tG W rB (Eh cf mt cs)):=by
 cases h with
 |nil=>
   refine Te Td λσ H Q z=>?_
   obtain⟨ρ,os,hR,hn,hA⟩:=z;rw[BF]at hA;exact hA true H [] os ⟨rfl,rfl⟩ hR hn (Ba.refl _ _)
 |cons h r=>
   cases r with
   |nil=>rw[R7];exact Tc h.b
   |cons _ _=>simp at hl
theorem Pc(hK:W.K=X.K)(hw:W.w=X.w)(hc:X.calm=true){elt it tg:Expr}{sc:Scope}{N:List Str}{fr:List (Option Nat)}(ok:DV X.N X.env.scope N sc fr)(h1:AK X W cf mt it x)(hl:cs.length<=1)
 (hb:∀C s H fp,PG (AV X N sc C s H fp) tg (gT W g)/\AK (AV X N sc C s H fp) W cf mt elt e/\Cz (AV X N sc C s H fp) W cf mt ifs cs):
 AK X W cf mt (.ListComp elt [⟨tg,it,ifs,0⟩] sc pos) (.comp g (Bd x).1 (Bd x).2 cs e fr):=by
 have hv:∀σ H Q,tG W (rV W) (ev cf mt (.comp g (Bd x).1 (Bd x).2 cs e fr)) σ H Q->(Bd x).1.ok=true/\IJ (NM W (Bd x).1 (Ad cf mt (Bd x).2)) (gT W g) (tG W rB (Eh cf mt cs)) (tG W (rV W) (ev cf mt e)) fr σ H Q:=λσ H Q z=>by
  rw[Cb]at z;cases hk:(Bd x).1.ok with
  |false=>rw[hk]at z;exact(GJ (λρ=>rfl) z).elim
  |true=>rw[hk]at z;exact⟨rfl,UA z⟩
 have hb':∀C s H fp,PG (AV X N sc C s H fp) tg (gT W g)/\PE (AV X N sc C s H fp) elt (tG W (rV W) (ev cf mt e))/\UY (AV X N sc C s H fp) ifs (tG W rB (Eh cf mt cs)):=λC s H fp=>⟨(hb C s H fp).1,(hb C s H fp).2.1.v,WM (hb C s H fp).2.2 hl⟩
 have v:PE X (.ListComp elt [⟨tg,it,ifs,0⟩] sc pos) (tG W (rV W) (ev cf mt (.comp g (Bd x).1 (Bd x).2 cs e fr))):=λpins s σ H Q I z=>by
  obtain⟨hk,z⟩:=hv σ H Q z;exact PZ N fr hc ok (h1.i hk tg) hb' (FY h1.st _) pins s σ H Q I z
 have h:PE X (.ListComp elt [⟨tg,it,ifs,0⟩] sc pos) (tG W (ER W) (BG (.comp g (Bd x).1 (Bd x).2 cs e fr) (ev cf mt (.comp g (Bd x).1 (Bd x).2 cs e fr)))):=Az v λσ H Q z=>M3 z
 refine⟨v,h,GS (Pz hK h λ_=>rfl) λσ H Q z=>Lo ?_,λz=>(by cases z),rfl,λ_ tg'=>?_,λi y py spos hN hy hx hf=>?_,λ_=>⟨_,_,_,_,rfl⟩,λu z=>(by cases z),λu w z=>(by cases z)⟩
 .rw[show(λρ=>(BG (.comp g (Bd x).1 (Bd x).2 cs e fr) (ev cf mt (.comp g (Bd x).1 (Bd x).2 cs e fr)) ρ).bind λh ρ=>Res.of ((h.cont ρ).bind CI) ρ)=tv cf mt (.comp g (Bd x).1 (Bd x).2 cs e fr)from funext λρ=>by
    show(((den cf mt (.comp g (Bd x).1 (Bd x).2 cs e fr)).v ρ).bind _).bind _=(den cf mt (.comp g (Bd x).1 (Bd x).2 cs e fr)).b ρ;unfold den
    rfl]
  exact z
 .show PI X tg' _ (NM W .op (Ad cf mt [.comp g (Bd x).1 (Bd x).2 cs e fr]));rw[DC];exact MW hK hw h
 .have hs:swapsWith (.ListComp elt [⟨tg,it,ifs,0⟩] sc pos) (some (.Name y py)) spos.line X.env=pure (X.env.blockKind == .function && X.env.kindOf y == some .local && py.line == pos.line && !(sc.names.any λ(n,k)=>n == y && (k == .local || k == .cell))):=rfl;cases hbo:(X.env.blockKind == .function && X.env.kindOf y == some .local && py.line == pos.line && !(sc.names.any λ(n,k)=>n == y && (k == .local || k == .cell)))with
  |false=>
    rw[hbo]at hs;exact GU hN hy hx v hs hf
  |true=>
    rw[hbo]at hs
    have hl':X.env.scope.names.lookup y=some .local:=by
     simp only[bA]at hbo;exact beq_iff_eq.mp hbo.1.1.2
    intro pins s σ H D I z;obtain⟨hk,z⟩:=hv σ H _ z;exact PD N fr hN hy hl' hc ok (h1.i hk tg) hb' hs (FY h1.st _) pins s σ H D I z
theorem Uh(i:Nat)(ts:List T)(ρ:Env):tv cf mt (.Jq i ts) ρ=((ev cf mt (.Jq i ts) ρ).bind λc ρ=>.ok (Hd.Bt c) ρ).bind λh ρ=>Res.of ((h.cont ρ).bind CI) ρ:=rfl
theorem M6{r:C}(h:Ot c k d=some r):∃kvs k' d',c= .AB kvs/\k= .p k'/\d= .p d'/\keyOk k'=true/\r= .p ((Ac kvs k').getD d'):=by
 unfold Ot at h;split at h
 .rename_i kvs k' d';split at h
  .rename_i hk;cases h;exact⟨kvs,k',d',rfl,rfl,rfl,hk,rfl⟩
  .cases h
 .cases h
theorem Ui{i:Nat}{σ:L2.St}{H:Hp}{Q:VK}(z:tG W (rV W) (ev cf mt (.Jq i ts)) σ H Q):
 F9 i σ H λx H1=>(∃a kvs,x= .ref a/\CY W H1 a kvs)/\tG W (Bn W) (Ad cf mt ts) σ H1 λxs H2=>Zs W x xs H2 Q:=by
 obtain⟨ρ,os,hR,hn,hA⟩:=z;have hA:Cs W (rV W σ) H os σ (if QG (A8 ρ i)=true then(Ad cf mt ts ρ).bind λhs ρ=>M5 i hs ρ else .stuck) Q:=hA;split at hA
 case isFalse=>exact False.elim hA
 rename_i hc
 obtain⟨kvs,hg⟩:∃kvs,A8 ρ i=some (.AB kvs):=by
  unfold QG at hc;split at hc
  .exact⟨_,by assumption⟩
  .cases hc
 obtain⟨v,o,q1,q2,_⟩:=hR.get hg;obtain⟨a,rfl,q3,rfl⟩:=q2;refine⟨.ref a,q1,⟨a,kvs,rfl,q3⟩,BH (rep':=rV W) (G:=λhs ρ=>M5 i hs ρ) (Q:=Q) ⟨ρ,os,hR,hn,hA⟩ λhs ρ vs H o1 os h1 hR hn hA _ _=>?_⟩;unfold M5 at hA;cases ec:A8 ρ i with
 |none=>rw[ec]at hA;exact False.elim hA
 |some c=>
   cases ed:Am ρ hs with
   |none=>rw[ec,ed]at hA;exact False.elim hA
   |some cs=>
     rw[ec,ed]at hA;rcases cs with _|⟨k,_|⟨d,_|⟨f,r⟩⟩⟩
     .exact False.elim hA
     .exact False.elim hA
     .have hA:Cs W (rV W σ) H (o1++os) σ (Res.of (Ot c k d) ρ) Q:=hA;cases eg:Ot c k d with
      |none=>rw[eg]at hA;exact False.elim hA
      |some r=>
        rw[eg]at hA;obtain⟨kvs,k',d',rfl,rfl,rfl,e4,rfl⟩:=M6 eg;have rs:=DE hR h1 ed;obtain⟨y,z,rfl⟩:=Xn rs.length;obtain⟨ry,rz⟩:=IV rs;obtain⟨_,ea,hd⟩:=EA (h:=.slot i) hR (v:=.ref a) (o:=[]) ⟨q1,rfl⟩ ec;cases ea
        have fin:∀p v,(Ac kvs k').getD d'=p->Al W H p v->Q v H:=λp v ep hp=>by
         rw[ep]at hA;exact hA v H [] os ⟨hp,rfl⟩ hR (nA hn).2.1 ((Ba.refl _ _).sub λa ha=>mR ha)
        exact⟨a,kvs,k',y,rfl,hd,e4,ry,λp v e hp=>fin p v (by rw[e];rfl) hp,.inr ⟨z,rfl,λe=>fin d' z (by rw[e];rfl) rz⟩⟩
     .exact False.elim hA
theorem SG(hK:W.K=X.K)(hw:W.w=X.w)(hu:X.A.units + 200 < cLine){i:Nat}(hr:PE X (.Name x p) (F9 i)){apos cpos:Pos}(hline:(apos.endLine == cpos.line)=true)(h1:AK X W cf mt a u)(h2:AK X W cf mt b v):
 AK X W cf mt (.Call (.Attribute (.Name x p) "get" apos) [a,b] [] cpos) (.Jq i [u,v]):=by
 have st:=Au h1.st [b] X.env;have s2:=Au h2.st [] X.env
 have XF:((backTo cpos (starEach [a,b] X.env)).all (λx=>!x.1) && (backToKw cpos (keywordEach [] X.env)).all (λx=>x.1.isSome)
  && decide (([a,b]:List Expr).length+([]:List Keyword).length+(if([]:List Keyword).isEmpty then 0 else 1) < 30))=true:=by rw[st,s2];rfl
 exact AK.of hK hw (λ_ _=>rfl) (Uh i [u,v]) rfl rfl (Az (WV hw PySem.F.slot_dict_get PySem.F.type_dict_get (Xj hK hw hu) hr (DM (.cons h1 (.cons h2 .nil))) rfl XF hline st (Cp (λe he=>by rw[mE he];exact h2.st) cpos _)) λσ H Q z=>Ui z) (λ_=>rfl) rfl
end
end Iv
namespace PySem
open Sem (wp)
open PyProof.Rows
variable{prog:Program}{w:World}{A:Around}{E:Value->Shared->Prop}{s:Shared}
variable{it:Addr}
theorem B2{i:Nat}{items}{x:Value}{Q:Value->Shared->Prop}(hit:IsTupIter s.heap it t i)
 (ht:IsTup s.heap t items)(hx:items[i]? =some x)
 (hQ:∀h',IsTupIter h' it t (i+1)->Heap.SameBut it s.heap h'->Q x {s with heap:=h'}):
 wpAny (model prog w) A (Builtin.SmallTypes.nextOf (.ref it)) Q E s:=by
 obtain⟨o,ho,hc,hd⟩:=id hit;obtain⟨ol,hol,_,nl,BG⟩:=ht;unfold Builtin.SmallTypes.nextOf
 refine wB (wpAny_callSpecial?_slot (name:=Str.ofString "__next__") hit.typeIs slot_tupleiter_next
  (wpAny_call_entry slot_tupleiter_next hit.typeIs entry_tupleiter_next ?_ (args_tupleiter_next _)))
 show wpAny _ _ (field (.ref it) 0 >>= _) _ _ s;refine wB (wpAny_field ho hd (x:=.ref t) rfl ?_);show wpAny _ _ (if(Value.ref t == Value.none)=true then _ else _) _ _ s;rw[iN (show ¬((Value.ref t == Value.none)=true)from Bool.false_ne_true)];show wpAny _ _ (field (.ref it) 1 >>= _) _ _ s;refine wB (wpAny_field ho hd (x:=.int i 0) rfl ?_);show wpAny _ _ (seqItems? (.ref t) >>= _) _ _ s;refine wB (wpAny_seqItems hol BG ?_);simp only[Int.toNat_natCast,hx];refine wB (wpAny_setField ho hd (by simp) (wP ⟨x,rfl,wP (hQ _ ?_ (Heap.SameBut.update ..))⟩))
 exact⟨_,Heap.get?_update_self _ ho (Obj.isFreed_of_fields (Obj.data_mapFields hd _)),(Obj.cls_mapFields ..).trans hc,by
  rw[Obj.data_mapFields hd];simp[rawInt]⟩
theorem C9{i:Nat}{items}{Q:Value->Shared->Prop}(hh:A.handled=none)
 (hit:IsTupIter s.heap it t i)(ht:IsTup s.heap t items)(hx:items[i]? =none)
 (hE:∀h' e,Heap.ExtBut it s.heap h'->(∃o,h'.get? e=some o/\o.cls= .type "StopIteration")->E (.ref e) {s with heap:=h'}):
 wpAny (model prog w) A (Builtin.SmallTypes.nextOf (.ref it)) Q E s:=by
 obtain⟨o,ho,hc,hd⟩:=id hit;obtain⟨ol,hol,_,nl,BG⟩:=ht;unfold Builtin.SmallTypes.nextOf
 refine wB (wpAny_callSpecial?_slot (name:=Str.ofString "__next__") hit.typeIs slot_tupleiter_next
  (wpAny_call_entry slot_tupleiter_next hit.typeIs entry_tupleiter_next ?_ (args_tupleiter_next _)))
 show wpAny _ _ (field (.ref it) 0 >>= _) _ _ s;refine wB (wpAny_field ho hd (x:=.ref t) rfl ?_);show wpAny _ _ (if(Value.ref t == Value.none)=true then _ else _) _ _ s;rw[iN (show ¬((Value.ref t == Value.none)=true)from Bool.false_ne_true)];show wpAny _ _ (field (.ref it) 1 >>= _) _ _ s;refine wB (wpAny_field ho hd (x:=.int i 0) rfl ?_);show wpAny _ _ (seqItems? (.ref t) >>= _) _ _ s;refine wB (wpAny_seqItems hol BG ?_);simp only[Int.toNat_natCast,hx];refine wB (wpAny_rule (wB (wpAny_setField ho hd (by simp) ?_)));show wpAny _ _ (newExc (.type "StopIteration") [] >>= _) _ _ _;refine wB ?_;simp only[newExc,newTuple];refine wB (wpAny_newObj_type ?_ (by size_fits));refine wB (m:=firstArgMember _ _) (wpAny_of_eq (a:=Value.none) (by first|rfl|(simp only[firstArgMember];rfl)) ?_);refine wpAny_newObj_type ?_ (by size_fits);simp only[raiseNew];refine wB (wpAny_handled ?_)
 first|rw[show A.in1.handled=none from hh]|rw[hh]
 refine wB (wP (wpAny_throw ?_));exact hE _ _ (((Heap.SameBut.update ..).extBut.push _).push _) ⟨_,Heap.get?_push_size _ rfl,rfl⟩
abbrev ZG(h:Heap)(z TI TO:Addr)(f0:Value)(f1:Bool):Prop:=
 h.get? z=some {cls:=.type "zip",dict:=none,data:=.fields #[f0,.bool f1,.bool false,.ref TI,.ref TO],slots:=#[]}
def F0(f0:Value):Prop:=f0= .none\/∃T:Addr,f0=rawInt T
theorem F6{Q:Option Obj->Shared->Prop}(h:Q (s.heap.get? a) s):wpAny (model prog w) A (loadIfAlive a) Q E s:=λΓ p _=>by
 show wp _ Γ (Sem.loadIfAlive a Sem.pure) _ _ p s;rw[Sem.wp_loadIfAlive];exact h
theorem My{TI TO:Addr}{f1:Bool}{Q:Bool->Shared->Prop}(hz:ZG s.heap z TI TO f0 f1)(hf:F0 f0)(h1:Q true s)(h2:∀h' f1',ZG h' z TI TO f0 f1'->Heap.SameBut z s.heap h'->Q false {s with heap:=h'}):
 wpAny (model prog w) A (Builtin.SmallTypes.ownedTupleIsFree (.ref z)) Q E s:=by
 unfold Builtin.SmallTypes.ownedTupleIsFree;rcases hf with rfl|⟨T,rfl⟩
 .exact wB (wpAny_field hz rfl (x:=.none) rfl (wP h1))
 .refine wB (wpAny_field hz rfl (x:=rawInt T) rfl ?_);show wpAny _ _ (loadIfAlive (T:Int).toNat >>= _) _ _ s;refine wB (F6 ?_);cases hT:s.heap.get? (T:Int).toNat with
  |none=>exact wP h1
  |some o=>
    show wpAny _ _ (field (.ref z) 1 >>= _) _ _ s;refine wB (wpAny_field hz rfl (x:=.bool f1) rfl ?_);cases f1 with
    |true=>
      show wpAny _ _ (pure false) _ _ s;exact wP (h2 s.heap true hz (Heap.SameBut.refl ..))
    |false=>
      show wpAny _ _ (setField (.ref z) 1 (.bool true) >>= _) _ _ s;refine wB (wpAny_setField_rec hz (by simp) λh' hz' hs'=>wP (h2 h' true hz' hs'))
end PySem
namespace PySem
open Sem (wp)
open PyProof.Rows
variable{prog:Program}{w:World}{A:Around}{E:Value->Shared->Prop}{s:Shared}
theorem IF{TI TO:Addr}{k1 k2:Nat}{xs ys:Array Value}{x y:Value}{f1:Bool}{Q:Value->Shared->Prop}(D:ZipApart z TI TO i1 i2 l1 l2)
 (hz:ZG s.heap z TI TO f0 f1)(hf:F0 f0)(hTI:IsPair s.heap TI (.ref i1) (.ref i2))(hTO:IsPair s.heap TO a b)
 (h1:IsTupIter s.heap i1 l1 k1)(h2:IsTupIter s.heap i2 l2 k2)(hl1:IsTup s.heap l1 xs)(hl2:IsTup s.heap l2 ys)(hx:xs[k1]? =some x)(hy:ys[k2]? =some y)
 (hQ:∀h' f0' f1' a' b',ZG h' z TI TO f0' f1'->F0 f0'->IsPair h' TO a' b'->IsTupIter h' i1 l1 (k1 + 1)->IsTupIter h' i2 l2 (k2 + 1)->IsPair h' s.heap.objs.size x y->h'.objs.size=s.heap.objs.size + 1->
  (∀c o,c≠z->c≠TO->c≠i1->c≠i2->s.heap.get? c=some o->h'.get? c=some o)->Q (.ref s.heap.objs.size) {s with heap:=h'}):
 wpAny (model prog w) A (Builtin.«zip.__next__» ⟨[.ref z],[]⟩) (λfin s'=>∃v,fin= .done (.ret v)/\Q v s') E s:=by
 show wpAny _ _ (field (.ref z) 2 >>= _) _ _ _;refine wB (wpAny_field hz rfl (x:=.bool false) rfl ?_);show wpAny _ _ (field (.ref z) 3 >>= _) _ _ _;refine wB (wpAny_field hz rfl (x:=.ref TI) rfl ?_);refine wB (wpAny_seqItems hTI rfl ?_);show wpAny _ _ (Builtin.SmallTypes.ownedTupleIsFree (.ref z) >>= _) _ _ _;refine wB (My hz hf ?_ λh₁ f1' hz₁ hs₁=>?_)
 .simp only[if_true];refine wB (wpAny_rule ?_);refine wB (wpAny_field hz rfl (x:=.ref TO) rfl ?_);refine wB (wpAny_setField_rec hz (by simp) λh₁ hz₁ hs₁=>?_);replace hz₁:ZG h₁ z TI TO .ellipsis f1:=hz₁;refine wB ?_;simp only[List.zipIdx_cons,List.zipIdx_nil,forIn_cons,forIn_nil];refine wB (wB (wpAny_onRaise ?_));show wpAny _ _ (Builtin.SmallTypes.nextOf (.ref i1) >>= _) _ _ _;refine wB (B2 (h1.extBut hs₁.extBut D.i1z) (hl1.extBut hs₁.extBut D.l1z) hx λh₂ h1₂ hs₂=>wP ?_);have hTO₂:IsPair h₂ TO a b:=hs₂.extBut _ _ D.TOi1 (hs₁.extBut _ _ D.TOz hTO);refine wB (wpAny_seqItems hTO₂ rfl ?_);refine wB (wpAny_updateSeq_pair hTO₂ λh₃ hTO₃ hs₃=>?_);replace hTO₃:IsPair h₃ TO x b:=hTO₃;refine wB (wpAny_letGo (wP ?_));refine wB (wB (wpAny_onRaise ?_));show wpAny _ _ (Builtin.SmallTypes.nextOf (.ref i2) >>= _) _ _ _
  refine wB (B2 (((h2.extBut hs₁.extBut D.i2z).extBut hs₂.extBut D.i12.symm).extBut hs₃.extBut D.TOi2.symm)
   (((hl2.extBut hs₁.extBut D.l2z).extBut hs₂.extBut D.l2i1).extBut hs₃.extBut D.l2TO) hy λh₄ h2₄ hs₄=>wP ?_)
  have hTO₄:IsPair h₄ TO x b:=hs₄.extBut _ _ D.TOi2 hTO₃;refine wB (wpAny_seqItems hTO₄ rfl ?_);refine wB (wpAny_updateSeq_pair hTO₄ λh₅ hTO₅ hs₅=>?_);replace hTO₅:IsPair h₅ TO x y:=hTO₅;refine wB (wpAny_letGo (wP (wP ?_)));refine wB (wpAny_seqItems hTO₅ rfl ?_);refine wB (wpAny_newTuple ?_);have hsz:h₅.objs.size=s.heap.objs.size:=by rw[hs₅.1,hs₄.1,hs₃.1,hs₂.1,hs₁.1]
  have hz₅:ZG h₅ z TI TO .ellipsis f1:=hs₅.extBut _ _ D.TOz.symm (hs₄.extBut _ _ D.i2z.symm (hs₃.extBut _ _ D.TOz.symm (hs₂.extBut _ _ D.i1z.symm hz₁)))
  have hk₅:∀c o,c≠z->c≠TO->c≠i1->c≠i2->s.heap.get? c=some o->h₅.get? c=some o:=λc o c1 c2 c3 c4 e=>
   hs₅.extBut _ _ c2 (hs₄.extBut _ _ c4 (hs₃.extBut _ _ c2 (hs₂.extBut _ _ c3 (hs₁.extBut _ _ c1 e))))
  have h1₅:IsTupIter h₅ i1 l1 (k1+1):=((h1₂.extBut hs₃.extBut D.TOi1.symm).extBut hs₄.extBut D.i12).extBut hs₅.extBut D.TOi1.symm;have h2₅:IsTupIter h₅ i2 l2 (k2+1):=h2₄.extBut hs₅.extBut D.TOi2.symm;have hzlt:z < h₅.objs.size:=Heap.lt_size hz₅;show wpAny _ _ (Builtin.SmallTypes.ownedTupleHandOut (.ref z) (.ref h₅.objs.size) >>= _) _ _ _;refine wB ?_;unfold Builtin.SmallTypes.ownedTupleHandOut;have hz₆:ZG (h₅.push {cls:=.type "tuple",data:=.seq #[x,y]}) z TI TO .ellipsis f1:=gP hz₅;refine wB (wpAny_setField_rec hz₆ (by simp) λh₇ hz₇ hs₇=>?_);replace hz₇:ZG h₇ z TI TO (rawInt h₅.objs.size) f1:=hz₇;refine wpAny_setField_rec hz₇ (by simp) λh₈ hz₈ hs₈=>?_
  replace hz₈:ZG h₈ z TI TO (rawInt h₅.objs.size) false:=hz₈;have up:∀c o,c≠z->h₅.get? c=some o->h₈.get? c=some o:=λc o c1 e=>hs₈.extBut _ _ c1 (hs₇.extBut _ _ c1 (gP e))
  have hT₈:IsPair h₈ h₅.objs.size x y:=hs₈.extBut _ _ (Nat.ne_of_gt hzlt) (hs₇.extBut _ _ (Nat.ne_of_gt hzlt) (Heap.get?_push_size _ rfl));have hz8:h₈.objs.size=h₅.objs.size+1:=by rw[hs₈.1,hs₇.1,Heap.size_push]
  rw[hsz]at hz₈ hT₈ hz8;refine wP ⟨_,rfl,?_⟩;show Q (.ref h₅.objs.size) _;rw[hsz];exact hQ h₈ _ _ x y hz₈ (.inr ⟨_,rfl⟩) (up _ _ D.TOz hTO₅) (let⟨o,e,r⟩:=h1₅;⟨o,up _ o D.i1z e,r⟩) (let⟨o,e,r⟩:=h2₅;⟨o,up _ o D.i2z e,r⟩) hT₈ hz8 λc o c1 c2 c3 c4 e=>up c o c1 (hk₅ c o c1 c2 c3 c4 e)
 .simp only[Bool.false_eq_true,if_false];refine wB ?_;simp only[<-Array.forIn_toList,forIn_cons,forIn_nil];refine wB (wB (wpAny_holding ?_));show wpAny _ _ (Builtin.SmallTypes.nextOf (.ref i1) >>= _) _ _ _;refine wB (B2 (h1.extBut hs₁.extBut D.i1z) (hl1.extBut hs₁.extBut D.l1z) hx λh₂ h1₂ hs₂=>wP ?_);refine wP ?_;refine wB (wB (wpAny_holding ?_));show wpAny _ _ (Builtin.SmallTypes.nextOf (.ref i2) >>= _) _ _ _
  refine wB (B2 ((h2.extBut hs₁.extBut D.i2z).extBut hs₂.extBut D.i12.symm)
   ((hl2.extBut hs₁.extBut D.l2z).extBut hs₂.extBut D.l2i1) hy λh₄ h2₄ hs₄=>wP ?_)
  refine wP (wP ?_);refine wB (wpAny_newTuple (hsz:=by show 2<=sizeLine;rw[sizeLine_eq];lia) ?_);have hsz:h₄.objs.size=s.heap.objs.size:=by rw[hs₄.1,hs₂.1,hs₁.1]
  have hz₄:ZG h₄ z TI TO f0 f1':=hs₄.extBut _ _ D.i2z.symm (hs₂.extBut _ _ D.i1z.symm hz₁)
  have hk₄:∀c o,c≠z->c≠TO->c≠i1->c≠i2->s.heap.get? c=some o->h₄.get? c=some o:=λc o c1 c2 c3 c4 e=>
   hs₄.extBut _ _ c4 (hs₂.extBut _ _ c3 (hs₁.extBut _ _ c1 e))
  have hTO₄:IsPair h₄ TO a b:=hs₄.extBut _ _ D.TOi2 (hs₂.extBut _ _ D.TOi1 (hs₁.extBut _ _ D.TOz hTO));have h1₄:IsTupIter h₄ i1 l1 (k1+1):=h1₂.extBut hs₄.extBut D.i12;have up:∀c o,h₄.get? c=some o->(h₄.push {cls:=.type "tuple",data:=.seq #[x,y]}).get? c=some o:=λc o e=>gP e
  refine wP ⟨_,rfl,?_⟩;show Q (.ref h₄.objs.size) _;have hT:IsPair (h₄.push {cls:=.type "tuple",data:=.seq #[x,y]}) h₄.objs.size x y:=Heap.get?_push_size _ rfl;rw[hsz]at hT ⊢;exact hQ _ _ _ a b (up _ _ hz₄) hf (up _ _ hTO₄) (let⟨o,e,r⟩:=h1₄;⟨o,up _ o e,r⟩) (let⟨o,e,r⟩:=h2₄;⟨o,up _ o e,r⟩) hT (by rw[Heap.size_push,hsz]) λc o c1 c2 c3 c4 e=>up c o (hk₄ c o c1 c2 c3 c4 e)
theorem JM{TI TO:Addr}{k1 k2:Nat}{xs ys:Array Value}{f1:Bool}{Q:Fin->Shared->Prop}(hh:A.handled=none)(D:ZipApart z TI TO i1 i2 l1 l2)
 (hz:ZG s.heap z TI TO f0 f1)(hf:F0 f0)(hTI:IsPair s.heap TI (.ref i1) (.ref i2))(hTO:IsPair s.heap TO a b)
 (h1:IsTupIter s.heap i1 l1 k1)(h2:IsTupIter s.heap i2 l2 k2)(hl1:IsTup s.heap l1 xs)(hl2:IsTup s.heap l2 ys)(hend:xs[k1]? =none\/ys[k2]? =none)
 (hE:∀h' e,(∀c o,c≠z->c≠TO->c≠i1->c≠i2->s.heap.get? c=some o->h'.get? c=some o)->(∃o,h'.get? e=some o/\o.cls= .type "StopIteration")->E (.ref e) {s with heap:=h'}):
 wpAny (model prog w) A (Builtin.«zip.__next__» ⟨[.ref z],[]⟩) Q E s:=by
 show wpAny _ _ (field (.ref z) 2 >>= _) _ _ _;refine wB (wpAny_field hz rfl (x:=.bool false) rfl ?_);show wpAny _ _ (field (.ref z) 3 >>= _) _ _ _;refine wB (wpAny_field hz rfl (x:=.ref TI) rfl ?_);refine wB (wpAny_seqItems hTI rfl ?_);show wpAny _ _ (Builtin.SmallTypes.ownedTupleIsFree (.ref z) >>= _) _ _ _;refine wB (My hz hf ?_ λh₁ f1' hz₁ hs₁=>?_)
 .simp only[if_true];refine wB (wpAny_rule ?_);refine wB (wpAny_field hz rfl (x:=.ref TO) rfl ?_);refine wB (wpAny_setField_rec hz (by simp) λh₁ hz₁ hs₁=>?_);replace hz₁:ZG h₁ z TI TO .ellipsis f1:=hz₁;refine wB ?_;simp only[List.zipIdx_cons,List.zipIdx_nil,forIn_cons,forIn_nil];refine wB (wB (wpAny_onRaise ?_));show wpAny _ _ (Builtin.SmallTypes.nextOf (.ref i1) >>= _) _ _ _;cases hx:xs[k1]? with
  |none=>
    refine wB (C9 hh (h1.extBut hs₁.extBut D.i1z) (hl1.extBut hs₁.extBut D.l1z) hx λh₂ e hs₂ he=>?_);obtain⟨oe,hoe,hce⟩:=he;have hz₂:ZG h₂ z TI TO .ellipsis f1:=hs₂ _ _ D.i1z.symm hz₁;have hez:e≠z:=λx=>by subst x;rw[hz₂]at hoe;cases hoe;simp at hce
    refine wpAny_setField_rec hz₂ (by simp) λh₃ _ hs₃=>hE h₃ e (λc o c1 _ c3 _ x=>hs₃.extBut _ _ c1 (hs₂ _ _ c3 (hs₁.extBut _ _ c1 x))) ⟨oe,hs₃.extBut _ _ hez hoe,hce⟩
  |some x=>
    have hy:ys[k2]? =none:=by rcases hend with h|h;rw[hx]at h;cases h;exact h
    refine wB (B2 (h1.extBut hs₁.extBut D.i1z) (hl1.extBut hs₁.extBut D.l1z) hx λh₂ h1₂ hs₂=>wP ?_);have hTO₂:IsPair h₂ TO a b:=hs₂.extBut _ _ D.TOi1 (hs₁.extBut _ _ D.TOz hTO);refine wB (wpAny_seqItems hTO₂ rfl ?_);refine wB (wpAny_updateSeq_pair hTO₂ λh₃ hTO₃ hs₃=>?_);refine wB (wpAny_letGo (wP ?_));refine wB (wB (wpAny_onRaise ?_));show wpAny _ _ (Builtin.SmallTypes.nextOf (.ref i2) >>= _) _ _ _
    refine wB (C9 hh (((h2.extBut hs₁.extBut D.i2z).extBut hs₂.extBut D.i12.symm).extBut hs₃.extBut D.TOi2.symm)
     (((hl2.extBut hs₁.extBut D.l2z).extBut hs₂.extBut D.l2i1).extBut hs₃.extBut D.l2TO) hy λh₄ e hs₄ he=>?_)
    obtain⟨oe,hoe,hce⟩:=he;have hz₄:ZG h₄ z TI TO .ellipsis f1:=hs₄ _ _ D.i2z.symm (hs₃.extBut _ _ D.TOz.symm (hs₂.extBut _ _ D.i1z.symm hz₁));have hez:e≠z:=λx=>by subst x;rw[hz₄]at hoe;cases hoe;simp at hce
    refine wpAny_setField_rec hz₄ (by simp) λh₅ _ hs₅=>hE h₅ e (λc o c1 c2 c3 c4 x=>hs₅.extBut _ _ c1 (hs₄ _ _ c4 (hs₃.extBut _ _ c2 (hs₂.extBut _ _ c3 (hs₁.extBut _ _ c1 x))))) ⟨oe,hs₅.extBut _ _ hez hoe,hce⟩
 .simp only[Bool.false_eq_true,if_false];refine wB ?_;simp only[<-Array.forIn_toList,forIn_cons,forIn_nil];refine wB (wB (wpAny_holding ?_));show wpAny _ _ (Builtin.SmallTypes.nextOf (.ref i1) >>= _) _ _ _;cases hx:xs[k1]? with
  |none=>
    refine wB (C9 hh (h1.extBut hs₁.extBut D.i1z) (hl1.extBut hs₁.extBut D.l1z) hx λh₂ e hs₂ he=>?_);exact hE h₂ e (λc o c1 _ c3 _ x=>hs₂ _ _ c3 (hs₁.extBut _ _ c1 x)) he
  |some x=>
    have hy:ys[k2]? =none:=by rcases hend with h|h;rw[hx]at h;cases h;exact h
    refine wB (B2 (h1.extBut hs₁.extBut D.i1z) (hl1.extBut hs₁.extBut D.l1z) hx λh₂ h1₂ hs₂=>wP ?_);refine wP ?_;refine wB (wB (wpAny_holding ?_));show wpAny _ _ (Builtin.SmallTypes.nextOf (.ref i2) >>= _) _ _ _
    refine wB (C9 hh ((h2.extBut hs₁.extBut D.i2z).extBut hs₂.extBut D.i12.symm)
     ((hl2.extBut hs₁.extBut D.l2z).extBut hs₂.extBut D.l2i1) hy λh₄ e hs₄ he=>?_)
    exact hE h₄ e (λc o c1 _ c3 c4 x=>hs₄ _ _ c4 (hs₂.extBut _ _ c3 (hs₁.extBut _ _ c1 x))) he
end PySem
namespace PySem
open Sem (wp)
open PyProof.Rows
namespace ZT
theorem J5:typeLookup (.type "zip") "__len__"=pure none:=rfl
theorem TB:typeLookup (.type "zip") "__length_hint__"=pure none:=rfl
end ZT
variable{prog:Program}{w:World}{A:Around}{E:Value->Shared->Prop}{s:Shared}
theorem Ep{TI TO:Addr}{f1:Bool}(hz:ZG s.heap z TI TO f0 f1):s.TypeIs (.ref z) "zip":=⟨_,hz,rfl⟩
theorem S9{TI TO:Addr}{f1:Bool}{Q:Value->Shared->Prop}(hz:ZG s.heap z TI TO f0 f1)(h:Q (.ref z) s):wpAny (model prog w) A (pyIter (.ref z)) Q E s:=by
 have hT:=Ep hz;refine wpAny_pyIter_slot hT F.slot_zip_iter (wpAny_call_entry F.slot_zip_iter hT F.entry_zip_iter ?_ (F.args_zip_iter_1 _));show wpAny _ _ (ret (.ref z)) _ _ s;exact wP ⟨_,rfl,"zip",_,hT,F.slot_zip_next.lookup,h⟩
theorem Sd{TI TO:Addr}{f1:Bool}{Q:Bool->Shared->Prop}(hz:ZG s.heap z TI TO f0 f1)(h:∀b,Q b s):wpAny (model prog w) A (Builtin.List.listLengthHint (.ref z)) Q E s:=by
 unfold Builtin.List.listLengthHint;refine wB (wpAny_specialOf (Ep hz) ZT.J5 ?_)
 try dsimp only
 refine wpAny_ite_split (λhab=>absurd hab (by decide +kernel)) (λ_=>?_);refine wpAny_ite_split (λhab=>absurd hab (by decide)) (λ_=>?_);refine wB (wpAny_specialOf (Ep hz) ZT.TB ?_)
 try dsimp only
 exact wP (h _)
theorem Sa{TI TO:Addr}{k1 k2:Nat}{xs ys:Array Value}{x y:Value}{f1:Bool}{Q:Option Value->Shared->Prop}(D:ZipApart z TI TO i1 i2 l1 l2)
 (hz:ZG s.heap z TI TO f0 f1)(hf:F0 f0)(hTI:IsPair s.heap TI (.ref i1) (.ref i2))(hTO:IsPair s.heap TO a b)
 (h1:IsTupIter s.heap i1 l1 k1)(h2:IsTupIter s.heap i2 l2 k2)(hl1:IsTup s.heap l1 xs)(hl2:IsTup s.heap l2 ys)(hx:xs[k1]? =some x)(hy:ys[k2]? =some y)
 (hQ:∀h' f0' f1' a' b',ZG h' z TI TO f0' f1'->F0 f0'->IsPair h' TO a' b'->IsTupIter h' i1 l1 (k1 + 1)->IsTupIter h' i2 l2 (k2 + 1)->IsPair h' s.heap.objs.size x y->h'.objs.size=s.heap.objs.size + 1->
  (∀c o,c≠z->c≠TO->c≠i1->c≠i2->s.heap.get? c=some o->h'.get? c=some o)->Q (some (.ref s.heap.objs.size)) {s with heap:=h'}):
 wpAny (model prog w) A (pyNext (.ref z)) Q E s:=by
 have hT:=Ep hz;unfold pyNext
 exact wB (wpAny_attempt (wpAny_callSpecial?_slot (name:=Str.ofString "__next__") hT F.slot_zip_next
  (wpAny_call_entry F.slot_zip_next hT F.entry_zip_next
   (IF D hz hf hTI hTO h1 h2 hl1 hl2 hx hy λh' f0' f1' a' b' a1 a1' a2 a3 a4 a5 a6 a7=>wP (hQ h' f0' f1' a' b' a1 a1' a2 a3 a4 a5 a6 a7)) (F.args_zip_next_1 _))))
theorem W6{TI TO:Addr}{k1 k2:Nat}{xs ys:Array Value}{f1:Bool}{Q:Option Value->Shared->Prop}(hh:A.handled=none)(D:ZipApart z TI TO i1 i2 l1 l2)
 (hz:ZG s.heap z TI TO f0 f1)(hf:F0 f0)(hTI:IsPair s.heap TI (.ref i1) (.ref i2))(hTO:IsPair s.heap TO a b)
 (h1:IsTupIter s.heap i1 l1 k1)(h2:IsTupIter s.heap i2 l2 k2)(hl1:IsTup s.heap l1 xs)(hl2:IsTup s.heap l2 ys)(hend:xs[k1]? =none\/ys[k2]? =none)
 (hQ:∀h',(∀c o,c≠z->c≠TO->c≠i1->c≠i2->s.heap.get? c=some o->h'.get? c=some o)->Q none {s with heap:=h'}):wpAny (model prog w) A (pyNext (.ref z)) Q E s:=by
 have hT:=Ep hz;unfold pyNext
 refine wB (wpAny_attempt (wpAny_callSpecial?_slot (name:=Str.ofString "__next__") hT F.slot_zip_next
  (wpAny_call_entry F.slot_zip_next hT F.entry_zip_next (JM hh D hz hf hTI hTO h1 h2 hl1 hl2 hend λh' e hk he=>?_) (F.args_zip_next_1 _))))
 obtain⟨o,ho,hc⟩:=he;refine wB (wpAny_isInstance (T:="StopIteration") (b:=true) ⟨o,ho,hc⟩ isSubtype_stop ?_);exact wP (hQ _ hk)
structure ZS(z TI TO i1 i2 l1 l2:Addr)(xs ys:Array Value)(i:Nat)(h:Heap):Prop where
 zg:∃f0 f1,ZG h z TI TO f0 f1/\F0 f0
 ti:IsPair h TI (.ref i1) (.ref i2)
 to:∃a b,IsPair h TO a b
 YO:IsTupIter h i1 l1 i
 YN:IsTupIter h i2 l2 i
 t1:IsTup h l1 xs
 t2:IsTup h l2 ys
variable{h h':Heap}
theorem ZS.frame{TI TO:Addr}{xs ys:Array Value}{i:Nat}(x:ZS z TI TO i1 i2 l1 l2 xs ys i h)(k:∀b∈[z,TI,TO,i1,i2,l1,l2],∀o,h.get? b=some o->h'.get? b=some o):ZS z TI TO i1 i2 l1 l2 xs ys i h' where
 zg:=let⟨f0,f1,a,b⟩:=x.zg;⟨f0,f1,k z (by simp) _ a,b⟩
 ti:=k TI (by simp) _ x.ti
 to:=let⟨a,b,e⟩:=x.to;⟨a,b,k TO (by simp) _ e⟩
 YO:=let⟨o,e,r⟩:=x.YO;⟨o,k i1 (by simp) o e,r⟩
 YN:=let⟨o,e,r⟩:=x.YN;⟨o,k i2 (by simp) o e,r⟩
 t1:=let⟨o,e,r⟩:=x.t1;⟨o,k l1 (by simp) o e,r⟩
 t2:=let⟨o,e,r⟩:=x.t2;⟨o,k l2 (by simp) o e,r⟩
def ZT(xs ys:Array Value)(h:Heap)(ts:List Addr):Prop:=∀(j:Nat) (t:Addr),ts[j]? =some t->∃x y,xs[j]? =some x/\ys[j]? =some y/\IsPair h t x y
theorem ZT.frame{xs ys:Array Value}{ts:List Addr}(x:ZT xs ys h ts)(k:∀b∈ts,∀o,h.get? b=some o->h'.get? b=some o):ZT xs ys h' ts:=λj t e=>by
 obtain⟨a,b,e1,e2,e3⟩:=x j t e;exact⟨a,b,e1,e2,k t (mem_of_getElem? e) _ e3⟩
theorem S7{R:Result->Shared->Prop}(hh:A.handled=none){TI TO:Addr}{xs ys:Array Value}(D:ZipApart z TI TO i1 i2 l1 l2)(S:Addr)(hS:S∉[z,TI,TO,i1,i2,l1,l2])(res:Value)(base:Nat)(hn:min xs.size ys.size<=sizeLine):
 ∀(k i:Nat) (s:Shared) (ts:List Addr) (c:Nat),min xs.size ys.size-i=k->i<=min xs.size ys.size->ZS z TI TO i1 i2 l1 l2 xs ys i s.heap->
 s.heap.get? S=some {cls:=.type "list",dict:=none,data:=.seq (ts.map Value.ref).toArray c,slots:=#[]}->ts.length=i->ZT xs ys s.heap ts->ts.Nodup->(∀t∈ts,base<=t/\t < s.heap.objs.size/\t≠S/\t∉[z,TO,i1,i2])->base<=s.heap.objs.size->
 (∀h' tk ts' c',(∀b o,b≠S->b∉[z,TO,i1,i2]->s.heap.get? b=some o->h'.get? b=some o)->h'.get? S=some {cls:=.type "list",dict:=none,data:=.seq (ts'.map Value.ref).toArray c',slots:=#[]}->ts'.length=min xs.size ys.size->ZT xs ys h' ts'->ts'.Nodup->(∀t∈ts',base<=t/\t≠S)->
   R (.ok (.ret res)) {s with heap:=h',toks:=tk})->
 codeAny (model prog w) A (.builtin "list.extend.loop" ⟨[.ref S,.ref z,res],[]⟩) R s:=by
 intro k
 induction k with
 |zero=>
   intro i s ts c hk hi st hSl hts zt nd hb hbs hR;have hin:i=min xs.size ys.size:=by lia
   obtain⟨f0,f1,hz,hf⟩:=st.zg;obtain⟨a,b,hTO⟩:=st.to;refine codeAny_builtin F.entry_extend_loop ?_;rw[Around.under_plainId F.plain_extend_loop _];show wpAny _ A.in1 (pyNext (.ref z) >>= _) _ _ s
   have hend:xs[i]? =none\/ys[i]? =none:=by
    rcases Nat.le_total xs.size ys.size with h|h
    .exact .inl (Array.getElem?_eq_none (by lia))
    .exact .inr (Array.getElem?_eq_none (by lia))
   refine wB (W6 hh D hz hf st.ti hTO st.YO st.YN st.t1 st.t2 hend λh' hkp=>?_)
   have kp:∀b o,b∉[z,TO,i1,i2]->s.heap.get? b=some o->h'.get? b=some o:=λb o hb e=>by
    simp only[mem_cons,not_mem_nil,or_false,not_or]at hb;exact hkp b o hb.1 hb.2.1 hb.2.2.1 hb.2.2.2 e
   have hS4:S∉[z,TO,i1,i2]:=λq=>hS (by simp only[mem_cons,not_mem_nil,or_false]at q ⊢;rcases q with q|q|q|q<;>simp[q])
   exact wP (hR h' s.toks ts c (λb o _ hb e=>kp b o hb e) (kp S _ hS4 hSl) (by lia) (zt.frame λb hb' o e=>kp b o (hb b hb').2.2.2 e) nd λt ht=>⟨(hb t ht).1,(hb t ht).2.2.1⟩)
 |succ k ih=>
   intro i s ts c hk hi st hSl hts zt nd hb hbs hR;have hix:i < xs.size:=by lia
   have hiy:i < ys.size:=by lia
   obtain⟨f0,f1,hz,hf⟩:=st.zg;obtain⟨a,b,hTO⟩:=st.to;refine codeAny_builtin F.entry_extend_loop ?_;rw[Around.under_plainId F.plain_extend_loop _];show wpAny _ A.in1 (pyNext (.ref z) >>= _) _ _ s;refine wB (Sa D hz hf st.ti hTO st.YO st.YN st.t1 st.t2 (Array.getElem?_eq_getElem hix) (Array.getElem?_eq_getElem hiy) λh' f0' f1' a' b' g1 g1' g2 g3 g4 g5 g6 hkp=>?_)
   have kp:∀b o,b∉[z,TO,i1,i2]->s.heap.get? b=some o->h'.get? b=some o:=λb o hb e=>by
    simp only[mem_cons,not_mem_nil,or_false,not_or]at hb;exact hkp b o hb.1 hb.2.1 hb.2.2.1 hb.2.2.2 e
   have hS4:S∉[z,TO,i1,i2]:=λq=>hS (by simp only[mem_cons,not_mem_nil,or_false]at q ⊢;rcases q with q|q|q|q<;>simp[q])
   have hSl':=kp S _ hS4 hSl;have lt:∀{c o},s.heap.get? c=some o->s.heap.objs.size≠c:=λe=>Nat.ne_of_gt (Heap.lt_size e)
   have hTS:s.heap.objs.size≠S:=lt hSl
   have hT4:s.heap.objs.size∉[z,TO,i1,i2]:=by
    simp only[mem_cons,not_mem_nil,or_false,not_or];exact⟨lt hz,lt hTO,let⟨_,e,_⟩:=st.YO;lt e,let⟨_,e,_⟩:=st.YN;lt e⟩
   show wpAny _ A.in1 (updateSeq S (·.push (.ref s.heap.objs.size)) >>= _) _ _ _;refine wB ?_;have hself:=PySem.IsL.update hSl' (·.push (Value.ref s.heap.objs.size));rw[show(ts.map Value.ref).toArray.push (Value.ref s.heap.objs.size)=((ts++[s.heap.objs.size]).map Value.ref).toArray by simp]at hself;have oth:∀b o,b≠S->h'.get? b=some o->(h'.update S (Obj.mapSeq (·.push (Value.ref s.heap.objs.size)))).get? b=some o:=λb o hb e=>(Heap.get?_update_other _ _ (Ne.symm hb)).trans e
   have zs':ZS z TI TO i1 i2 l1 l2 xs ys (i + 1) h':=⟨⟨f0',f1',g1,g1'⟩,kp _ _ (by
    simp only[mem_cons,not_mem_nil,or_false,not_or];exact⟨D.TIz,D.TITO,D.TIi1,D.TIi2⟩) st.ti,⟨a',b',g2⟩,g3,g4,(let⟨o,e,r⟩:=st.t1;⟨o,kp _ o (by
    simp only[mem_cons,not_mem_nil,or_false,not_or];exact⟨D.l1z,D.l1TO,D.l1i1,D.l1i2⟩) e,r⟩),(let⟨o,e,r⟩:=st.t2;⟨o,kp _ o (by
    simp only[mem_cons,not_mem_nil,or_false,not_or];exact⟨D.l2z,D.l2TO,D.l2i1,D.l2i2⟩) e,r⟩)⟩
   refine wpAny_updateSeq hSl' rfl (wP ⟨plainId_quiet F.plain_extend_loop _,ih (i + 1) _ (ts++[s.heap.objs.size]) _ (by lia) (by lia) (zs'.frame λb hb o e=>oth b o (λq=>hS (q▸hb)) e) hself (by rw[lA,hts];rfl) ?_ ?_ ?_ ?_ ?_⟩)
    (by rw[size_toArray,lM];lia) (by rw[Array.size_push,size_toArray,lM];lia)
   .intro j t e;rcases Nat.lt_or_ge j ts.length with q|q
    .rw[List.getElem?_append_left q]at e;obtain⟨x,y,e1,e2,e3⟩:=zt j t e;have ht:=mem_of_getElem? e;exact⟨x,y,e1,e2,oth _ _ (hb t ht).2.2.1 (kp _ _ (hb t ht).2.2.2 e3)⟩
    .have hj:j=ts.length:=by
      obtain⟨hl,_⟩:=List.getElem?_eq_some_iff.mp e;rw[lA,lS]at hl
      lia
     subst hj;rw[List.getElem?_append_right (lR),Nat.sub_self]at e;have e:t=s.heap.objs.size:=(Option.some.inj e).symm;subst e;rw[hts];exact⟨_,_,Array.getElem?_eq_getElem hix,Array.getElem?_eq_getElem hiy,oth _ _ hTS g5⟩
   .rw[nodup_append];refine⟨nd,by simp,λp hp q hq=>?_⟩;rw[mE hq];exact Nat.ne_of_lt (hb p hp).2.1
   .intro t ht;have hsz:(h'.update S (Obj.mapSeq (·.push (Value.ref s.heap.objs.size)))).objs.size=h'.objs.size:=(Heap.SameBut.update ..).1;show base<=t/\t < (h'.update S (Obj.mapSeq (·.push (Value.ref s.heap.objs.size)))).objs.size/\_;rw[hsz,g6];rcases mem_append.mp ht with q|q
    .have:=hb t q;exact⟨this.1,Nat.lt_succ_of_lt this.2.1,this.2.2⟩
    .rw[mE q];exact⟨hbs,Nat.lt_succ_self _,hTS,hT4⟩
   .show base<=(h'.update S (Obj.mapSeq (·.push (Value.ref s.heap.objs.size)))).objs.size;have hsz:(h'.update S (Obj.mapSeq (·.push (Value.ref s.heap.objs.size)))).objs.size=h'.objs.size:=(Heap.SameBut.update ..).1;rw[hsz,g6]
    lia
   .intro h'' tk ts' c' k1 k2 k3 k4 k5 k6;exact hR h'' tk ts' c' (λb o hb1 hb2 e=>k1 b o hb1 hb2 (oth b o hb1 (kp b o hb2 e))) k2 k3 k4 k5 k6
end PySem
namespace PySem
open Sem (wp)
open PyProof.Rows
variable{prog:Program}{w:World}{A:Around}{E:Value->Shared->Prop}{s:Shared}
abbrev bc(S:Addr)(z TO i1 i2:Addr)(xs ys:Array Value)(base:Nat)(h h':Heap)(ts':List Addr)(c':Nat):Prop:=
 (∀b o,b≠S->b∉[z,TO,i1,i2]->h.get? b=some o->h'.get? b=some o)/\h'.get? S=some {cls:=.type "list",dict:=none,data:=.seq (ts'.map Value.ref).toArray c',slots:=#[]}/\ts'.length=min xs.size ys.size/\ZT xs ys h' ts'/\ts'.Nodup/\∀t∈ts',base<=t/\t≠S
variable{R:Result->Shared->Prop}
theorem NJ(hh:A.handled=none){TI TO:Addr}{xs ys:Array Value}(D:ZipApart z TI TO i1 i2 l1 l2)(st:ZS z TI TO i1 i2 l1 l2 xs ys 0 s.heap)(S:Addr)(hS:S∉[z,TI,TO,i1,i2,l1,l2])(res:Value)(base:Nat)(hb:base<=s.heap.objs.size)(hn:min xs.size ys.size<=sizeLine)(c₀:Nat)
 (hSl:s.heap.get? S=some {cls:=.type "list",data:=.seq #[] c₀})
 (hR:∀h' tk ts' c',bc S z TO i1 i2 xs ys base s.heap h' ts' c'->R (.ok (.ret res)) {s with heap:=h',toks:=tk}):
 wpAny (model prog w) A.in1 (Builtin.List.listExtendWith (.ref S) (.ref z) res)
  (λfin s'=>match fin with| .done f=>R (.ok f) s'| .again c'=>c'.quiet=true/\codeAny (model prog w) A c' R s') (λe s'=>R (.error e) s') s:=by
 obtain⟨f0,f1,hz,hf⟩:=st.zg
 have key:∀(h:Heap) (c₁ tk:Nat),h.objs.size=s.heap.objs.size->(∀b o,b≠S->s.heap.get? b=some o->h.get? b=some o)->
  h.get? S=some {cls:=.type "list",data:=.seq #[] c₁}->codeAny (model prog w) A (.builtin "list.extend.loop" ⟨[.ref S,.ref z,res],[]⟩) R {s with heap:=h,toks:=tk}:=by
  intro h c₁ tk hsz hk hS₁;refine S7 hh D S hS res base hn (min xs.size ys.size) 0 _ [] c₁ (by lia) (Nat.zero_le _) (st.frame λb hb o e=>hk b o (λq=>hS (q▸hb)) e) hS₁ rfl (λj t e=>by simp at e) nodup_nil (λt ht=>by cases ht) (by show base<=h.objs.size;lia) λh' tk' ts' c' k1 k2 k3 k4 k5 k6=>?_
  exact hR h' tk' ts' c' ⟨λb o hb1 hb2 e=>k1 b o hb1 hb2 (hk b o hb1 e),k2,k3,k4,k5,k6⟩
 unfold Builtin.List.listExtendWith;refine wB (wpAny_typeOf (T:="zip") (Ep hz) ?_);have hSz:S≠z:=λq=>hS (by simp[q])
 have h1:Builtin.List.listSameRef (.ref S) (.ref z)=false:=by simp[Builtin.List.listSameRef,hSz]
 have h2:(Value.type "zip" == Value.type "list")=false:=by decide
 have h3:(Value.type "zip" == Value.type "tuple")=false:=by decide
 simp only[h1,h2,h3,Bool.or_false,Bool.false_eq_true,if_false];refine wB (S9 hz ?_);refine wB (wpAny_holding (Sd hz λb=>?_));refine wpAny_ite_split (λ_=>?_) (λ_=>wP ⟨plainId_quiet PySem.F.plain_extend_loop _,key _ c₀ s.toks rfl (λb o _ e=>e) hSl⟩);refine wB (wpAny_rule ?_);refine wB ?_;show wpAny _ _ (updateSeq S (·.push .none) >>= λ_=>updateSeq S (·.pop)) _ _ _;refine wB (wpAny_updateSeq hSl rfl ?_);have hS₂:=Heap.get?_update_self (Obj.mapSeq (·.push Value.none)) hSl rfl;refine wpAny_updateSeq (hz:=by seq_fits) hS₂ rfl ?_;have hS₃:=Heap.get?_update_self (Obj.mapSeq (·.pop)) hS₂ rfl
 have oth:∀b o,b≠S->s.heap.get? b=some o->((s.heap.update S (Obj.mapSeq (·.push Value.none))).update S (Obj.mapSeq (·.pop))).get? b=some o:=λb o hb e=>
  (Heap.get?_update_other _ _ (Ne.symm hb)).trans ((Heap.get?_update_other _ _ (Ne.symm hb)).trans e)
 have hsz:((s.heap.update S (Obj.mapSeq (·.push Value.none))).update S (Obj.mapSeq (·.pop))).objs.size=s.heap.objs.size:=((Heap.SameBut.update ..).1).trans (Heap.SameBut.update ..).1;exact wP ⟨plainId_quiet PySem.F.plain_extend_loop _,key _ _ _ hsz oth hS₃⟩
theorem Sb(hh:A.handled=none){TI TO:Addr}{xs ys:Array Value}(D:ZipApart z TI TO i1 i2 l1 l2)(st:ZS z TI TO i1 i2 l1 l2 xs ys 0 s.heap)(S:Addr)(hS:S∉[z,TI,TO,i1,i2,l1,l2])(base:Nat)(hb:base<=s.heap.objs.size)(hn:min xs.size ys.size<=sizeLine)
 (hSl:s.heap.get? S=some {cls:=.type "list",data:=.seq #[]})
 (hR:∀h' tk ts' c',bc S z TO i1 i2 xs ys base s.heap h' ts' c'->R (.ok (.ret .none)) {s with heap:=h',toks:=tk}):
 wpAny (model prog w) A.in1 (Builtin.«list.__init__» ⟨[.ref S,.ref z],[]⟩)
  (λfin s'=>match fin with| .done f=>R (.ok f) s'| .again c'=>c'.quiet=true/\codeAny (model prog w) A c' R s') (λe s'=>R (.error e) s') s:=by
 show wpAny _ _ (do let old <-Builtin.List.listItems (.ref S);Builtin.List.listUpdate (.ref S) (λ_=>#[]);letGo old.toList.reverse;Builtin.List.listExtendWith (.ref S) (.ref z) .none) _ _ s;refine wB ?_;unfold Builtin.List.listItems;refine wB (wpAny_seqItems hSl rfl (wP ?_));show wpAny _ _ (updateSeq S (λ_=>#[]) >>= λ_=>letGo (#[]:Array Value).toList.reverse >>= λ_=>Builtin.List.listExtendWith (.ref S) (.ref z) .none) _ _ s;refine wB (wpAny_updateSeq hSl rfl ?_);have hS₂:=Heap.get?_update_self (Obj.mapSeq (λ_=>(#[]:Array Value))) hSl rfl
 have oth:∀b o,b≠S->s.heap.get? b=some o->(s.heap.update S (Obj.mapSeq (λ_=>(#[]:Array Value)))).get? b=some o:=
  λb o hb e=>(Heap.get?_update_other _ _ (Ne.symm hb)).trans e
 have hsz:(s.heap.update S (Obj.mapSeq (λ_=>(#[]:Array Value)))).objs.size=s.heap.objs.size:=(Heap.SameBut.update ..).1;refine wB (wpAny_letGo ?_);refine NJ (s:={s with heap:=_}) hh D (st.frame λb hb o e=>oth b o (λq=>hS (q▸hb)) e) S hS .none base (by show base<=(s.heap.update S (Obj.mapSeq (λ_=>(#[]:Array Value)))).objs.size;lia) hn _ hS₂ (λh' tk ts' c' k=>?_);exact hR h' tk ts' c' ⟨λb o hb1 hb2 e=>k.1 b o hb1 hb2 (oth b o hb1 e),k.2⟩
theorem S8{Q:Value->Shared->Prop}(hh:A.handled=none){TI TO:Addr}{xs ys:Array Value}(D:ZipApart z TI TO i1 i2 l1 l2)(st:ZS z TI TO i1 i2 l1 l2 xs ys 0 s.heap)(base:Nat)(hb:base<=s.heap.objs.size)(hn:min xs.size ys.size<=sizeLine)
 (hQ:∀h' tk ts' c',(∀b o,b∉[z,TO,i1,i2]->s.heap.get? b=some o->h'.get? b=some o)->h'.get? s.heap.objs.size=some {cls:=.type "list",dict:=none,data:=.seq (ts'.map Value.ref).toArray c',slots:=#[]}->ts'.length=min xs.size ys.size->ZT xs ys h' ts'->ts'.Nodup->(∀t∈ts',base<=t/\t≠s.heap.objs.size)->Q (.ref s.heap.objs.size) {s with heap:=h',toks:=tk}):
 wpAny (model prog w) A (call (.type "list") [.ref z]) Q E s:=by
 refine callType_codes (Q₁:=λobj s₁=>obj= .ref s.heap.objs.size/\s₁={s with heap:=s.heap.push {cls:=.type "list",data:=.seq #[]}}) PySem.F.called_list (PySem.F.typeCall_list_1 _) PySem.F.entry_list_init
  (code_list_new _ ⟨rfl,rfl⟩) λobj s₁ h₁=>?_
 obtain⟨rfl,rfl⟩:=h₁;have hS:(s.heap.push {cls:=.type "list",data:=.seq #[]}).get? s.heap.objs.size=some {cls:=.type "list",data:=.seq #[]}:=Heap.get?_push_size _ rfl;have lt:∀{c o},s.heap.get? c=some o->s.heap.objs.size≠c:=λe=>Nat.ne_of_gt (Heap.lt_size e)
 obtain⟨f0,f1,hz,hf⟩:=st.zg;obtain⟨a,b,hTO⟩:=st.to
 have hSn:s.heap.objs.size∉[z,TI,TO,i1,i2,l1,l2]:=by
  simp only[mem_cons,not_mem_nil,or_false,not_or];exact⟨lt hz,lt st.ti,lt hTO,let⟨_,e,_⟩:=st.YO;lt e,let⟨_,e,_⟩:=st.YN;lt e,let⟨_,e,_⟩:=st.t1;lt e,let⟨_,e,_⟩:=st.t2;lt e⟩
 refine⟨⟨_,hS,rfl⟩,PySem.F.args_list_init_2 _ _,Sb (A:=A.in1) (s:={s with heap:=_}) hh D (st.frame λb _ o e=>gP e) _ hSn base (by show base<=(s.heap.push _).objs.size;rw[Heap.size_push];lia) hn hS (λh' tk ts' c' k=>?_)⟩;obtain⟨k1,k2,k3,k4,k5,k6⟩:=k;exact⟨rfl,hQ h' tk ts' c' (λb o hb e=>k1 b o (Nat.ne_of_lt (Heap.lt_size e)) hb (gP e)) k2 k3 k4 k5 k6⟩
abbrev Sh(h:Heap)(l1:Addr):Heap:=h.push {cls:=.type "tuple_iterator",data:=.fields #[.ref l1,.int 0 0]}
abbrev Sg(h:Heap)(l1 l2:Addr):Heap:=(Sh h l1).push {cls:=.type "tuple_iterator",data:=.fields #[.ref l2,.int 0 0]}
abbrev Sf(h:Heap)(l1 l2:Addr):Heap:=(Sg h l1 l2).push {cls:=.type "tuple",data:=.seq #[.ref h.objs.size,.ref (Sh h l1).objs.size]}
abbrev Se(h:Heap)(l1 l2:Addr):Heap:=(Sf h l1 l2).push {cls:=.type "tuple",data:=.seq #[.none,.none]}
abbrev JN(h:Heap)(l1 l2:Addr):Heap:=(Se h l1 l2).push {cls:=.type "zip",data:=.fields #[.none,.bool false,.bool false,.ref (Sg h l1 l2).objs.size,.ref (Sf h l1 l2).objs.size]}
theorem Jd(l1 l2:Addr)(xs ys:Array Value):
 Meets (Builtin.«zip.__new__» ⟨[.type "zip",.ref l1,.ref l2],[]⟩) (λ_ R s=>IsTup s.heap l1 xs/\IsTup s.heap l2 ys/\
  R (.ok (.ret (.ref (Se s.heap l1 l2).objs.size))) {s with heap:=JN s.heap l1 l2}):=
 .of_wp λprog w A R s h=>by
  obtain⟨hp,g,d,tk,os⟩:=s;obtain⟨hl1,hl2,h⟩:=h;have hsub:=sub_zip;have hL1:IsTup (Shared.heap ⟨hp,g,d,tk,os⟩) l1 xs:=hl1;have hL2:IsTup (Shared.heap ⟨hp.push {cls:=.type "tuple_iterator",data:=.fields #[.ref l1,.int 0 0]},g,d,tk,os⟩) l2 ys:=hl2.push _
  wp_walk using iter_tuple hL1,iter_tuple hL2
  exact⟨_,rfl,h⟩
theorem UD{xs ys:Array Value}{Q:Value->Shared->Prop}(hl1:IsTup s.heap l1 xs)(hl2:IsTup s.heap l2 ys)
 (h:∀h',ZS (s.heap.objs.size + 4) (s.heap.objs.size + 2) (s.heap.objs.size + 3) s.heap.objs.size (s.heap.objs.size + 1) l1 l2 xs ys 0 h'->ZipApart (s.heap.objs.size + 4) (s.heap.objs.size + 2) (s.heap.objs.size + 3) s.heap.objs.size (s.heap.objs.size + 1) l1 l2->h'.objs.size=s.heap.objs.size + 5->
   (∀c o,s.heap.get? c=some o->h'.get? c=some o)->Q (.ref (s.heap.objs.size+4)) {s with heap:=h'}):
 wpAny (model prog w) A (call (.type "zip") [.ref l1,.ref l2]) Q E s:=by
 refine callType_new F.called_zip (by decide) (F.typeCall_zip_2 _ _) (F.newCall_zip_2 _ _) (λobj=>F.args_object_init_3 obj _ _) F.entry_zip_new
  (Jd l1 l2 xs ys) ⟨hl1,hl2,?_⟩
 have z1:(Sh s.heap l1).objs.size=s.heap.objs.size+1:=Heap.size_push ..;have z2:(Sg s.heap l1 l2).objs.size=s.heap.objs.size+2:=by rw[Heap.size_push,z1]
 have z3:(Sf s.heap l1 l2).objs.size=s.heap.objs.size+3:=by rw[Heap.size_push,z2]
 have z4:(Se s.heap l1 l2).objs.size=s.heap.objs.size+4:=by rw[Heap.size_push,z3]
 have z5:(JN s.heap l1 l2).objs.size=s.heap.objs.size+5:=by rw[Heap.size_push,z4]
 have g5:(JN s.heap l1 l2).get? (Se s.heap l1 l2).objs.size=some _:=Heap.get?_push_size _ rfl;have g4:(JN s.heap l1 l2).get? (Sf s.heap l1 l2).objs.size=some _:=gP (Heap.get?_push_size _ rfl);have g3:(JN s.heap l1 l2).get? (Sg s.heap l1 l2).objs.size=some _:=gP (gP (Heap.get?_push_size _ rfl));have g2:(JN s.heap l1 l2).get? (Sh s.heap l1).objs.size=some _:=gP (gP (gP (Heap.get?_push_size _ rfl)));have g1:(JN s.heap l1 l2).get? s.heap.objs.size=some _:=gP (gP (gP (gP (Heap.get?_push_size _ rfl))))
 have kp:∀c o,s.heap.get? c=some o->(JN s.heap l1 l2).get? c=some o:=λc o x=>
  gP (gP (gP (gP (gP x))))
 have n1:=hl1.lt;have n2:=hl2.lt;show _/\_;rw[z2,z3,z4]at g5;rw[z1,z2]at g3;rw[z3]at g4;rw[z1]at g2;rw[z4];refine⟨⟨_,g5,rfl⟩,h _ ⟨⟨_,_,g5,.inl rfl⟩,g3,⟨_,_,g4⟩,⟨_,g1,rfl,rfl⟩,⟨_,g2,rfl,rfl⟩,hl1.keeps kp,hl2.keeps kp⟩ ?_ z5 kp⟩;constructor<;>(intro q;(try simp at q))<;>(first|exact absurd q (Nat.ne_of_lt (by first|exact n1|exact n2|exact Nat.lt_of_lt_of_le n1 (Nat.le_add_right _ _)|exact Nat.lt_of_lt_of_le n2 (Nat.le_add_right _ _)))|(exact absurd q (by first|exact Nat.ne_of_lt (Nat.lt_add_of_pos_right (by decide))|skip)))
end PySem
namespace L2
open PySem PyProof.Rows
variable{X:Cx}{pins:List (Addr×Obj)}{σ:St}{H H':Hp}{s:Shared}{h':Heap}
theorem Inv.many{t':Nat}(I:Inv X pins σ H s)(k:∀b u,s.heap.get? b=some u->h'.get? b=some u)(hH:∀b,b < s.heap.objs.size->H' b=H b)(Af:Ce X.prog X.w H' h'):Inv X pins σ H' {s with heap:=h',toks:=t'}:=by
 have up:∀{b o},H b=some o->H' b=some o:=λ{b o} e=>by rw[hH b (I.Af.lt e)];exact e
 refine I.un ⟨λb o e _ _ _=>k b o e,λb o e _ _ _=>⟨o.slots,k b o e⟩,λb o e n _=>?_,λb o e _=>⟨o,k b o e⟩,λb xs e=>up e,λb o u e=>up e,λb ps e=>⟨#[],by rw[up e];simp⟩⟩ Af;rw[hH b (Heap.lt_size e)];exact n
def Hz(H:Hp):List Addr->List (V×V)->Hp
 |t::ts,pr::ps=>upd (Hz H ts ps) t (.tup [pr.1,pr.2])
 |_,_=>H
variable{H:Hp}
theorem S4:∀{ts:List Addr} {ps:List (V×V)} {b:Addr},b∉ts->Hz H ts ps b=H b
 |[],_,_,_=>by unfold Hz;rfl
 |_::_,[],_,_=>by unfold Hz;rfl
 | t::ts,pr::ps,b,h=>by
   unfold Hz;rw[An (λz=>h (by simp[z])),S4 λz=>h (mC z)]
theorem S5:∀{ts:List Addr} {ps:List (V×V)},ts.length=ps.length->ts.Nodup->Paired (λt (pr:V×V)=>Hz H ts ps t=some (.tup [pr.1,pr.2])) ts ps
 |[],[],_,_=>.nil
 |[],_::_,h,_=>by cases h
 |_::_,[],h,_=>by cases h
 | t ::ts,pr::ps,h,nd=>by
   obtain⟨n1,n2⟩:=nodup_cons.mp nd;have ih:Paired (λt (pr:V×V)=>Hz H ts ps t=some (.tup [pr.1,pr.2])) ts ps:=S5 (by simpa using h) n2
   have key:∀{us:List Addr} {qs:List (V×V)},(∀u∈us,u≠t)->Paired (λt (pr:V×V)=>Hz H ts ps t=some (.tup [pr.1,pr.2])) us qs->Paired (λu (q:V×V)=>Hz H (t::ts) (pr::ps) u=some (.tup [q.1,q.2])) us qs:=by
    intro us qs hu hp
    induction hp with
    |nil=>exact .nil
    |cons r _ ih=>
      refine .cons ?_ (ih λu hm=>hu u (mC hm));show upd (Hz H ts ps) t _ _=_;rw[An (hu _ mS)];exact r
   refine .cons (by show upd (Hz H ts ps) t _ t=_;rw[Ay]) (key (λu hm z=>n1 (z▸hm)) ih)
theorem NG:∀{ts:List Addr} {ps:List (V×V)} {b:Addr} {o:HO},Hz H ts ps b=some o->H b=some o\/∃(j:Nat) (pr:V×V),ts[j]? =some b/\ps[j]? =some pr/\o= .tup [pr.1,pr.2]
 |[],_,_,_,h=>by unfold Hz at h;exact .inl h
 |_::_,[],_,_,h=>by unfold Hz at h;exact .inl h
 | t ::ts,pr::ps,b,o,h=>by
   unfold Hz at h
   by_cases hb:b=t
   .rw[hb,Ay]at h;cases h;exact .inr ⟨0,pr,by rw[hb];rfl,rfl,rfl⟩
   .rw[An hb]at h;rcases NG h with z|⟨j,q,e1,e2,e3⟩
    .exact .inl z
    .exact .inr ⟨j+1,q,by rw[List.getElem?_cons_succ];exact e1,by rw[List.getElem?_cons_succ];exact e2,e3⟩
theorem HP:∀(ts:List Addr),Vals (ts.map V.ref) (ts.map Value.ref)
 |[]=>.nil
 |t::ts=>.cons rfl (HP ts)
noncomputable def cb(K:PySem.W.Frag)(ta:TA):TE:=λσ H Q=>ta σ H λvs H1=>∃a b xs ys,vs=[.ref a,.ref b]/\El K H1 a xs/\El K H1 b ys/\
 ∀(l:Addr) (ts:List Addr) (H3:Hp),D2 H1 H3->H1 l=none->H3 l=some (.lst (ts.map V.ref))->Paired (λt (pr:V×V)=>H3 t=some (.tup [pr.1,pr.2])) ts (xs.zip ys)->Q (.ref l) H3
theorem LD{X:Cx}{e1 e2:Expr}{ta:TA}{p1 p2 pos:Pos}(hc:X.calm=true)(hg1:Gl X "list")(hm1:X.mg "list"=none)(hg2:Gl X "zip")(hm2:X.mg "zip"=none)(ha:PA X [e1,e2] ta)(hs2:starEach [e1,e2] X.env=[(false,eval e1 X.env),(false,eval e2 X.env)])
 (hs3:starEach [e2] X.env=[(false,eval e2 X.env)])(hs1:starEach [.Call (.Name "zip" p2) [e1,e2] [] p3] X.env=[(false,eval (.Call (.Name "zip" p2) [e1,e2] [] p3) X.env)]:=by rfl):
 PE X (.Call (.Name "list" p1) [.Call (.Name "zip" p2) [e1,e2] [] p3] [] pos) (cb X.K ta):=by
 intro pins s σ H Q I h;refine wpAny_Call_Name_kw (CP I hg1 hm1 boot_list ?_ (by decide) (by decide));refine PyProof.Rows.callWith_type1 ?_ hs1 rfl;rw[hs1];show wpAny _ _ (spliced ((false,eval (.Call (.Name "zip" p2) [e1,e2] [] p3) X.env)::backTo pos [])) _ _ s;refine Calls.spliced_cons ?_;refine wpAny_Call_Name_kw (CP I hg2 hm2 boot_zip ?_ (by decide) (by decide));refine PyProof.Rows.callWith_type1 (Bf (ha p3 pins s σ H _ I h) λus s1 ⟨vs,H1,I1,r1,q1⟩=>?_) (by rw[hs2,hs3]) (by rw[hs3];rfl);obtain⟨a,b,xs,ys,rfl,hq1,hq2,q⟩:=q1;obtain⟨u,w,rfl,ru,rw'⟩:=vals2 r1;cases ru;cases rw';obtain⟨its1,rv1,pl1,hz1⟩:=I1.tuple hq1;obtain⟨its2,rv2,pl2,hz2⟩:=I1.tuple hq2;have hl1:=rv1.length;have hl2:=rv2.length;refine UD pl1 pl2 λh5 zs D hsz kp=>?_
 refine Calls.spliced_nil ?_;refine S8 (s:={s1 with heap:=h5}) (I1.ok.hd hc) D zs (s1.heap.objs.size+5) (by show _<=h5.objs.size;lia) (by rw[size_toArray,size_toArray];lia) λh' tk ts c' k1 k2 k3 k4 k5 k6=>?_
 have kp2:∀b o,s1.heap.get? b=some o->h'.get? b=some o:=λb o e=>k1 b o (by
  have lt:=Heap.lt_size e;simp only[mem_cons,not_mem_nil,or_false,not_or]
  refine⟨Nat.ne_of_lt (Nat.lt_of_lt_of_le lt (Nat.le_add_right _ _)),Nat.ne_of_lt (Nat.lt_of_lt_of_le lt (Nat.le_add_right _ _)),Nat.ne_of_lt lt,Nat.ne_of_lt (Nat.lt_of_lt_of_le lt (Nat.le_add_right _ _))⟩) (kp b o e)
 have hSz:({s1 with heap:=h5}:Shared).heap.objs.size=s1.heap.objs.size+5:=hsz;have k2':=k2;rw[hSz]at k2' k6 ⊢
 have hlen:ts.length=(xs.zip ys).length:=by
  rw[k3,size_toArray,size_toArray,length_zip,hl1,hl2]
 let H3:Hp:=upd (Hz H1 ts (xs.zip ys)) (s1.heap.objs.size+5) (.lst (ts.map V.ref))
 have hnew:∀b,b < s1.heap.objs.size->b∉ts:=λb hb hm=>by
  have:=(k6 b hm).1;exact absurd hb (Nat.not_lt.mpr (Nat.le_trans (Nat.le_add_right _ _) this))
 have hne5:∀b,b < s1.heap.objs.size->b≠s1.heap.objs.size+5:=λb hb=>Nat.ne_of_lt (Nat.lt_of_lt_of_le hb (Nat.le_add_right _ _))
 have hold:∀b,b < s1.heap.objs.size->H3 b=H1 b:=λb hb=>by
  show upd _ _ _ b=_;rw[An (hne5 b hb),S4 (hnew b hb)]
 have up:∀{b o},H1 b=some o->H3 b=some o:=λ{b o} e=>by rw[hold b (I1.Af.lt e)];exact e
 have Af:Ce X.prog X.w H3 h':=λb o e=>by
  by_cases hb:b=s1.heap.objs.size+5
  .subst hb;have e:upd (Hz H1 ts (xs.zip ys)) (s1.heap.objs.size+5) (.lst (ts.map V.ref)) (s1.heap.objs.size+5)=some o:=e;rw[Ay]at e;cases e;refine⟨by rw[lM,hlen,length_zip];lia,ts.map Value.ref,c',HP ts,k2'⟩
  .have e:upd (Hz H1 ts (xs.zip ys)) (s1.heap.objs.size+5) (.lst (ts.map V.ref)) b=some o:=e;rw[An hb]at e;rcases NG e with z|⟨j,pr,j1,j2,rfl⟩
   .exact(I1.Af b o z).JT (λc u _ q=>kp2 c u q) (λc q=>up q) λc xs q=>up q
   .obtain⟨x,y,x1,x2,x3⟩:=k4 j b j1;obtain⟨px,py⟩:=pr;have jz:=List.getElem?_zip_eq_some.mp j2;obtain⟨u1,g1,g2⟩:=rv1.get jz.1;obtain⟨u2,g3,g4⟩:=rv2.get jz.2;rw[List.getElem?_toArray]at x1 x2;rw[g1]at x1;rw[g3]at x2;cases x1;cases x2;exact⟨by show 2<=sizeLine;rw[sizeLine_eq];lia,[_,_],.cons g2 (.cons g4 .nil),_,x3,rfl,_,rfl⟩
 have hS1:H1 (s1.heap.objs.size+5)=none:=I1.Af.fresh (Nat.le_add_right _ _);refine⟨.ref (s1.heap.objs.size+5),H3,I1.many (t':=tk) kp2 hold Af,rfl,q _ ts H3 (λb o e=>up e) hS1 Ay ?_⟩;have hp:=S5 (H:=H1) hlen k5
 have key:∀{us:List Addr} {qs:List (V×V)},(∀u∈us,u≠s1.heap.objs.size + 5)->Paired (λt (pr:V×V)=>Hz H1 ts (xs.zip ys) t=some (.tup [pr.1,pr.2])) us qs->Paired (λu (q:V×V)=>H3 u=some (.tup [q.1,q.2])) us qs:=by
  intro us qs hu hp
  induction hp with
  |nil=>exact .nil
  |cons r _ ih=>
    refine .cons ?_ (ih λu hm=>hu u (mC hm));show upd _ _ _ _=_;rw[An (hu _ mS)];exact r
 exact key (λu hm=>(k6 u hm).2) hp
end L2
namespace Iv
open PySem L2 PyProof.Rows
section
variable{X:Cx}{W:Wd}{cf:CF}{mt:MT}
theorem MJ{H:Hp}:∀{ps qs:List P} {xs ys:List V} {ts:List Addr},A7 W H ps xs->A7 W H qs ys->Paired (λt (pr:V×V)=>H t=some (.tup [pr.1,pr.2])) ts (xs.zip ys)->A7 W H (Lh ps qs) (ts.map V.ref)
 | [],qs,xs,ys,ts,h1,h2,h3=>by
   have hx:=h1.length;have:xs=[]:=length_eq_zero_iff.mp hx;subst this;rw[List.zip_nil_left]at h3;cases h3;exact A7.nil
 | p::ps,[],xs,ys,ts,h1,h2,h3=>by
   have hy:=h2.length;have:ys=[]:=length_eq_zero_iff.mp hy;subst this;rw[List.zip_nil_right]at h3;cases h3;exact A7.nil
 | p ::ps,q::qs,xs,ys,ts,h1,h2,h3=>by
   cases xs with
   |nil=>have:=h1.length;cases this
   |cons x xs=>
     cases ys with
     |nil=>have:=h2.length;cases this
     |cons y ys=>
       rw[zip_cons_cons]at h3;cases h3 with
       |cons r t=>
         obtain⟨a1,a2⟩:=h1.AF;obtain⟨b1,b2⟩:=h2.AF;refine A7.cons ?_ (MJ a2 b2 t);refine AH.mpr ⟨_,[x,y],rfl,El.of r,.cons a1 (.cons b1 .nil)⟩
theorem MG{ps:List P}(h:Gp c=some ps):c= .p (.tup ps):=by
 unfold Gp at h;split at h
 .cases h;rfl
 .cases h
theorem JW(hK:W.K=X.K)(hw:W.w=X.w)(hc:X.calm=true)(hg:Gl X "list")(hm:X.mg "list"=none){l m:Expr}{u w:T}{p q pos:Pos}(hg2:Gl X "zip")(hm2:X.mg "zip"=none)(ha:PA X [l,m] (tG W (Bn W) (Ad cf mt [u,w])))(s1:AL l=true)(s2:AL m=true):
 AK X W cf mt (.Call (.Name "list" p) [.Call (.Name "zip" q) [l,m] [] p2] [] pos) (.prim (.list .zip) [u,w]):=by
 refine AK.of hK hw Bj BI rfl rfl (λpins s σ H Q I z=>?_) (λ_=>rfl) rfl;have hs3:starEach [m] X.env=[(false,eval m X.env)]:=Au s2 [] X.env;have hs2:starEach [l,m] X.env=[(false,eval l X.env),(false,eval m X.env)]:=by rw[Au s1,hs3]
 have z:=GV (o:=.list .zip) rfl z;refine LD hc hg hm hg2 hm2 ha hs2 hs3 rfl pins s σ H Q I ?_;refine FE z λvs H1 ⟨hl,cs,c,r1,e,nq⟩=>?_
 match cs,r1,e with
 |[],r1,e=>cases e
 |[_],r1,e=>cases e
 |_::_::_::_,r1,e=>cases e
 |[c1,c2],r1,e=>
   have e:((Gp c1).bind λx=>(Gp c2).map λy=>C.lst (Lh x y))=some c:=e;obtain⟨ps,e1,e⟩:=oB e;obtain⟨qs,e2,rfl⟩:=oM e;have:=MG e1;subst this;have:=MG e2;subst this;obtain⟨v1,r,rfl,g1,v2,r2,rfl,g2,g3⟩:=r1;have g3:r2=[]:=g3;subst g3;obtain⟨a,xs,rfl,a1,a2⟩:=Cg g1;obtain⟨b,ys,rfl,b1,b2⟩:=Cg g2;refine⟨a,b,xs,ys,rfl,hK▸a1,hK▸b1,λL ts H3 sm hn hL hp=>?_⟩;have kp:=B0.of sm;exact nq (.ref L) H3 [L] sm ⟨L,ts.map V.ref,rfl,hL,MJ (a2.mono kp) (b2.mono kp) hp,rfl⟩ (by simp) (λx hx=>by rw[mE hx];exact hn)
end
section
variable{X:Cx}{W:Wd}{cf:CF}{mt:MT}
theorem K4{st:Stmt}{as:List Nat}{F:Env->Res Fl}(hF:∀ρ,F ρ= .stuck):PS X st (tS W xp as F):=λ_ _ _ _ _ _ h=>by
 obtain⟨ρ,os,hR,hn,hA⟩:=h;rw[hF]at hA;exact False.elim hA
def Px(W:Wd):UW:=λo i v H Q=>∃b k p b' a,o= .ref a/\BZ W H b (.ref a) [a]/\Al W H k i/\Al W H p v/\E6 b k p=some b'/\∀x',BZ W (upd H a x') b' (.ref a) [a]->B0 H (upd H a x')->Q (upd H a x')
theorem Pj(hK:W.K=X.K)(hw:W.w=X.w)(hu:X.A.units + 200 < cLine):bo X (Px W):=by
 intro pins s σ H o i v ov iv u Q I ro ri rv h;obtain⟨b,k,p,b',a,rfl,hb,hk,hp,e,q⟩:=h;cases b with
 |p _=>cases e
 |ro _=>cases e
 |lst _=>cases e
 |AB kvs=>
   obtain⟨a',ea,hd,_⟩:=hb;cases ea;have e:(if(keyOk k && decide (kvs.length < big))=true then some (B.AB (dput kvs k p))else none)=some b':=e;split at e
   .rename_i hc;cases e;rw[bA]at hc;cases ro;refine Mg hK hw hu I hd hc.1 hk hp (of_decide_eq_true hc.2) ri rv λes es' s' hH hd' I'=>⟨_,I',?_⟩
    exact q (DX a es') ⟨a,rfl,hd',rfl⟩ (N9 hH)
   .cases e
theorem Ii(h:Eb o=true):∃b,o=some (.b b)/\C.cp (.b b)=false:=by
 unfold Eb at h;split at h
 .exact⟨_,rfl,rfl⟩
 .exact⟨_,rfl,rfl⟩
 .cases h
variable{H:Hp}
theorem HX{D:Ends}{σ:L2.St}{os:List Addr}(hR:Aa W H ρ σ os)(hn:os.Nodup)(hh:ER W σ H ρ h (.ref a) [])(hp:∀c,h≠.Bt c)(hk:∃o,Bk W H k i o)(hv:Al W H v x)(hA:Cd W xp [] D σ H os (BQ h k v ρ)):
 Px W (.ref a) i x H λH4=>D.nx σ H4:=by
 unfold BQ at hA;cases ec:h.cont ρ with
 |none=>rw[ec]at hA;exact False.elim hA
 |some d=>
   rw[ec]at hA;cases d with
   |obj _ _=>exact False.elim hA
   |b b =>
     cases k with
     |obj _ _=>exact False.elim hA
     |b y =>
       cases y with
       |p kp=>
         dsimp only at hA;cases es:E6 b kp v with
         |none=>rw[es]at hA;exact False.elim hA
         |some b'=>
           rw[es]at hA;have hA:Cd W xp [] D σ H os ((Res.of (setB ρ h b') ρ).bind λρ' _=>.ok .nx ρ'):=hA;cases e2:setB ρ h b' with
           |none=>rw[e2]at hA;exact False.elim hA
           |some ρ'=>
             rw[e2]at hA;have hA:∀σ' H' os',Aa W H' ρ' σ' os'->os'.Nodup->Ba H H' os os'->AQ [] σ σ'->D.nx σ' H':=hA
             have nb:C.cp (.b b)=false:=by
              cases b with
              |lst _=>cases es
              |AB _=>rfl
              |p _=>cases es
              |ro _=>cases es
             have hb:BZ W H b (.ref a) [a]:=by
              cases h with
              |Bt c=>exact absurd rfl (hp c)
              |slot i=>
                obtain⟨v,o,q1,q2,_⟩:=hR.get (show A8 ρ i=some (.b b)from ec);rw[hh.1]at q1;cases q1;have:=BZ.addr q2 nb;subst this;exact q2
              |fld i f=>
                obtain⟨a0,C,dx,fs,v,b0,o',q1,q2,_,_,q5,eb,q6⟩:=FZ hR (show Bz ρ i f=some (.b b)from ec);cases eb;obtain⟨_,a1,C1,dx1,fs1,g1,g2,g3⟩:=hh;rw[g1]at q1;cases q1;rw[g2]at q2;cases q2;rw[g3]at q5;cases q5;have:=BZ.addr q6 nb;subst this;exact q6
             obtain⟨ok,hk⟩:=hk;refine⟨b,kp,v,b',a,rfl,hb,hk.1,hv,es,λx' hb' k'=>?_⟩;obtain⟨os',t1,t2,t3⟩:=HR hR hn ec hh nb hb' k' e2;exact hA σ _ os' t1 (t2.nodup_iff.mpr hn) t3 (AQ.refl _ _)
       |_=>exact False.elim hA
theorem AX(o i v:T)(ρ:Env):exec cf mt A6 (.E5 o i v) ρ=match placeOf o with
 |some h=>if !h.Kr || i.calm then(ev cf mt v ρ).bind λv ρ=>C3 h (ev cf mt i) v ρ else .stuck
 |none=>.stuck:=rfl
variable{pos:Pos}
theorem NC{env:PySem.Env}(h:AL i=true)(v:Value):assign (.Subscript o i pos) env v=(do
 let ov <-holding [v] (eval o env)
 let iv <-holding [v,ov] (eval i env)
 standAt pos
 holding [v,ov,iv] (setItem ov iv v)
 release [v,ov,iv] []):=by
 cases i<;>first|rfl|cases h
theorem Uq{t:T}(ht:t.calm=true){σ:L2.St}{os:List Addr}(hR:Aa W H ρ σ os):ev cf mt t ρ= .stuck\/∃c ρ' v,ev cf mt t ρ= .ok c ρ'/\XR W σ H t v/\(c.cp=true->ρ'=ρ/\Bk W H c v []):=by
 cases t with
 |cst p=>
   obtain⟨v,hv⟩:=L7 (W:=W) (H:=H) (show IA p=true from ht);exact .inr ⟨.p p,ρ,v,by show(den cf mt (.cst p)).v ρ=_;unfold den;rfl,⟨ht,hv⟩,λ_=>⟨rfl,hv,rfl⟩⟩
 |var i=>
   rw[QZ];cases hg:A8 ρ i with
   |none=>exact .inl rfl
   |some c=>
     obtain⟨v,o,q1,q2,_⟩:=hR.get hg;refine .inr ?_;cases hc:c.cp with
     |true=>
       have:=q2.cp hc;subst this;exact⟨c,ρ,v,by simp[hc],q1,λ_=>⟨rfl,q2⟩⟩
     |false=>exact⟨c,ρ.set i none,v,by simp[hc],q1,λz=>by rw[hc]at z;cases z⟩
 |fld i f=>
   rw[show ev cf mt (.fld i f) ρ=(match Bz ρ i f with|some c=>if c.cp then .ok c ρ else .stuck|none=>.stuck)from by show(den cf mt (.fld i f)).v ρ=_;unfold den;rfl];cases hg:Bz ρ i f with
   |none=>exact .inl rfl
   |some c=>
     obtain⟨a,C,dx,fs,v,b,o',q1,q2,q3,q4,q5,rfl,q6⟩:=FZ hR hg;cases hc:Iv.C.cp (.b b)with
     |true=>
       have:o'=[]:=Bk.cp (c:=.b b) q6 hc;subst this;exact .inr ⟨.b b,ρ,v,by simp[hc],⟨a,C,dx,fs,q1,q2,q3,q4,q5⟩,λ_=>⟨rfl,q6⟩⟩
     |false=>exact .inl (by simp[hc])
 |_=>cases ht
theorem Pl{k:C}(hk:k.cp=false):BQ h k v ρ= .stuck:=by
 unfold BQ;cases k with
 | obj _ _=>cases h.cont ρ with
   |none=>rfl
   |some d=>cases d<;>rfl
 |b y=>
   cases y with
   |p _=>cases hk
   |ro _=>cases hk
   | lst _=>cases h.cont ρ with
     |none=>rfl
     |some d=>cases d<;>rfl
   | AB _=>cases h.cont ρ with
     |none=>rfl
     |some d=>cases d<;>rfl
theorem MR(hK:W.K=X.K)(hw:W.w=X.w)(hu:X.A.units + 200 < cLine){ix val:Expr}{to:TE}{spos:Pos}(hr:dz X W e o to)(hi:AK X W cf mt ix i)(hv:AK X W cf mt val v):
 PS X (.Assign [.Subscript e ix pos] val spos) (tS W xp [] (exec cf mt A6 (.E5 o i v))):=by
 have hs:swapsWithSole [.Subscript e ix pos] val spos.line X.env=pure false:=by
  show swapsWith val (some (.Subscript e ix pos)) spos.line X.env=pure false;cases val<;>rfl
 have hwp:swappedStores [.Subscript e ix pos] val X.env=pure none:=by cases val<;>rfl
 have fin:∀(h:Hd) (a:Addr) {σ:L2.St} {H1:Hp} {D:Ends} {ρ1:Env} {os1:List Addr} {p:P} {x:V},(∀c,h≠.Bt c)->Aa W H1 ρ1 σ os1->os1.Nodup->Al W H1 p x->(∀H2 ρ2,h.Kr=false->ER W σ H2 ρ2 h (.ref a) [])->h.Kr=false->Cd W xp [] D σ H1 os1 ((ev cf mt i ρ1).bind λk ρ=>BQ h k p ρ)->
  tG W (rV W) (ev cf mt i) σ H1 λiv H2=>Px W (.ref a) iv x H2 λH3=>D.nx σ H3:=by
  intro h a σ H1 D ρ1 os1 p x hp hR hn hx hst hnf hA;refine⟨ρ1,os1,hR,hn,?_⟩;unfold Cs;cases eF:ev cf mt i ρ1 with
  |stuck=>rw[eF]at hA;exact hA
  |ok k ρ2=>
    rw[eF,Res.A5]at hA;intro iv H2 o2 os2 r1 r2 r3 r4;have hA:=hA.later r4 (AQ.refl _ _);exact HX r2 (nA r3).2.1 (hst H2 ρ2 hnf) hp ⟨o2,r1⟩ (hx.mono (r4.but.keep hR.own)) (hA.less λa ha=>mR ha)
 cases hr with
 |@nm x p j hx=>
   refine DK (PF hv.v (PQ hx hi.v (Pj hK hw hu) (NC hi.st)) hs hwp rfl) λD σ H z=>?_
   obtain⟨ρ,os,hR,hn,hA⟩:=z;rw[AX]at hA;have hA:Cd W xp [] D σ H os ((ev cf mt v ρ).bind λv ρ=>C3 (.slot j) (ev cf mt i) v ρ):=hA;refine⟨ρ,os,hR,hn,after hR hA λc ρ1 xv H1 o1 os1 r1 r2 r3 r4 r5=>?_⟩;unfold C3 at r5;split at r5
   .rename_i p;have r1:Bk W H1 (.p p) xv o1:=r1;obtain⟨r6,rfl⟩:=r1;split at r5
    case isFalse=>exact False.elim r5
    rename_i hc;obtain⟨b,eb,nb⟩:=Ii hc;obtain⟨ov,o,q1,q2,_⟩:=r2.get (show A8 ρ1 j=some (.b b)from eb)
    obtain⟨a,rfl⟩:∃a,ov= .ref a:=by
     cases b with
     |lst _=>obtain⟨a,_,rfl,_⟩:=q2;exact⟨a,rfl⟩
     |AB _=>obtain⟨a,rfl,_⟩:=q2;exact⟨a,rfl⟩
     |p _=>cases nb
     |ro _=>cases nb
    exact⟨.ref a,q1,fin (.slot j) a (λc z=>by cases z) r2 r3 r6 (λ_ _ _=>⟨q1,rfl⟩) rfl r5⟩
   .exact False.elim r5
 |@fl x f p q j hx=>
   by_cases hcalm:i.calm=true
   .refine DK (PF hv.v (PQ hx (hi.x hcalm) (Pj hK hw hu) (NC hi.st)) hs hwp rfl) λD σ H z=>?_
    obtain⟨ρ,os,hR,hn,hA⟩:=z;rw[AX]at hA;have hA:Cd W xp [] D σ H os (if(!true || i.calm)=true then(ev cf mt v ρ).bind λv ρ=>C3 (.fld j f) (ev cf mt i) v ρ else .stuck):=hA;rw[iP (by rw[hcalm];rfl)]at hA;refine⟨ρ,os,hR,hn,after hR hA λc ρ1 xv H1 o1 os1 r1 r2 r3 r4 r5=>?_⟩;unfold C3 at r5;split at r5
    .rename_i p;have r1:Bk W H1 (.p p) xv o1:=r1;obtain⟨r6,rfl⟩:=r1;split at r5
     case isFalse=>exact False.elim r5
     rename_i hc;obtain⟨b,eb,nb⟩:=Ii hc;obtain⟨a0,C,dx,fs,ov,b0,o',q1,q2,c1,c2,q5,ee,q6⟩:=FZ r2 (show Bz ρ1 j f=some (.b b)from eb);cases ee
     obtain⟨a,rfl⟩:∃a,ov= .ref a:=by
      cases b with
      |lst _=>obtain⟨a,_,rfl,_⟩:=q6;exact⟨a,rfl⟩
      |AB _=>obtain⟨a,rfl,_⟩:=q6;exact⟨a,rfl⟩
      |p _=>cases nb
      |ro _=>cases nb
     refine⟨.ref a0,q1,a0,C,dx,fs,.ref a,rfl,q2,hK▸c1,hK▸c2,q5,?_⟩;rcases Uq (cf:=cf) (mt:=mt) hcalm r2 with e1|⟨k,ρ',iv,e1,e2,e3⟩
     .rw[e1]at r5;exact False.elim r5
     .rw[e1]at r5;refine⟨iv,e2,?_⟩;cases hkc:k.cp with
      |false=>
        have r5:Cd W xp [] D σ H1 ([]++os1) (BQ (.fld j f) k p ρ'):=r5;rw[Pl hkc]at r5;exact False.elim r5
      |true=>
        obtain⟨rfl,e4⟩:=e3 hkc;exact HX (h:=.fld j f) r2 r3 ⟨rfl,a0,C,dx,fs,q1,q2,q5⟩ (λc z=>by cases z) ⟨[],e4⟩ r6 r5
    .exact False.elim r5
   .refine K4 λρ=>?_
    rw[AX];show(if(!true || i.calm)=true then _ else _)=_;rw[iN (by simpa using hcalm)]
end
section
variable{X:Cx}{W:Wd}{cf:CF}{mt:MT}
variable{H:Hp}
theorem Bv.put{ob:List Addr}(hb:BZ W H b y ob):∀{fs:List (Str×B)} {vs:List (Str×V)} {o:List Addr},Bv W H fs vs o->(o++ob).Nodup->∃o',Bv W H (Iv.Bg f b fs) (L2.Bg f y vs) o'/\o'.Nodup/\∀a∈o',a∈o++ob
 | [],_,_,⟨e1,e2⟩,hn=>by
   subst e1 e2;exact⟨ob++[],⟨y,[],ob,[],rfl,hb,⟨rfl,rfl⟩,rfl⟩,by simpa using hn,λa ha=>by simpa using ha⟩
 | (g, c)::fs,_,_,⟨v,r,o1,o2,e1,h1,h2,e2⟩,hn=>by
   subst e1 e2;have hn':(o1++(o2++ob)).Nodup:=by rw[<-append_assoc];exact hn
   have n1:=nA hn';unfold Iv.Bg L2.Bg
   by_cases hg:g=f
   .rw[iP hg,iP hg];refine⟨ob++o2,⟨y,r,ob,o2,rfl,hb,h2,rfl⟩,(perm_append_comm.nodup_iff).mp n1.2.1,λa ha=>?_⟩;rcases mem_append.mp ha with z|z
    .exact mR z
    .exact mL (mR z)
   .rw [iN hg,iN hg];obtain⟨o',q1,q2,q3⟩:=Bv.put hb h2 n1.2.1;refine⟨o1++o',⟨v,_,o1,o',rfl,h1,q1,rfl⟩,?_,λa ha=>?_⟩
    .rw[nodup_append];exact⟨n1.1,q2,λa ha b hb z=>n1.2.2 a ha b (q3 b hb) z⟩
    .rcases mem_append.mp ha with z|z
     .exact mL (mL z)
     .rcases mem_append.mp (q3 a z)with y|y
      .exact mL (mR y)
      .exact mR y
theorem Bv.len:∀{fs:List (Str×B)} {vs:List (Str×V)} {o:List Addr},Bv W H fs vs o->vs.length=fs.length
 |[],_,_,h=>by rw[h.1];rfl
 |(g,c)::fs,_,_,⟨v,r,o1,o2,e1,h1,h2,e2⟩=>by rw[e1,lC,lC,Bv.len h2]
theorem QA{a C dx:Addr}{fs:List (Str×V)}{x':HO}(h:H a=some (.ins C dx fs)):B0 H (upd H a x'):=λb=>by
 by_cases hb:b=a
 .subst hb;refine⟨λxs z=>?_,λo u z=>?_⟩
  .rw[h]at z;cases z
  .rw[h]at z;cases z
 .rw[An hb];exact⟨λ_ z=>z,λ_ _ z=>z⟩
theorem Ni(i:Nat)(f:Str)(v:T)(ρ:Env):exec cf mt A6 (.NV i f v) ρ=(ev cf mt v ρ).bind λv ρ=>MF mt i f v ρ:=rfl
theorem Ta(hK:W.K=X.K)(hF:∀c f,mt.f c f=true->C2 X.K (W.DG c) f){f:Str}{apos spos:Pos}{val:Expr}{i:Nat}(hx:PE X (.Name x p) (F9 i))(hv:AK X W cf mt val v):
 PS X (.Assign [.Attribute (.Name x p) f apos] val spos) (tS W xp [] (exec cf mt A6 (.NV i f v))):=by
 refine DK (WL hx hv.v (by cases val<;>rfl)) λD σ H z=>?_
 obtain⟨ρ,os,hR,hn,hA⟩:=z;rw[Ni]at hA;refine⟨ρ,os,hR,hn,after hR hA λc ρ1 y H1 o1 os1 r1 r2 r3 r4 r5=>?_⟩;unfold MF at r5;cases hg:A8 ρ1 i with
 |none=>rw[hg]at r5;exact False.elim r5
 |some d=>
   rw[hg]at r5;cases d with
   |b _=>exact False.elim r5
   |obj kk fs=>
     cases c with
     |obj _ _=>exact False.elim r5
     |b b =>
       dsimp only at r5;split at r5
       case isFalse=>exact False.elim r5
       rename_i hc;rw[bA]at hc;have r5:∀σ' H' os',Aa W H' (ρ1.set i (some (.obj kk (Iv.Bg f b fs)))) σ' os'->os'.Nodup->Ba H1 H' (o1++os1) os'->AQ [] σ σ'->D.nx σ' H':=r5;obtain⟨vv,oi,osr,t1,t2,t3,t4⟩:=r2.take hg;obtain⟨a,dx,vs,osf,rfl,q1,q2,rfl,q4⟩:=t2;have n3:=nA r3;have nd:=nA (t4.nodup_iff.mpr n3.2.1);have nf:=nodup_cons.mp nd.1;have ha1:a∈os1:=t4.subset (mL mS);have no:C2 X.K (W.DG kk) f:=hF kk f hc.1;refine⟨.ref a,t1,a,W.DG kk,dx,vs,rfl,q1,hK▸q4.1,no,by rw[q2.len];have:=of_decide_eq_true hc.2;lia,?_⟩;have kp:B0 H1 (upd H1 a (.ins (W.DG kk) dx (L2.Bg f y vs))):=QA q1;have bt:IE [a] H1 (upd H1 a (.ins (W.DG kk) dx (L2.Bg f y vs))):=Df mS;have fr1:=q2.frame kp bt (λb hb z=>nf.1 (by rw[<-mE z];exact hb));have fb:BZ W (upd H1 a (.ins (W.DG kk) dx (L2.Bg f y vs))) b y o1:=BZ.frame r1 kp bt λb hb z=>n3.2.2 b hb a ha1 (mE z)
       have fr3:=t3.frame kp bt λb hb z=>nd.2.2 a mS b hb (mE z).symm
       have dis:∀b∈osf,b∈os1:=λb hb=>t4.subset (mL (mC hb))
       obtain⟨o',g1,g2,g3⟩:=Bv.put (f:=f) fb fr1 (by
        rw[nodup_append]
        exact⟨nf.2,n3.1,λb hb d hd z=>n3.2.2 d hd b (dis b hb) z.symm⟩)
       have ha':a∉o':=λz=>by
        rcases mem_append.mp (g3 a z)with y|y
        .exact nf.1 y
        .exact n3.2.2 a y a ha1 rfl
       obtain⟨os2,u1,u2⟩:=Aa.fill (c:=.obj kk (Iv.Bg f b fs)) (v:=.ref a) (o:=a::o') ⟨a,dx,_,o',rfl,Ay,g1,rfl,q4.put (hK▸no)⟩ fr3 (BS (D9 hg)) (by rw[length_set];exact D9 hg);rw[set_set,set_same t1]at u1
       have nd2:((a::o')++osr).Nodup:=by
        rw[nodup_append];refine⟨nodup_cons.mpr ⟨ha',g2⟩,nd.2.1,λb hb d hd z=>?_⟩;subst z;rcases mK hb with y|y
        .exact nd.2.2 a mS b hd y.symm
        .rcases mem_append.mp (g3 b y)with w|w
         .exact nd.2.2 b (mC w) b hd rfl
         .exact n3.2.2 b w b (t4.subset (mR hd)) rfl
       refine r5 σ _ os2 u1 (u2.nodup_iff.mpr nd2) ⟨Df (mR ha1),λb hb=>.inl ?_,λb x e=>?_⟩ (AQ.refl _ _)
       .rcases mem_append.mp (u2.subset hb)with y|y
        .rcases mK y with w|w
         .rw[w];exact mR ha1
         .rcases mem_append.mp (g3 b w)with u|u
          .exact mR (dis b u)
          .exact mL u
        .exact mR (t4.subset (mR y))
       .by_cases hba:b=a
        .subst hba;exact⟨_,Ay⟩
        .exact⟨x,by rw[An hba];exact e⟩
end
structure bT(a b:Scope):Prop where
 loc:∀x,a.names.lookup x=some .local->b.names.lookup x=some .local
 dt:∀x,a.names.lookup x=some .cell->b.names.lookup x=some .cell
 eM:∀x,a.names.lookup x=some .free->b.names.lookup x=some .free\/b.names.lookup x=some .cell
 fk:∀x,a.names.lookup x=some .globalImplicit->b.names.lookup x=some .globalImplicit
theorem bT.refl(a:Scope):bT a a:=⟨λ_ h=>h,λ_ h=>h,λ_ h=>.inl h,λ_ h=>h⟩
theorem CC{env:PySem.Env}:∀{names:List (Str×NameKind)} {x:Str},names.lookup x=some .globalImplicit->
 (names.map λ(n,k)=>if(k == NameKind.free && env.scope.kind == .function && env.kindOf n == some .cell)then(n,NameKind.cell)else(n,k)).lookup x=some .globalImplicit
 |[],_,h=>by simp at h
 | (n,k)::r,x,h=>by
   have ih:=@CC env r x;rw[map_cons];cases hx:x == n with
   |true=>
     simp only[lookup_cons,hx]at h;cases h;simp[lookup_cons,hx]
   |false=>
     simp only[lookup_cons,hx]at h;dsimp only;split
     .simp only[lookup_cons,hx];exact ih h
     .simp only[lookup_cons,hx];exact ih h
structure En(ct:Ct)(X:Cx)(W:Wd)(cf:CF)(mt:MT)(k:Nat):Prop where
 K:W.K=X.K
 w:W.w=X.w
 N:X.N=ct.N
 nd:X.N.Nodup
 sc:bT ct.sc X.env.scope
 fn:ct.df=true->∀x,X.fn x=true
 calm:X.calm=true
 room:C6 (k+1) X.A
 po:PassesOwn (model X.prog X.w) X.A X.env X.xe
 gl:∀x p,ct.gl.lookup x=some p->∃u v,X.mg x=some u/\RelV v u/\∀H,Al W H p v
 own:∀x∈JF,ct.gl.lookup x=none->ct.fns.lookup x=none->ct.cls.lookup x=none->X.mg x=none
 fns:∀x f,ct.fns.lookup x=some f->X.mg x=some (.ref (W.Jr f))/\keepIn X.K (.ref (W.Jr f))=true/\bV X W cf k f
 cls:∀x c,ct.cls.lookup x=some c->X.mg x=some (.ref (W.DG c))/\∀f,mt.m c (Str.ofString "__init__")=some f->Mk X.K (W.DG c) (W.Jr f)
 YG:dA X W cf mt k
 fld:∀c f,mt.f c f=true->C2 X.K (W.DG c) f
section
variable{ct:Ct}{X:Cx}{W:Wd}{cf:CF}{mt:MT}{k:Nat}
theorem Hk{l:List Str}{i:Nat}(h:l.idxOf? x=some i):l[i]? =some x:=by
 unfold List.idxOf? at h;obtain⟨h1,h2,_⟩:=List.findIdx?_eq_some_iff_getElem.mp h;rw[List.getElem?_eq_getElem h1];exact congrArg some (beq_iff_eq.mp h2)
theorem Fm(h:H9 x=true):(x == ("__debug__":Str))=false/\(x == ("__classdict__":Str))=false/\x≠"__name__":=by
 unfold H9 at h;rw[bA,bA]at h;exact⟨by simpa using h.1.1,by simpa using h.1.2,of_decide_eq_true h.2⟩
theorem En.slot(L:En ct X W cf mt k){i:Nat}(h:ct.slot x=some i):X.N[i]? =some x/\bf X.env.scope x/\(x == ("__debug__":Str))=false/\(x == ("__classdict__":Str))=false:=by
 unfold Ct.slot at h;split at h
 .rename_i hc;rw[bA]at hc;obtain⟨n1,n2,_⟩:=Fm hc.1;refine⟨by rw[L.N];exact Hk h,?_,n1,n2⟩;have hs:=hc.2;unfold seen at hs;split at hs
  .rename_i e;exact .inl (L.sc.loc x e)
  .rename_i e;exact .inr (.inl (L.sc.dt x e))
  .rename_i e;rcases L.sc.eM x e with z|z
   .exact .inr (.inr z)
   .exact .inr (.inl z)
  .cases hs
 .cases h
theorem En.Dm(L:En ct X W cf mt k){i:Nat}(h:ct.Dm x=some i):X.N[i]? =some x/\Loc X.env.scope x/\(X.fn x=true\/X.env.scope.names.lookup x=some .local):=by
 unfold Ct.Dm at h;split at h
 .rename_i hc;rw[bA]at hc;refine⟨by rw[L.N];exact Hk h,?_⟩;have hs:=hc.2;unfold bound at hs;split at hs
  .rename_i e;exact⟨.inl (L.sc.loc x e),.inr (L.sc.loc x e)⟩
  .rename_i e;exact⟨.inr (L.sc.dt x e),.inl (L.fn hs x)⟩
  .cases hs
 .cases h
theorem En.glob(L:En ct X W cf mt k)(h:ct.glob x=true):Gl X x/\(x == ("__debug__":Str))=false/\x≠"__name__":=by
 unfold Ct.glob at h;rw[bA]at h;obtain⟨n1,_,n3⟩:=Fm h.1;exact⟨L.sc.fk x (of_decide_eq_true h.2),n1,n3⟩
theorem En.X1(L:En ct X W cf mt k)(h:ct.own x=true):Gl X x/\X.mg x=none/\(x == ("__debug__":Str))=false/\x≠"__name__":=by
 unfold Ct.own at h;simp only[bA]at h;obtain⟨⟨⟨⟨h1,h2⟩,h3⟩,h4⟩,h5⟩:=h;obtain⟨g1,g2,g3⟩:=L.glob h1;exact⟨g1,L.own x (by simpa using h2) (by simpa using h3) (by simpa using h4) (by simpa using h5),g2,g3⟩
theorem En.un(L:En ct X W cf mt k):X.A.units+200 < cLine:=by have:=L.room.un;lia
theorem En.pv(L:En ct X W cf mt k){i:Nat}(h:ct.slot x=some i):PE X (.Name x p) (F9 i):=by
 obtain⟨h1,h2,h3,h4⟩:=L.slot h;exact LC h1 h2 h3 h4
variable{sc:Scope}
theorem En.eO(L:En ct X W cf mt k){N:List Str}{fr:List (Option Nat)}(h:Rm ct.N ct.sc N sc fr=true):DV X.N X.env.scope N sc fr:=by
 have h0:Mj ct.N ct.sc N sc fr=true:=h;have ok:=DV.of h0;refine⟨ok.kind,ok.J3,ok.own,λy hy e=>?_,ok.len,by rw[L.N];exact ok.Uj⟩;rcases ok.free y hy e with z|z
 .exact .inl (L.sc.dt _ z)
 .rcases L.sc.eM _ z with q|q
  .exact .inr q
  .exact .inl q
theorem lookup_mem{α:Type}{l:List (Str×α)}{a:α}(h:l.lookup x=some a):(x,a)∈l:=PySem.mem_of_lookup h
theorem En.block(L:En ct X W cf mt k)(h:Rm ct.N ct.sc (ct.block sc).1.N sc (ct.block sc).2=true)(hn:(ct.block sc).1.N.Nodup)(C:Addr)(s:Shared)(H:Hp)(fp:List Addr):En (ct.block sc).1 (AV X (ct.block sc).1.N sc C s H fp) W cf mt k:=by
 have ok:=L.eO h;refine⟨L.K,L.w,rfl,hn,⟨λx e=>?_,λx e=>?_,λx e=>?_,λx e=>?_⟩,λz=>(by cases z),L.calm,L.room,PassesOwn.never,L.gl,L.own,λx f e=>?_,L.cls,⟨λc m f e=>?_⟩,L.fld⟩
 .exact lookup_relabel_local e
 .exact absurd rfl (ok.J3 _ (lookup_mem e))
 .exact BX e
 .exact CC e
 .obtain⟨h1,h2,h3⟩:=L.fns x f e;exact⟨h1,h2,⟨h3.ex⟩⟩
 .obtain⟨h1,h2,h3⟩:=L.YG.VO c m f e;exact⟨h1,h2,⟨h3.ex⟩⟩
theorem L8{es:List Expr}{env:PySem.Env}:assignEach (.Name x p::es) env=(false,assign (.Name x p) env)::assignEach es env:=rfl
theorem PN(L:En ct X W cf mt k):∀{es:List Expr} {is:List Nat},Oi ct es=some is->bp X es (aG is)/\(assignEach es X.env).length=is.length/\(assignEach es X.env).findIdx? (·.1)=none/\∀i∈is,i < X.N.length
 | [],is,h=>by
   unfold Oi at h;cases h;exact⟨Tj,rfl,rfl,λi hi=>by cases hi⟩
 | e ::es,is,h=>by
   cases e with
   |Name x p=>
     unfold Oi at h;obtain⟨i,h1,h2⟩:=oB h;obtain⟨js,h3,rfl⟩:=oM h2;obtain⟨q1,q2,q3,q4⟩:=PN L h3;obtain⟨t1,t2,t3⟩:=L.Dm h1;refine⟨PO (MX L.nd t1 t2 t3) q1 rfl,by rw[L8,lC,lC,q2],?_,λj hj=>?_⟩
     .rw[L8,List.findIdx?_cons,q3];rfl
     .rcases mK hj with z|z
      .rw[z];exact(List.getElem?_eq_some_iff.mp t1).1
      .exact q4 j z
   |_=>unfold Oi at h;cases h
theorem VM(L:En ct X W cf mt k){tg:Expr}{g:Tg}(h:YK ct tg=some g):PG X tg (gT W g)/\∀i∈g.slots,i < X.N.length:=by
 cases tg with
 |Name x p=>
   unfold YK at h;obtain⟨i,h1,rfl⟩:=oM h;obtain⟨t1,t2,t3⟩:=L.Dm h1;refine⟨MX L.nd t1 t2 t3,λj hj=>?_⟩;rw[mE hj];exact(List.getElem?_eq_some_iff.mp t1).1
 |Tuple es n p=>
   unfold YK at h;obtain⟨is,h1,rfl⟩:=oM h;obtain⟨q1,q2,q3,q4⟩:=PN L h1;refine⟨?_,q4⟩;show PG X (.Tuple es n p) (XC W.K is.length (aG is));rw[L.K];exact WN L.calm q1 q2 q3
 |_=>unfold YK at h;cases h
end
def Pk(W:Wd)(cf:CF)(mt:MT)(k:Nat)(e:Expr):Prop:=∀{ct:Ct} {X:Cx} {t:T},En ct X W cf mt k->kE ct e=some t->AK X W cf mt e t
section
variable{W:Wd}{cf:CF}{mt:MT}{k:Nat}
theorem none_of{α:Type}{a:α}{p:Prop}(h:(none:Option α)=some a):p:=by cases h
variable{n:Nat}{pos:Pos}
theorem UK{c:Const}:Pk W cf mt k (.Constant c n pos):=by
 intro ct X t L h;cases c with
 |none=>cases h;exact Fe L.K L.w PR (λH=>B5.mpr rfl) (λ_=>rfl) rfl
 |bool b=>cases h;exact Fe L.K L.w ZM (λH=>Cq.mpr rfl) (λ_=>rfl) rfl
 |int i=>cases h;exact Fe L.K L.w WU (λH=>Ai.mpr rfl) (λ_=>rfl) rfl
 |str x=>cases h;exact Fe L.K L.w WQ (λH=>AD.mpr rfl) (λ_=>rfl) rfl
 |_=>exact none_of h
theorem XY:Pk W cf mt k (.Name x pos):=by
 intro ct X t L h;change ct.name x=_ at h;unfold Ct.name at h;cases hs:ct.slot x with
 |some i=>
   rw[hs]at h;cases h;obtain⟨h1,h2,h3,h4⟩:=L.slot hs;exact Sv L.K L.w h1 h2 h3 h4
 |none=>
   rw[hs]at h;dsimp only at h;split at h
   .rename_i hg;cases hl:ct.gl.lookup x with
    |none=>rw[hl]at h;cases h
    |some p=>
      rw[hl]at h;cases h;obtain⟨g1,g2,g3⟩:=L.glob hg;obtain⟨u,v,q1,q2,q3⟩:=L.gl x p hl;exact Fe L.K L.w (To g1 q1 q2 g2) q3 (λ_=>rfl) rfl
   .cases h
theorem Y5:Pk W cf mt k (.Attribute o f pos):=by
 intro ct X t L h;cases o with
 |Name x p=>
   obtain⟨i,hs,rfl⟩:=oM h;obtain⟨h1,h2,h3,h4⟩:=L.slot hs;exact SH L.K L.w h1 h2 h3 h4
 |_=>exact none_of h
variable{ct:Ct}{X:Cx}
theorem EX{es:List Expr}(ih:∀e∈es,Pk W cf mt k e)(L:En ct X W cf mt k):∀{ts:List T},Lg ct es=some ts->Cz X W cf mt es ts:=by
 induction es with
 |nil=>intro ts h;unfold Lg at h;cases h;exact .nil
 |cons e es ihl=>
   intro ts h;unfold Lg at h;obtain⟨t,h1,h2⟩:=oB h;obtain⟨us,h3,rfl⟩:=oM h2;exact .cons (ih e mS L h1) (ihl (λe he=>ih e (mC he)) h3)
theorem aV{es:List Expr}(ih:∀e∈es,Pk W cf mt k e):Pk W cf mt k (.Tuple es n pos):=by
 intro ct X t L h;obtain⟨ts,h1,rfl⟩:=oM h;exact Sw L.K L.w (EX ih L h1)
theorem aZ{es:List Expr}(ih:∀e∈es,Pk W cf mt k e):Pk W cf mt k (.List es pos):=by
 intro ct X t L h;obtain⟨ts,h1,rfl⟩:=oM h;exact SA L.K L.w (EX ih L h1)
theorem Y0{ks:List (Option Expr)}{vs:List Expr}:Pk W cf mt k (.Dict ks vs pos):=by
 intro ct X t L h;change (if ks.isEmpty && vs.isEmpty then some (T.AB [] [])else none)=_ at h;split at h
 .rename_i hc;cases h;rw[bA]at hc;have h1:ks=[]:=List.isEmpty_iff.mp hc.1;have h2:vs=[]:=List.isEmpty_iff.mp hc.2;subst h1 h2;exact SI L.K L.w
 .cases h
theorem b7{op:Operator}(ha:Pk W cf mt k a)(hb:Pk W cf mt k b):Pk W cf mt k (.BinOp a op b pos):=by
 intro ct X t L h;obtain⟨o,h1,h2⟩:=oB h;obtain⟨x,h3,h4⟩:=oB h2;obtain⟨y,h5,rfl⟩:=oM h4;have sx:=ha L h3;have sy:=hb L h5;cases op with
 |Add=>cases h1;exact Er L.K L.w rfl (ag L.K) (λ_ _=>rfl) rfl sx sy
 |Sub=>cases h1;exact Er L.K L.w rfl (ZY (W:=W)) (λ_ _=>rfl) rfl sx sy
 |Mult=>cases h1;exact Er L.K L.w rfl (aa (W:=W)) (λ_ _=>rfl) rfl sx sy
 |Mod=>cases h1;exact Er L.K L.w rfl (ae (W:=W)) (λ_ _=>rfl) rfl sx sy
 |FloorDiv=>cases h1;exact Er L.K L.w rfl (Xe (W:=W)) (λ_ _=>rfl) rfl sx sy
 |Pow=>cases h1;exact Er L.K L.w rfl (ZZ (W:=W)) (λ_ _=>rfl) rfl sx sy
 |_=>exact none_of h1
theorem du{op:UnaryOp}(ha:Pk W cf mt k a):Pk W cf mt k (.UnaryOp op a pos):=by
 intro ct X t L h;cases op with
 |Not=>
   obtain⟨x,h1,rfl⟩:=oM h;exact Sx L.K L.w (ha L h1)
 |USub=>
   obtain⟨x,h1,rfl⟩:=oM h;exact Sy L.K L.w (ha L h1)
 |_=>exact none_of h
variable{op:PySem.BoolOp}
theorem VR(L:En ct X W cf mt k):∀{es:List Expr} {t:T},(∀e∈es,Pk W cf mt k e)->kB ct op es=some t->JJ X W cf mt op es t/\(2<=es.length->∃x y,t= .and x y\/t= .or x y)
 |[],t,_,h=>by unfold kB at h;cases h
 | [e],t,ih,h=>by
   unfold kB at h;exact⟨.one (ih e mS L h),λz=>by simp at z⟩
 | e::e'::es,t,ih,h=>by
   unfold kB at h;obtain⟨x,h1,h2⟩:=oB h;obtain⟨y,h3,rfl⟩:=oM h2;have sx:=ih e mS L h1;have sy:=(VR L (λe he=>ih e (mC he)) h3).1;cases op with
   |And=>exact⟨.and sx sy,λ_=>⟨x,y,.inl rfl⟩⟩
   |Or=>exact⟨.or sx sy,λ_=>⟨x,y,.inr rfl⟩⟩
theorem Y4{es:List Expr}(ih:∀e∈es,Pk W cf mt k e):Pk W cf mt k (.BoolOp op es pos):=by
 intro ct X t L h;change (if 2<=es.length then kB ct op es else none)=_ at h;split at h
 .rename_i hl;obtain⟨h1,h2⟩:=VR L ih h;obtain⟨x,y,e⟩:=h2 hl;rcases e with rfl|rfl
  .exact AK.ZX L.K L.w (λ_ _=>rfl) rfl rfl (h1.v pos) (PW.pt (h1.w pos)) rfl
  .exact AK.ZX L.K L.w (λ_ _=>rfl) rfl rfl (h1.v pos) (PW.pt (h1.w pos)) rfl
 .cases h
theorem XX(h1:∀a b,Ab o [a,b]=F3 o a b)(h2:Ab o []=none)(h3:∀a,Ab o [a]=none)(h4:∀a b c r,Ab o (a::b::c::r)=none):∀cs c,Ab o cs=some c->∃b,c= .p (.bl b):=by
 intro cs c e;rcases cs with _|⟨a,_|⟨b,_|⟨d,r⟩⟩⟩
 .rw[h2]at e;cases e
 .rw[h3]at e;cases e
 .rw[h1]at e;obtain⟨x,_,rfl⟩:=BM e;exact⟨x,rfl⟩
 .rw[h4]at e;cases e
theorem UB(op:CmpOp){o:O}(h:aw op=some o)(L:En ct X W cf mt k):Dl X (compareOp op) (CZ W (F3 o)):=by
 cases op with
 |Eq=>cases h;exact(Qc L.K L.w L.un).1
 |NotEq=>cases h;exact(Qc L.K L.w L.un).2
 |Lt=>cases h;exact cL
 |Gt=>cases h;exact cN
 |GtE=>cases h;exact cO
 |Is=>cases h;exact cM
 |In=>cases h;exact(af L.K L.w L.un).1
 |NotIn=>cases h;exact(af L.K L.w L.un).2
 |_=>cases h
theorem Y2{op:CmpOp}(ha:Pk W cf mt k a)(hb:Pk W cf mt k b):Pk W cf mt k (.Compare a [op] [b] pos):=by
 intro ct X t L h;obtain⟨o,h2,h⟩:=oB h;obtain⟨x,h3,h4⟩:=oB h;obtain⟨y,h5,rfl⟩:=oM h4;have sx:=ha L h3;have sy:=hb L h5;have ho:=UB op h2 L;cases op<;>cases h2<;>exact SJ L.K L.w rfl ho (λ_ _=>rfl) (XX (λ_ _=>rfl) rfl (λ_=>rfl) (λ_ _ _ _=>rfl)) rfl sx sy
theorem b6{ops:List CmpOp}{cs:List Expr}(ha:Pk W cf mt k a)(ih:∀e∈cs,Pk W cf mt k e):Pk W cf mt k (.Compare a ops cs pos):=by
 rcases ops with _|⟨o1,_|⟨o2,os⟩⟩<;>rcases cs with _|⟨b,_|⟨c,cs⟩⟩<;>first|exact Y2 ha (ih b mS)|exact λL h=>none_of h
def Ps(W:Wd)(cf:CF)(mt:MT)(k:Nat)(e:Expr):Prop:=∀lo hi st p,e= .Slice lo hi st p->(∀x,lo=some x->Pk W cf mt k x)/\∀x,hi=some x->Pk W cf mt k x
theorem PL(h:AL b=true):JK b:=by
 intro o i;cases b<;>first|rfl|cases h
theorem aX(hv:Pk W cf mt k v)(hi:Pk W cf mt k i)(hs:Ps W cf mt k i):Pk W cf mt k (.Subscript v i pos):=by
 intro ct X t L h
 have plain:((kE ct v).bind λx=>(kE ct i).map λy=>T.prim .idx [x,y])=some t->AK X W cf mt (.Subscript v i pos) t:=λh=>by
  obtain⟨x,h3,h4⟩:=oB h;obtain⟨y,h5,rfl⟩:=oM h4;have sy:=hi L h5;exact SE L.K L.w L.un (PL sy.st) (hv L h3) sy
 cases i with
 |Slice lo hi' st p=>
   cases st with
   |none=>
     obtain⟨x,h3,h4⟩:=oB h;obtain⟨l,h5,h6⟩:=oB h4;obtain⟨u,h7,rfl⟩:=oM h6;obtain⟨s1,s2⟩:=hs lo hi' none p rfl;have sx:=hv L h3;cases lo with
     |none=>
       unfold kO at h5;cases h5;cases hi' with
       |none=>unfold kO at h7;cases h7;exact MD L.K L.w rfl rfl rfl rfl
       |some b=>
         unfold kO at h7;obtain⟨y,h8,rfl⟩:=oM h7;exact Pa L.K L.w sx (s2 b rfl L h8)
     |some a=>
       unfold kO at h5;obtain⟨y,h8,rfl⟩:=oM h5;cases hi' with
       |none=>unfold kO at h7;cases h7;exact Pb L.K L.w sx (s1 a rfl L h8)
       |some b=>
         unfold kO at h7;obtain⟨z,h9,rfl⟩:=oM h7;exact MD L.K L.w rfl rfl rfl rfl
   |some st=>exact plain h
 |_=>exact plain h
end
section
variable{W:Wd}{cf:CF}{mt:MT}{k:Nat}
theorem Ah{α:Type}{c:Prop}[Decidable c]{a b:Option α}{t:α}(h:(if c then a else b)=some t):(c/\a=some t)\/(¬c/\b=some t):=by
 by_cases hc:c
 .rw[iP hc]at h;exact .inl ⟨hc,h⟩
 .rw[iN hc]at h;exact .inr ⟨hc,h⟩
variable{X:Cx}
theorem Cz.one{es:List Expr}{t:T}(h:Cz X W cf mt es [t]):∃e,es=[e]/\AK X W cf mt e t:=by
 cases h with
 |cons h r=>cases r;exact⟨_,rfl,h⟩
theorem Cz.two{es:List Expr}{t u:T}(h:Cz X W cf mt es [t,u]):∃e f,es=[e,f]/\AK X W cf mt e t/\AK X W cf mt f u:=by
 cases h with
 |cons h r=>
   obtain⟨f,rfl,h2⟩:=r.one;exact⟨_,f,rfl,h,h2⟩
variable{ct:Ct}{pos:Pos}
theorem Xl(L:En ct X W cf mt k)(hg:Gl X "list")(hm:X.mg "list"=none){u:T}{p:Pos}(h:AK X W cf mt a t)(e:Qp t=some u):AK X W cf mt (.Call (.Name "list" p) [a] [] pos) u:=by
 unfold Qp at e;split at e
 .cases e;obtain⟨l,q,p2,rfl,g1,g2,g3,g4⟩:=h.rv _ rfl;exact JX L.K L.w L.calm hg hm g1 g2 g3 g4
 .cases e;obtain⟨l,m,q,p2,rfl,g1,g2,g3,g4,g5⟩:=h.zp _ _ rfl;exact JW L.K L.w L.calm hg hm g1 g2 g3 g4 g5
 .cases e
 .cases e;exact VG L.K L.w rfl (XZ L.K L.calm) (FJ λ_=>rfl) UM hg hm (by decide) (by decide) rfl (.cons h .nil)
theorem Wk(L:En ct X W cf mt k)(hg:Gl X "tuple")(hm:X.mg "tuple"=none){u:T}{p:Pos}(h:AK X W cf mt a t)(e:P0 t=some u):AK X W cf mt (.Call (.Name "tuple" p) [a] [] pos) u:=by
 unfold P0 at e;split at e
 .cases e
 .cases e;exact VG L.K L.w rfl (UI L.K) (FJ λ_=>rfl) L4 hg hm (by decide) (by decide) rfl (.cons h .nil)
variable{ts:List T}
theorem Yg(L:En ct X W cf mt k){es:List Expr}{t:T}(ho:ct.own x=true)(h:Cz X W cf mt es ts)(e:bR x ts=some t):AK X W cf mt (.Call (.Name x p) es [] pos) t:=by
 obtain⟨hg,hm,_,_⟩:=L.X1 ho;unfold bR at e
 match ts,h,e with
 |[u],h,e=>
   obtain⟨a,rfl,sa⟩:=h.one;rcases Ah e with⟨hx,e⟩|⟨_,e⟩
   .subst hx;cases e;exact JY L.K L.w rfl (b4 L.K) (FJ λ_=>rfl) Y9 hg hm (by decide) (by decide) rfl h
   rcases Ah e with⟨hx,e⟩|⟨_,e⟩
   .subst hx;exact Xl L hg hm sa e
   rcases Ah e with⟨hx,e⟩|⟨_,e⟩
   .subst hx;exact Wk L hg hm sa e
   rcases Ah e with⟨hx,e⟩|⟨_,e⟩
   .subst hx;cases e;exact JY L.K L.w rfl (aW L.K L.calm) (FJ λ_=>rfl) Y6 hg hm (by decide) (by decide) rfl h
   rcases Ah e with⟨hx,e⟩|⟨_,e⟩
   .subst hx;cases e;exact JY L.K L.w rfl (b8 L.K L.calm) (FJ λ_=>rfl) Yc hg hm (by decide) (by decide) rfl h
   rcases Ah e with⟨hx,e⟩|⟨_,e⟩
   .subst hx;cases e;exact JY L.K L.w rfl (Ri L.K L.calm) (FJ λ_=>rfl) OD hg hm (by decide) (by decide) rfl h
   rcases Ah e with⟨hx,e⟩|⟨_,e⟩
   .subst hx;cases e;exact HV hg hm h (.inl rfl)
   rcases Ah e with⟨hx,e⟩|⟨_,e⟩
   .subst hx;cases e;exact IQ L.K hg hm sa
   .cases e
 |[u,v],h,e=>
   obtain⟨a,b,rfl,sa,sb⟩:=h.two;rcases Ah e with⟨hx,e⟩|⟨_,e⟩
   .subst hx;cases e;exact JY L.K L.w rfl (aY (W:=W) L.calm) (Xb λ_ _=>rfl) Y8 hg hm (by decide) (by decide) rfl h
   rcases Ah e with⟨hx,e⟩|⟨_,e⟩
   .subst hx;cases e;exact Su hg hm sa sb
   .cases e
 |[u,v,w],h,e=>
   rcases Ah e with⟨hx,e⟩|⟨_,e⟩
   .subst hx;cases e;exact HV hg hm h (.inr rfl)
   .cases e
 |[],h,e=>cases e
 |_::_::_::_::_,h,e=>cases e
theorem av(L:En ct X W cf mt k){i:Nat}(hr:PE X (.Name x p) (F9 i)){es:List Expr}{t:T}{apos:Pos}(Af:bF m es.length apos pos=true)(h:Cz X W cf mt es ts)(hk:kM m i ts=some t):AK X W cf mt (.Call (.Attribute (.Name x p) m apos) es [] pos) t:=by
 unfold bF at Af;rw[bA,bA]at Af;obtain⟨⟨hline,hl⟩,hni⟩:=Af;have hl:=of_decide_eq_true hl;have hni:=of_decide_eq_true hni;unfold kM at hk;cases hb:dw m i ts with
 |none=>
   rw[hb]at hk;rcases Ah hk with⟨_,hk⟩|⟨he,hk⟩
   .cases hk
   .cases hk;exact P8 L.K L.w L.YG (L.room.mono (Nat.le_succ _)) hr hni hl hline (λz=>by subst z;cases h;exact he rfl) h
 |some z=>
   rw[hb]at hk;cases hk;unfold dw at hb
   match ts,h,hb with
   |[],h,hb=>
     cases h;rcases Ah hb with⟨hx,hb⟩|⟨_,hb⟩
     .subst hx;cases hb;exact P7 L.K L.w TJ PySem.F.slot_list_pop PySem.F.type_list_pop Xi hr hline
     .cases hb
   |[u],h,hb=>
     obtain⟨a,rfl,sa⟩:=h.one;rcases Ah hb with⟨hx,hb⟩|⟨_,hb⟩
     .subst hx;cases hb;exact JV L.K L.w LN PySem.F.slot_list_append PySem.F.type_list_append Od hr hline sa
     rcases Ah hb with⟨hx,hb⟩|⟨_,hb⟩
     .subst hx;cases hb;exact JV L.K L.w LM PySem.F.slot_list_extend PySem.F.type_list_extend Oc hr hline sa
     .cases hb
   |[u,v],h,hb=>
     obtain⟨a,b,rfl,sa,sb⟩:=h.two;rcases Ah hb with⟨hx,hb⟩|⟨_,hb⟩
     .subst hx;cases hb;exact SG L.K L.w L.un hr hline sa sb
     .cases hb
   |_::_::_::_,h,hb=>cases hb
theorem Z2{t:Ty}(h:tyName y=some t):bootBuiltins y=some (.type (MB t)):=by
 unfold tyName at h;rcases Ah h with⟨hy,h⟩|⟨_,h⟩
 .subst hy;cases h;exact Yb
 rcases Ah h with⟨hy,h⟩|⟨_,h⟩
 .subst hy;cases h;exact UO
 rcases Ah h with⟨hy,h⟩|⟨_,h⟩
 .subst hy;cases h;exact Y7
 rcases Ah h with⟨hy,h⟩|⟨_,h⟩
 .subst hy;cases h;exact L4
 rcases Ah h with⟨hy,h⟩|⟨_,h⟩
 .subst hy;cases h;exact UN
 .cases h
variable{args:List Expr}
theorem UL(ih:∀e∈args,Pk W cf mt k e):Pk W cf mt k (.Call (.Name x p) args [] pos):=by
 intro ct X t L h;change (if ct.own x then(if x="isinstance" then(cS args).bind λy=>(dZ ct args).bind λt=>if ct.own y then(tyName y).map λk=>T.prim (.FC k) [t]else none else(Lg ct args).bind (bR x))else if ct.glob x then(Lg ct args).bind (QE ct x)else none)=_ at h;rcases Ah h with⟨ho,h⟩|⟨_,h⟩
 .rcases Ah h with⟨hx,h⟩|⟨_,h⟩
  .subst hx;obtain⟨y,hn,h⟩:=oB h;obtain⟨u,h1,h⟩:=oB h;rcases Ah h with⟨hoy,h⟩|⟨_,h⟩
   .obtain⟨ty,h3,rfl⟩:=oM h;unfold cS at hn;split at hn
    .cases hn;have sa:=ih _ mS L h1;obtain⟨g1,g2,_,_⟩:=L.X1 ho;obtain⟨g3,g4,g5,g6⟩:=L.X1 hoy;exact SD L.K L.w (Z2 h3) g3 g4 g6 g5 g1 g2 sa
    .cases hn
   .cases h
  .obtain⟨ts,h1,h2⟩:=oB h;exact Yg L ho (EX ih L h1) h2
 .rcases Ah h with⟨hgl,h⟩|⟨_,h⟩
  .obtain⟨ts,h1,h2⟩:=oB h;have hs:=EX ih L h1;obtain⟨g1,g2,_⟩:=L.glob hgl;unfold QE at h2;cases hf:ct.fns.lookup x with
   |some f=>
     rw[hf]at h2;cases h2;obtain⟨q1,q2,q3⟩:=L.fns x f hf;exact Pd L.K L.w q3 (L.room.mono (Nat.le_succ _)) g1 q1 q2 g2 hs
   |none=>
     rw[hf]at h2;rcases Ah h2 with⟨he,h2⟩|⟨_,h2⟩
     .obtain⟨c,hc,rfl⟩:=oM h2;obtain⟨q1,q2⟩:=L.cls x c hc;cases hs with
      |nil=>exact P9 L.K L.w L.YG L.room g1 q1 q2 g2
      |cons _ _=>cases he
     .cases h2
  .cases h
theorem Y3{kws:List Keyword}(ih:∀e∈args,Pk W cf mt k e):Pk W cf mt k (.Call f args kws pos):=by
 cases kws with
 | cons q r=>intro ct X t L h;cases f with
   |Attribute o m apos=>cases o<;>exact none_of h
   |_=>exact none_of h
 |nil =>
   cases f with
   |Name x p=>exact UL ih
   |Attribute o m apos=>
     intro ct X t L h;cases o with
     |Name x p=>
       have h:(if bF m args.length apos pos then(ct.slot x).bind λi=>(Lg ct args).bind (kM m i)else none)=some t:=h;rcases Ah h with⟨Af,h⟩|⟨_,h⟩
       .obtain⟨i,h1,h2⟩:=oB h;obtain⟨ts,h3,h4⟩:=oB h2;exact av L (L.pv h1) Af (EX ih L h3) h4
       .cases h
     |_=>exact none_of h
   |_=>intro ct X t L h;exact none_of h
def Pg(W:Wd)(cf:CF)(mt:MT)(k:Nat):Comprehension->Prop
 |⟨_,it,ifs,_⟩=>Pk W cf mt k it/\∀e∈ifs,Pk W cf mt k e
theorem Y1{elt:Expr}{gs:List Comprehension}{sc:Scope}(he:Pk W cf mt k elt)(hg:∀g∈gs,Pg W cf mt k g):Pk W cf mt k (.ListComp elt gs sc pos):=by
 intro ct X t L h;rcases gs with _|⟨⟨tg,it,ifs,n⟩,_|⟨g2,gs⟩⟩
 .exact none_of h
 .obtain⟨p1,p2⟩:=hg _ mS;obtain⟨x,h1,h⟩:=oB h;obtain⟨g,h2,h⟩:=oB h;obtain⟨cs,h3,h⟩:=oB h;obtain⟨e,h4,h⟩:=oB h;rcases Ah h with⟨hc,h⟩|⟨_,h⟩
  .cases h;rw[bA,bA,bA]at hc;obtain⟨⟨⟨c0,c1⟩,c2⟩,c3⟩:=hc;have c3:=of_decide_eq_true c3;have c0:=of_decide_eq_true c0;subst c0;refine Pc L.K L.w L.calm (L.eO c2) (p1 L h1) (of_decide_eq_true c1) λC s H fp=>?_
   have L2:=L.block c2 c3 C s H fp;exact⟨(VM L2 h2).1,he L2 h4,EX p2 L2 h3⟩
  .cases h
 .exact none_of h
end
section
variable{W:Wd}{cf:CF}{mt:MT}{k:Nat}
def az:Expr->Bool
 |.Slice _ _ _ _=>true
 |_=>false
theorem B6(h:az e=false):Ps W cf mt k e:=λlo hi st p z=>by subst z;cases h
theorem Rj(h:∀ct,kE ct e=none):Pk W cf mt k e:=by
 intro ct X t L z;rw[h]at z;cases z
theorem Cj(h:∀ct,kE ct e=none)(h2:az e=false):Pk W cf mt k e/\Ps W cf mt k e:=⟨Rj h,B6 h2⟩
mutual
theorem DN:∀e:Expr,Pk W cf mt k e/\Ps W cf mt k e
 |.Constant c n pos=>⟨UK,B6 rfl⟩
 |.Name x pos=>⟨XY,B6 rfl⟩
 |.Attribute o f pos=>⟨Y5,B6 rfl⟩
 |.Tuple es n pos=>⟨aV (G9 es),B6 rfl⟩
 |.List es pos=>⟨aZ (G9 es),B6 rfl⟩
 |.Dict ks vs pos=>⟨Y0,B6 rfl⟩
 |.BinOp a op b pos=>⟨b7 (DN a).1 (DN b).1,B6 rfl⟩
 |.UnaryOp op a pos=>⟨du (DN a).1,B6 rfl⟩
 |.BoolOp op es pos=>⟨Y4 (G9 es),B6 rfl⟩
 |.Compare a ops cs pos=>⟨b6 (DN a).1 (G9 cs),B6 rfl⟩
 |.IfExp c a b pos=>Cj (λ_=>rfl) rfl
 |.Subscript v i pos=>⟨aX (DN v).1 (DN i).1 (DN i).2,B6 rfl⟩
 | .Slice lo hi st p=>⟨Rj λ_=>rfl,λlo' hi' st' p' z=>by
  cases z
  exact⟨ZP lo,ZP hi⟩⟩
 |.Call f args kws pos=>⟨Y3 (G9 args),B6 rfl⟩
 |.ListComp elt gs sc pos=>⟨Y1 (DN elt).1 (VN gs),B6 rfl⟩
 |.NamedExpr a b c=>Cj (λ_=>rfl) rfl
 |.Lambda a b c d=>Cj (λ_=>rfl) rfl
 |.Set a b c=>Cj (λ_=>rfl) rfl
 |.SetComp a b c d=>Cj (λ_=>rfl) rfl
 |.DictComp a b c d e=>Cj (λ_=>rfl) rfl
 |.GeneratorExp a b c d=>Cj (λ_=>rfl) rfl
 |.Await a b=>Cj (λ_=>rfl) rfl
 |.Yield a b=>Cj (λ_=>rfl) rfl
 |.YieldFrom a b=>Cj (λ_=>rfl) rfl
 |.FormattedValue a b c d=>Cj (λ_=>rfl) rfl
 |.JoinedStr a b=>Cj (λ_=>rfl) rfl
 |.Starred a b=>Cj (λ_=>rfl) rfl
theorem G9:∀es:List Expr,∀e∈es,Pk W cf mt k e
 |[],e,h=>nomatch h
 | x::xs,e,h=>by
   rcases mK h with z|z
   .rw[z];exact(DN x).1
   .exact G9 xs e z
theorem ZP:∀o:Option Expr,∀e,o=some e->Pk W cf mt k e
 |none,e,h=>nomatch h
 |some x,e,h=>by cases h;exact(DN x).1
theorem VN:∀gs:List Comprehension,∀g∈gs,Pg W cf mt k g
 |[],g,h=>nomatch h
 | x::xs,g,h=>by
   rcases mK h with z|z
   .rw[z];exact cH x
   .exact VN xs g z
theorem cH:∀g:Comprehension,Pg W cf mt k g
 |⟨tg,it,ifs,a⟩=>⟨(DN it).1,G9 ifs⟩
end
end
structure Ru(ct:Ct)(X:Cx)(W:Wd)(xp:Nat->Hp->Prop):Prop where
 st:X.stack=X.env::X.outer
 fr:X.env.frame=some X.env.locals
 rm:C6 4 X.A
 up:∀c pins σ H s1 s' e t d,Inv X pins σ H s1->s'.os=s1.os->s'.gens=s1.gens->(∀b o,s1.heap.get? b=some o->s'.heap.get? b=some o)->s1.heap.get? e=none->s'.heap.get? e=some (Xc.Fw (W.DG c) t d)->xp c H->X.xe (.ref e) s'
 pa:Passes (Xc.HH X.prog X.w) X (λcls _ H=>∃c,cls= .ref (W.DG c)/\xp c H)
 xk:∀c,ct.cls.lookup Sn=some c->∃f sf pl st fd,Xc.Xk X.K (W.DG c) f sf pl st fd
def aS(W:Wd)(xp:Nat->Hp->Prop)(D:Ends)(hd:Option (Nat×P)):XK:=λcls _ H2=>∃c,cls= .ref (W.DG c)/\match hd with
 |none=>xp c H2
 |some (d,p)=>c=d/\∀v,Al W H2 p v->D.rt v H2
section
variable{X:Cx}{W:Wd}{cf:CF}{mt:MT}{xp:Nat->Hp->Prop}
variable{D:Ends}{H:Hp}
theorem UH{i f:Nat}{hd:Option (Nat×P)}{F:Env->Res (List Hd)}{σ:L2.St}(hi:i < σ.length)(h:tS W xp [i] (λρ=>(F ρ).bind (EO cf i f hd)) D σ H):
 tG W (Bn W) F σ H λvs H1=>NS W (cf f) vs H1 (λv H2=>EH i v σ H2 D.nx) (aS W xp D hd):=by
 obtain⟨ρ,os,hR,hn,hA⟩:=h;dsimp only at hA;refine⟨ρ,os,hR,hn,after hR hA λhs ρ1 vs H1 o1 os1 h1 h2 h3 h4 h5=>?_⟩;unfold EO at h5;cases ec:Am ρ1 hs with
 |none=>rw[ec]at h5;exact h5.elim
 |some cs=>
   rw[ec]at h5;dsimp only at h5;split at h5
   case isFalse=>exact h5.elim
   rename_i hg;cases ecf:cf f cs with
   |stuck=>rw[ecf]at h5;exact h5.elim
   |ok c outs=>
     rw[ecf]at h5;cases eb:back (lend ρ1 hs cs) hs cs outs with
     |none=>dsimp only at h5;rw[eb]at h5;exact h5.elim
     |some ρ2=>
       dsimp only at h5;rw[eb]at h5;refine Ng h1 h2 h3 ec hg ecf eb λv H' o os' r1 r2 r3 r4=>?_
       obtain⟨os2,od,t1,t2⟩:=Aa.put r1 r2 (by rw[<-r2.length];exact hi);exact h5 (σ.set i (some v)) H' os2 t1 (DO r3 t2) (r4.sub λa ha=>t2.subset (mR ha)) (AQ.set mS)
   |err c outs=>
     rw[ecf]at h5;cases eb:back (lend ρ1 hs cs) hs cs outs with
     |none=>dsimp only at h5;rw[eb]at h5;exact h5.elim
     |some ρ2=>
       dsimp only at h5;rw[eb,Res.J1,Res.A5]at h5;refine QP h1 h2 h3 ec hg ecf eb λH' os' r1 r2 r3=>⟨c,rfl,?_⟩
       cases hd with
       |none=>exact h5 σ H' os' r1 r2 r3 (AQ.refl _ _)
       |some q=>
         obtain⟨d,p⟩:=q;dsimp only at h5 ⊢;split at h5
         case isFalse=>exact h5.elim
         rename_i hcd;exact⟨hcd,λv rp=>h5 v σ H' [] os' ⟨rp,rfl⟩ r1 r2 r3 (AQ.refl _ _)⟩
theorem UG{k:Nat}{fd:FuncData}{ps:List Str}{sp:Sp}{E:XK}{y:Str}{i:Nat}{e:Expr}{es:List Expr}{t:TA}{py pos apos:Pos}{pins:List (Addr×Obj)}{s:Shared}{σ:L2.St}
 (F:Eo X.prog X.w X.K X.mg X.base (Xc.HH X.prog X.w) k f fd ps sp)(hr:C6 k X.A)(hg:Gl X x)(hm:X.mg x=some (.ref f))(hk:keepIn X.K (.ref f)=true)(hb:Binds X.K fd ps [])(hdb:(x == ("__debug__":Str))=false)(ha:PA X (e::es) t)
 (he:starEach (e::es) X.env=(false,eval e X.env)::starEach es X.env)(hpl:(backTo pos (starEach es X.env)).any (·.1)=false)(hN:X.N.Nodup)(hi:X.N[i]? =some y)(hy:Loc X.env.scope y)(hf:X.fn y=true\/X.env.scope.names.lookup y=some .local)
 (I:Inv X pins σ H s)(h:t σ H λvs H1=>sp vs H1 (λv H2=>EH i v σ H2 D.nx) E)(hx:∀H s e s',Inv X pins σ H s->Xc.HH X.prog X.w X.stack H s E e s'->X.xe e s'):
 wpAny (model X.prog X.w) X.A (PySem.exec (.Assign [.Name y py] (.Call (.Name x p) (e::es) [] pos) apos) X.env) (SP X pins D) X.xe s:=by
 refine wpAny_Assign_Name (Bf (Q:=EP X pins σ λv H2=>EH i v σ H2 D.nx) ?_ λv s1 ⟨y1,H1,I1,r1,q1⟩=>GK I1 hN hi hy r1 (λs2 I2=>⟨_,H1,I2,q1⟩) hf) (CK rfl _ _ _);refine wpAny_Call_Name_kw (Ex I hg hm ?_ hdb);refine callWith_K (h₀:=X.base) I.ok.mod.B3 hk (Bf (ha pos pins s σ H _ I h) λus s1 ⟨vs,H1,I1,r,q⟩=>⟨I1.DQ,?_⟩) he hpl;have hl:us.length=ps.length:=by rw[<-r.length];exact F.len _ _ _ _ q
 refine wpAny_call (codeAny_mono (F.run X.A X.stack s1 H1 ⟨us,[]⟩ us vs _ E hr I1.XM (by simpa using hb s1 us I1.DQ (by simpa using hl)) r q) λr s' hq=>?_);cases r with
 |error e=>exact hx H1 s1 e s' I1 hq
 |ok fl=>
   cases fl with
   |ret u=>exact I1.after hq
   |next=>exact False.elim hq
   |brk=>exact False.elim hq
   |cont=>exact False.elim hq
end
def Qk(W:Wd)(cf:CF)(mt:MT)(k:Nat)(st:Stmt):Prop:=∀{ct:Ct} {X:Cx} {s:S} {xp:Nat->Hp->Prop},En ct X W cf mt k->Ru ct X W xp->kS ct st=some s->PS X st (tS W xp (Mr s) (exec cf mt A6 s))
def Qs(W:Wd)(cf:CF)(mt:MT)(k:Nat)(NR:List Stmt):Prop:=∀{ct:Ct} {X:Cx} {ss:List S} {xp:Nat->Hp->Prop},En ct X W cf mt k->Ru ct X W xp->QD ct NR=some ss->ON X NR (tS W xp (Bu ss) (execs cf mt A6 ss))
section
variable{W:Wd}{cf:CF}{mt:MT}{k:Nat}
theorem Bq{st:Stmt}(h:∀ct,kS ct st=none):Qk W cf mt k st:=by
 intro ct X s xp L Lx z;rw[h]at z;cases z
theorem G0(c:T)(b:List S):exec cf mt A6 (.Lc c b)=λρ=>A6 (tv cf mt c) (execs cf mt A6 b) ρ:=rfl
theorem BD(g:Tg)(q:IK)(its:List T)(b:List S):exec cf mt A6 (.CB g q its b)=λρ=>if q.ok then(Ad cf mt its ρ).bind (Dy q g (Bu b) (execs cf mt A6 b))else .stuck:=rfl
theorem Uo:execs cf mt A6 []=λρ=>.ok .nx ρ:=rfl
def dJ(f:Fl)(r:Env->Res Fl)(ρ:Env):Res Fl:=match f with
    |.nx=>r ρ
    |f=>.ok f ρ
theorem Kx(s:S)(ss:List S):execs cf mt A6 (s::ss)=λρ=>(exec cf mt A6 s ρ).bind λf ρ=>match f with
 |.nx=>execs cf mt A6 ss ρ
 |f=>.ok f ρ:=rfl
theorem XG(i f:Nat)(ts:List T)(h:Option (Nat×P)):exec cf mt A6 (.OM i f ts h)=λρ=>(Ad cf mt ts ρ).bind (EO cf i f h):=rfl
variable{ct:Ct}{hd:Option (Nat×P)}
theorem Ih{tg:Expr}{s:S}(h:Oj ct hd tg e=some s):∃y py x p a args pos i f ts,tg= .Name y py/\e= .Call (.Name x p) (a::args) [] pos/\ct.glob x=true/\ct.Dm y=some i/\ct.fns.lookup x=some f/\Lg ct (a::args)=some ts/\s= .OM i f ts hd:=by
 unfold Oj at h;split at h
 .rename_i y py x p a args pos;rcases Ah h with⟨hg,h⟩|⟨_,h⟩
  .obtain⟨i,h1,h⟩:=oB h;obtain⟨f,h2,h⟩:=oB h;obtain⟨ts,h3,rfl⟩:=oM h;exact⟨y,py,x,p,a,args,pos,i,f,ts,rfl,rfl,hg,h1,h2,h3,rfl⟩
  .cases h
 .cases h
variable{X:Cx}{xp:Nat->Hp->Prop}{pos:Pos}
theorem Rh(L:En ct X W cf mt k){py apos:Pos}{a:Expr}{args:List Expr}{i f:Nat}{ts:List T}(hg:ct.glob x=true)(h1:ct.Dm y=some i)(h2:ct.fns.lookup x=some f)(h3:Lg ct (a::args)=some ts)
 {pins:List (Addr×Obj)}{s:Shared}{σ:L2.St}{H:Hp}{D:Ends}(I:Inv X pins σ H s)(z:tS W xp [i] (exec cf mt A6 (.OM i f ts hd)) D σ H)
 (hx:∀H s e s',Inv X pins σ H s->Xc.HH X.prog X.w X.stack H s (aS W xp D hd) e s'->X.xe e s'):wpAny (model X.prog X.w) X.A (PySem.exec (.Assign [.Name y py] (.Call (.Name x p) (a::args) [] pos) apos) X.env) (SP X pins D) X.xe s:=by
 obtain⟨g1,g2,_⟩:=L.glob hg;obtain⟨q1,q2,q3⟩:=L.fns x f h2;obtain⟨t1,t2,t3⟩:=L.Dm h1;obtain⟨fd,ps,F1,F2⟩:=q3.ex;have hs:=EX (G9 (a::args)) L h3;have pl:=hs.plain;rw[XG]at z;exact UG F1 (L.room.mono (Nat.le_succ _)) g1 q1 q2 F2 g2 (DM hs) (Au (pl a mS) args _) (Cp (λe he=>pl e (mC he)) pos _) L.nd t1 t2 t3 I (UH (by rw[I.len];exact(List.getElem?_eq_some_iff.mp t1).1) z) hx
theorem Zz{s:S}{tg:Expr}(L:En ct X W cf mt k)(Lx:Ru ct X W xp)(h:Oj ct none tg e=some s):PS X (.Assign [tg] e pos) (tS W xp (Mr s) (exec cf mt A6 s)):=by
 obtain⟨y,py,x,p,a,args,pos',i,f,ts,rfl,rfl,hg,h1,h2,h3,rfl⟩:=Ih h;intro pins s σ H D I z;exact Rh L hg h1 h2 h3 I z λH1 s1 e s' I1 c=>Lx.pa pins σ H1 s1 e s' I1 c
theorem Zu{b o fi:List Stmt}{hs:List ExceptHandler}:Qk W cf mt k (.Try b hs o fi pos):=by
 intro ct X s xp L Lx h;replace h:Xw ct b hs o fi=some s:=h;unfold Xw at h;split at h
 .rename_i tg e pa x px z j zp rp hp;rcases Ah h with⟨hg,h⟩|⟨_,h⟩
  .rw[bA]at hg;have hx:=of_decide_eq_true hg.2;obtain⟨c,hc,h⟩:=oB h;obtain⟨y,py,x2,p,a,args,pos',i,f,ts,rfl,rfl,hg2,h1,h2,h3,rfl⟩:=Ih h;obtain⟨g1,g2,_⟩:=L.glob hg.1;obtain⟨q1,_⟩:=L.cls x c hc;obtain⟨_,_,_,_,_,xk⟩:=Lx.xk c (hx▸hc);intro pins s σ H D I w;refine Xc.Wl (C:=W.DG c) (R:=λH'=>D.rt (.str z) H') xk.cls g1 q1 g2 Lx.st Lx.fr I (λ_ r=>r) λxe po hE=>?_
   have L':En ct (X.GH xe) W cf mt k:=⟨L.K,L.w,L.N,L.nd,L.sc,L.fn,L.calm,L.room,po,L.gl,L.own,λx f e=>⟨(L.fns x f e).1,(L.fns x f e).2.1,⟨(L.fns x f e).2.2.ex⟩⟩,L.cls,⟨λc m f e=>⟨(L.YG.VO c m f e).1,(L.YG.VO c m f e).2.1,⟨(L.YG.VO c m f e).2.2.ex⟩⟩⟩,L.fld⟩;refine Bf (Rh (X:=X.GH xe) L' hg2 h1 h2 h3 (I.GH xe) w λH1 s1 e s' I1 c1=>hE σ H1 s1 e s' I1.DI ?_) λf s1 q=>q.DI
   obtain⟨ea,cls,a0,B,H',e1,e2,e3,e4,e5,e6,e7,c2,e8,e9,e10⟩:=c1;exact⟨ea,cls,a0,B,H',e1,e2,e3,e4,e5,e6,e7,by rw[e8,e9],e10 _ (AD.mpr rfl)⟩
  .cases h
 .cases h
theorem T5{e c:Option Expr}:Qk W cf mt k (.Raise e c pos):=by
 intro ct X s xp L Lx h;replace h:LU ct e c=some s:=h;unfold LU at h;split at h
 .rename_i x px j np cp;rcases Ah h with⟨hg,h⟩|⟨_,h⟩
  .rw[bA]at hg;have hx:=of_decide_eq_true hg.2;obtain⟨c,hc,rfl⟩:=oM h;obtain⟨g1,g2,_⟩:=L.glob hg.1;obtain⟨q1,_⟩:=L.cls x c hc;obtain⟨_,_,_,_,_,xk⟩:=Lx.xk c (hx▸hc)
   rintro pins s σ H D I ⟨ρ,os,hR,hn,hA⟩
   exact Xc.O0 xk (Lx.rm) g1 q1 g2 I λs1 s' e t d I1 i1 i2 i3 i4 i5=>Lx.up c pins σ H s1 s' e t d I1 i1 i2 i3 i4 i5 (hA σ H os hR hn (Ba.refl _ _) (AQ.refl _ _))
  .cases h
 .cases h
theorem ZA{tgs:List Expr}:Qk W cf mt k (.Assign tgs e pos):=by
 intro ct X s xp L Lx h;rcases tgs with _|⟨tg,_|⟨t2,ts⟩⟩
 .exact none_of h
 .rcases Ah (show(if eK e then Oj ct none tg e else _)=some s from h)with⟨_,h⟩|⟨_,h⟩
  .exact Zz L Lx h
  obtain⟨t,h1,h2⟩:=oB h;have se:=(DN e).1 L h1;cases tg with
  |Name x p=>
    obtain⟨i,h3,rfl⟩:=oM h2;obtain⟨t1,t2,t3⟩:=L.Dm h3;intro pins s σ H D I z;refine se.a i x p pos L.nd t1 t2 t3 pins s σ H D I (Zk (xp:=xp) (by rw[I.len];exact(List.getElem?_eq_some_iff.mp t1).1) ?_);obtain⟨ρ,os,hR,hn,hA⟩:=z;exact⟨ρ,os,hR,hn,hA⟩
  |Tuple es n p=>cases h2
  |Subscript o i p=>
    cases o with
    |Name x q=>
      obtain⟨j,h3,h4⟩:=oB h2;obtain⟨b,h5,rfl⟩:=oM h4;exact MR L.K L.w L.un (.nm (L.pv h3)) ((DN i).1 L h5) se
    |Attribute o2 f q=>
      cases o2 with
      |Name x q2=>
        obtain⟨j,h3,h4⟩:=oB h2;obtain⟨b,h5,rfl⟩:=oM h4;exact MR L.K L.w L.un (.fl (PX (L.pv h3) rfl)) ((DN i).1 L h5) se
      |_=>exact none_of h2
    |_=>exact none_of h2
  |Attribute o f p=>
    cases o with
    |Name x q=>
      obtain⟨i,h3,rfl⟩:=oM h2;exact Ta L.K L.fld (L.pv h3) se
    |_=>exact none_of h2
  |_=>exact none_of h2
 .exact none_of h
def gone:HO:=.ext λ_=>True
theorem Zy{s:S}(L:En ct X W cf mt k)(h:KU ct e=some s):PS X (.Expr e pos) (tS W xp (Mr s) (exec cf mt A6 s)):=by
 unfold KU at h;split at h
 case h_2=>cases h
 rename_i x px m apos cpos;split at h
 case isFalse=>cases h
 rename_i hm;obtain⟨rfl,hline⟩:=hm;obtain⟨i,h1,rfl⟩:=oM h
 have pe:PE X (.Call (.Attribute (.Name x px) "clear" apos) [] [] cpos) (λσ H Q=>∃a kvs,σ[i]? =some (some (.ref a))/\CY W H a kvs/\(∀q∈kvs,Dg q.1=true)/\Q .AI (upd H a gone)):=by
  rintro pins s σ H Q I ⟨a,kvs,hs,hd,hi,q⟩
  refine wpAny_Call_method0_late rfl hline (Bf ((L.pv h1) pins s σ H (λv H1=>v= .ref a/\H1=H) I ⟨_,hs,rfl,rfl⟩) λv s1 ⟨y,H1,I1,r1,e1,e2⟩=>?_);subst e1;subst e2;cases r1;have h2:=CG L.w I1.Af hd
  have h3:∀b,Value.ref a= .ref b->∃ob,s1.heap.get? b=some ob/\ob.dict=none:=λb eb=>by
   cases eb;obtain⟨es',ep,⟨ob,g1,g2,_⟩,_⟩:=Ei I1 hd;exact⟨ob,g1,g2.2.1⟩
  refine⟨"dict","dict.clear",PySem.F.plainAttrs_dict,PySem.F.slot_dict_clear,PySem.F.type_dict_clear,h2,h3,Calls.callWith_builtin rfl (PySem.evalArgs_none ?_)⟩;obtain⟨vs,hD,hp⟩:=XO I1 hd hi X.prog X.w;refine call_meetsIn PySem.F.slot_dict_clear hD.typeIs PySem.F.entry_dict_clear (PySem.F.args_dict_clear_1 _) (meets_dict_clear (intKind X.prog X.w) a) ⟨vs,hD,by rw[<-hp.length];exact Nat.le_trans hd.len BP,λh' hn hb=>?_⟩;obtain⟨es,hH,_⟩:=hd.ex;obtain⟨o',_,_,g1,_⟩:=hn;exact⟨.AI,upd H1 a gone,I1.write (x:=a) (e:=a) (t':=s1.toks) (by rw[hH];trivial) (.inl rfl) (λb u hne e=>(hb.2 b hne).trans e) ⟨o',g1⟩ ⟨trivial,⟨o',g1⟩,λ_ _ _ _=>trivial⟩,rfl,q⟩
 refine DK (MS pe (CK rfl _ _ _)) ?_
 rintro D σ H ⟨ρ,os,hR,hn,hA⟩
 rw[show exec cf mt A6 (.aT _) ρ=match A8 ρ _ with
   |some (.b (.AB kvs))=>if kvs.all (λq=>Dg q.1)then .ok .nx (ρ.set _ none)else .stuck
   |_=>.stuck from rfl]at hA
 split at hA
 case h_2=>exact hA.elim
 rename_i kvs hg;split at hA
 case isFalse=>exact hA.elim
 rename_i hk;obtain⟨v,o,os1,g1,⟨a,rfl,hd,ho⟩,g3,g4⟩:=hR.take hg;subst ho;obtain⟨es,hH,_⟩:=hd.ex
 have hk':B0 H (upd H a gone):=λb=>by
  by_cases hb:b=a
  .subst hb;exact⟨λxs z=>(by rw[hH]at z;cases z),λo u z=>(by rw[hH]at z;cases z)⟩
  .rw[An hb];exact⟨λ_ z=>z,λ_ _ z=>z⟩
 have nd:=nA (g4.nodup_iff.mpr hn);have hb:IE [a] H (upd H a gone):=Df mS;refine⟨a,kvs,g1,hd,λq hq=>all_eq_true.mp hk q hq,?_⟩;refine hA σ (upd H a gone) os1 (g3.frame hk' hb λb hb z=>nd.2.2 a mS b hb (mE z).symm) nd.2.1 ⟨λb x e n=>hb b x e λz=>n (g4.subset (mL z)),λb hb=>.inl (g4.subset (mR hb)),λb x e=>?_⟩ (AQ.refl _ _)
 by_cases hb:b=a
 .subst hb;exact⟨_,Ay⟩
 .exact⟨x,by rw[An hb];exact e⟩
theorem WC:Qk W cf mt k (.Expr e pos):=by
 intro ct X s xp L Lx h
 have gen:(if BW e then none else(kE ct e).map S.expr)=some s->PS X (.Expr e pos) (tS W xp (Mr s) (exec cf mt A6 s)):=λh=>by
  rcases Ah h with⟨_,h⟩|⟨hc,h⟩
  .cases h
  .obtain⟨t,h1,rfl⟩:=oM h;exact DK (MS ((DN e).1 L h1).v (CK (by simpa using hc) _ _ _)) λD σ H z=>Wu z
 have gen:(match KU ct e with|some s=>some s|none=>if BW e then none else(kE ct e).map S.expr)=some s->PS X (.Expr e pos) (tS W xp (Mr s) (exec cf mt A6 s)):=λh=>by
  cases hc:KU ct e with
  |some s2=>rw[hc]at h;cases h;exact Zy L hc
  |none=>rw[hc]at h;exact gen h
 exact gen h
theorem Zv{o:Option Expr}:Qk W cf mt k (.Return o pos):=by
 intro ct X s xp L Lx h;cases o with
 |none=>exact none_of h
 |some e=>
   obtain⟨t,h1,rfl⟩:=oM h;exact DK (WJ ((DN e).1 L h1).v) λD σ H z=>Zl z
theorem cC{a b:List Stmt}(ha:Qs W cf mt k a)(hb:Qs W cf mt k b):Qk W cf mt k (.If c a b pos):=by
 intro ct X s xp L Lx h;obtain⟨t,h1,h⟩:=oB h;obtain⟨x,h2,h⟩:=oB h;obtain⟨y,h3,rfl⟩:=oM h;exact DK (ZE ((DN c).1 L h1).b (ha L Lx h2) (hb L Lx h3)) λD σ H z=>ck z
theorem T4{b e:List Stmt}(hb:Qs W cf mt k b):Qk W cf mt k (.While c b e pos):=by
 intro ct X s xp L Lx h;cases e with
 |cons _ _=>exact none_of h
 |nil=>
   obtain⟨t,h1,h⟩:=oB h;obtain⟨x,h2,rfl⟩:=oM h;exact DK (PC L.po ((DN c).1 L h1).b (hb L Lx h2)) λD σ H z=>SR z
theorem Zw{tg it:Expr}{b e:List Stmt}(hb:Qs W cf mt k b):Qk W cf mt k (.For tg it b e pos):=by
 intro ct X s xp L Lx h;cases e with
 |cons _ _=>exact none_of h
 |nil=>
   obtain⟨g,h1,h⟩:=oB h;obtain⟨t,h2,h⟩:=oB h;obtain⟨x,h3,rfl⟩:=oM h;rw[BD];have st:=(DN it).1 L h2;obtain⟨g1,g2⟩:=VM L h1;cases hk:(Bd t).1.ok with
   |false=>exact K4 λρ=>rfl
   |true=>
     intro pins s σ H D I z;exact WK L.po L.calm (st.i hk tg) g1 (hb L Lx h3) (FY st.st _) pins s σ H D I (Zn (xp:=xp) (λi hi=>by rw[I.len];exact g2 i hi) z)
theorem Zx:Qk W cf mt k (.Continue pos):=by
 intro ct X s xp L Lx h;cases h;exact DK K5 λD σ H z=>Zo z
theorem WB:Qs W cf mt k []:=by
 intro ct X ss xp L Lx h;unfold QD at h;cases h;rw[Uo,show Bu []=[]from by unfold Bu;rfl];exact MQ T9 λD σ H z=>Zm z
theorem T3{st:Stmt}{NR:List Stmt}(h1:Qk W cf mt k st)(h2:Qs W cf mt k NR):Qs W cf mt k (st::NR):=by
 intro ct X ss xp L Lx h;unfold QD at h;obtain⟨s,h3,h⟩:=oB h;obtain⟨us,h4,rfl⟩:=oM h;rw[Kx,show Bu (s::us)=Mr s++Bu us from by conv=>lhs;unfold Bu];exact MQ (PB (h1 L Lx h3) (h2 L Lx h4)) λD σ H z=>Wv z
mutual
theorem cD:∀st:Stmt,Qk W cf mt k st
 |.Assign tgs e pos=>ZA
 |.Expr e pos=>WC
 |.Return o pos=>Zv
 |.If c a b pos=>cC (HZ a) (HZ b)
 |.While c b e pos=>T4 (HZ b)
 |.For tg it b e pos=>Zw (HZ b)
 |.Pass ..=>Bq λ_=>rfl
 |.Break ..=>Bq λ_=>rfl
 |.Continue pos=>Zx
 |.Raise e c pos=>T5
 |.Try b h o f pos=>Zu
 |.FunctionDef ..=>Bq λ_=>rfl
 |.AsyncFunctionDef ..=>Bq λ_=>rfl
 |.ClassDef ..=>Bq λ_=>rfl
 |.Delete ..=>Bq λ_=>rfl
 |.TypeAlias ..=>Bq λ_=>rfl
 |.AugAssign ..=>Bq λ_=>rfl
 |.AnnAssign ..=>Bq λ_=>rfl
 |.AsyncFor ..=>Bq λ_=>rfl
 |.With ..=>Bq λ_=>rfl
 |.AsyncWith ..=>Bq λ_=>rfl
 |.Match ..=>Bq λ_=>rfl
 |.TryStar ..=>Bq λ_=>rfl
 |.Assert ..=>Bq λ_=>rfl
 |.Import ..=>Bq λ_=>rfl
 |.ImportFrom ..=>Bq λ_=>rfl
 |.Global ..=>Bq λ_=>rfl
 |.Nonlocal ..=>Bq λ_=>rfl
theorem HZ:∀NR:List Stmt,Qs W cf mt k NR
 |[]=>WB
 |st::NR=>T3 (cD st) (HZ NR)
end
end
variable{W:Wd}{H:Hp}
variable{n:Nat}
theorem FG:∀{ρ:Env} {σ:L2.St} {os:List Addr},Aa W H ρ σ os->Aa W H (ρ++List.replicate n none) (σ++List.replicate n none) os
 | [],_,_,h=>by
   rw[h.1,h.2,nil_append,nil_append]
   induction n with
   |zero=>exact⟨rfl,rfl⟩
   |succ n ih=>exact⟨none,List.replicate n none,rfl,ih⟩
 |none::ρ,_,_,⟨x,r,e,h⟩=>by rw[e];exact⟨x,_,rfl,FG h⟩
 |some c::ρ,_,_,⟨v,r,o,o2,e1,h1,h2,e2⟩=>by rw[e1];exact⟨v,_,o,o2,rfl,h1,FG h2,e2⟩
theorem FF:∀(n:Nat) (g:Nat->Bool) {ρ:Env} {σ τ:L2.St} {os:List Addr},Aa W H ρ σ os->n<=ρ.length->τ.length=n->(∀i,i < n->g i=false->σ[i]? =τ[i]?)->
 ∃oos od,Aa W H ((List.range n).map λi=>if g i then none else A8 ρ i) τ oos/\(od++oos).Perm os
 | 0,g,ρ,σ,τ,os,hR,_,hl,_=>by
   have:τ=[]:=length_eq_zero_iff.mp hl;subst this;exact⟨[],os,⟨rfl,rfl⟩,by rw[append_nil]⟩
 | n + 1, g,ρ,σ,τ,os,hR,hle,hl,hc=>by
   rw[List.range_succ_eq_map,map_cons,map_map];cases τ with
   |nil=>cases hl
   |cons t τ=>
     have hl':τ.length=n:=by simpa using hl
     cases ρ with
     |nil=>cases hle
     |cons x ρ=>
       have hle':n<=ρ.length:=by simpa using hle
       have ef:((λi=>if g i then none else A8 (x::ρ) i) ∘ Nat.succ)=λi=>if g (i+1)then none else A8 ρ i:=rfl
       rw[ef];cases x with
       |none=>
         obtain⟨y,r,e,h⟩:=hR;subst e;obtain⟨oos,od,q1,q2⟩:=FF n (λi=>g (i+1)) h hle' hl' λi hi hg=>by simpa using hc (i+1) (by lia) hg
         refine⟨oos,od,?_,q2⟩;have:(if g 0 then(none:Option C)else A8 (none::ρ) 0)=none:=by split<;>rfl
         rw[this];exact⟨t,τ,rfl,q1⟩
       |some c=>
         obtain⟨v,r,o,o2,e1,h1,h2,e2⟩:=hR;subst e1 e2;obtain⟨oos,od,q1,q2⟩:=FF n (λi=>g (i+1)) h2 hle' hl' λi hi hg=>by simpa using hc (i+1) (by lia) hg
         cases hg:g 0 with
         |true=>
           refine⟨oos,o++od,?_,by rw[append_assoc];exact q2.append_left o⟩;exact⟨t,τ,rfl,q1⟩
         |false=>
           have ht:=hc 0 (by lia) hg;simp at ht;subst ht;refine⟨o++oos,od,⟨v,τ,o,oos,rfl,h1,q1,rfl⟩,?_⟩;refine List.Perm.trans ?_ (q2.append_left o);rw[<-append_assoc,<-append_assoc];exact perm_append_comm.append_right oos
section
variable{P:Program}{w:World}{K:PySem.W.Frag}{mg:Str->Option Value}{base:Heap}{mt:MT}
theorem UQ{X:Cx}{ct:Ct}{cf:CF}{k:Nat}{body:List Stmt}{fi:NH}{N:List Str}{E:XK}(L:En ct X W cf mt k)(Lx:Ru ct X W (λc H'=>E (.ref (W.DG c)) none H'))(hk:QD ct body=some fi.body)(hnl:fi.nl=N.length){vs:List V}{H:Hp}{Q:VK}(hnp:fi.np<=N.length)(hv:vs.length=fi.np)
 (hsp:NS W (EU cf mt A6 fi) vs H Q E):ON X body (tS W (λc H'=>E (.ref (W.DG c)) none H') (Bu fi.body) (execs cf mt A6 fi.body))/\tS W (λc H'=>E (.ref (W.DG c)) none H') (Bu fi.body) (execs cf mt A6 fi.body) {nx:=λ_ H'=>Q .AI H',rt:=Q} (L2.start N vs) H:=by
 refine⟨HZ body L Lx hk,?_⟩;obtain⟨cs,os,hR,hn,hQ⟩:=hsp;have hlen:vs.length=cs.length:=by have:=hR.length;simpa using this
 have hst:L2.start N vs=vs.map some++List.replicate (fi.nl-fi.np) none:=by unfold L2.start;rw[hnl,hv]
 have hR0:Aa W H (cs.map some++List.replicate (fi.nl-fi.np) none) (L2.start N vs) os:=by rw[hst];exact FG hR
 refine⟨_,os,hR0,hn,?_⟩;unfold EU at hQ;rw[iP (by lia)]at hQ;have hρl:fi.np<=(cs.map some++List.replicate (fi.nl-fi.np) (none:Option C)).length:=by rw[lA,lM];lia
 have outs:∀{ρ':Env} {σ':L2.St} {H':Hp} {os':List Addr},Aa W H' ρ' σ' os'->AQ (Bu fi.body) (L2.start N vs) σ'->∃oos od,Aa W H' (E8 fi ρ') (vs.map some) oos/\(od++oos).Perm os':=by
  intro ρ' σ' H' os' r u;unfold E8;have hl2:fi.np<=ρ'.length:=by rw[<-r.length,u.1,hR0.length];exact hρl
  refine FF fi.np (λi=>(Bu fi.body).contains i) r hl2 (by rw[lM];exact hv) λi hi hg=>?_
  rw[u.2 i (by simpa using hg),hst,List.getElem?_append_left (by rw[lM];lia)]
 cases eb:execs cf mt A6 fi.body (cs.map some++List.replicate (fi.nl-fi.np) none)with
 |stuck=>rw[eb]at hQ;exact hQ
 |ok f ρ'=>
   rw[eb]at hQ;cases f with
   |cnt=>exact False.elim hQ
   |er c=>
     intro σ' H' os' r1 r2 r3 r4;obtain⟨oos,od,q1,q2⟩:=outs r1 r4;exact hQ H' oos q1 (nA (q2.nodup_iff.mpr r2)).2.1 (r3.sub λa ha=>q2.subset (mR ha))
   |nx=>
     intro σ' H' os' r1 r2 r3 r4;obtain⟨oos,od,q1,q2⟩:=outs r1 r4;have nd:=nA (q2.nodup_iff.mpr r2);exact hQ .AI H' [] oos ⟨B5.mpr rfl,rfl⟩ q1 nd.2.1 (r3.sub λa ha=>q2.subset (mR ha))
   |ret c=>
     intro v σ' H' o os' r0 r1 r2 r3 r4;obtain⟨oos,od,q1,q2⟩:=outs r1 r4;have n2:=nA r2;have nd:=nA (q2.nodup_iff.mpr n2.2.1);refine hQ v H' o oos r0 q1 ?_ (r3.sub λa ha=>?_)
     .rw[nodup_append];exact⟨n2.1,nd.2.1,λa ha b hb z=>n2.2.2 a ha b (q2.subset (mR hb)) z⟩
     .rcases mem_append.mp ha with z|z
      .exact mL z
      .exact mR (q2.subset (mR z))
structure eV(K:PySem.W.Frag)(mg:Str->Option Value)(W:Wd)(mt:MT)(n:Nat)(tg:List (Str×Iv.P))(tf tc:List (Str×Nat)):Prop where
 kk:W.K=K
 gl:∀x p,tg.lookup x=some p->∃u v,mg x=some u/\RelV v u/\∀H,Al W H p v
 own:∀x∈JF,tg.lookup x=none->tf.lookup x=none->tc.lookup x=none->mg x=none
 fns:∀x f,tf.lookup x=some f->mg x=some (.ref (W.Jr f))/\keepIn K (.ref (W.Jr f))=true/\f < n
 cls:∀x c,tc.lookup x=some c->mg x=some (.ref (W.DG c))/\∀f,mt.m c (Str.ofString "__init__")=some f->Mk K (W.DG c) (W.Jr f)
 VO:∀c m f,mt.m c m=some f->FA K (W.DG c)/\(m≠Str.ofString "__init__"->Meth K (W.DG c) m (W.Jr f))/\f < n
 fld:∀c f,mt.f c f=true->C2 K (W.DG c) f
 xk:∀c,tc.lookup Sn=some c->∃f sf pl st fd,Xc.Xk K (W.DG c) f sf pl st fd
structure NI(K:PySem.W.Frag)(W:Wd)(gl:List (Str×Iv.P))(fns cls:List (Str×Nat))(f:Nat)(fi:NH)(fd:FuncData)(ps:List Str):Prop where
 ex:∃(x qual:Str) (st:Stmt) (ct:Ct),Fz K x qual st (W.Jr f) fd/\DU ct.N ps (Aw st)/\QD ct (CD st)=some fi.body/\fi.np=ps.length/\fi.nl=ct.N.length/\ct.sc=Aw st/\ct.df=true/\ct.gl=gl/\ct.fns=fns/\ct.cls=cls/\Binds K fd ps []
theorem QU{gl:List (Str×Iv.P)}{fns:List NH}{fnt clt:List (Str×Nat)}(hw:W.w=w)(G:eV K mg W mt fns.length gl fnt clt){FD:Nat->FuncData}{PS':Nat->List Str}(D:∀f fi,fns[f]? =some fi->NI K W gl fnt clt f fi (FD f) (PS' f)):
 ∀k f,f < fns.length->Eo P w K mg base (Xc.HH P w) (2*k+4) (W.Jr f) (FD f) (PS' f) (NS W (A0 fns mt A6 k f))/\Binds K (FD f) (PS' f) []
 | 0,f,hf=>by
   obtain⟨x,qual,st,ct,F,S,hk,h1,h2,h3,h4,h5,h6,h7,hb⟩:=(D f fns[f] (List.getElem?_eq_getElem hf)).ex
   have no:∀vs H Q E,¬NS W (A0 fns mt A6 0 f) vs H Q E:=λvs H Q E z=>by
    obtain⟨cs,os,_,_,q⟩:=z;exact q
   exact⟨⟨λvs H Q E z=>(no _ _ _ _ z).elim,λA outer s H args us vs Q E _ _ _ _ z=>(no _ _ _ _ z).elim⟩,hb⟩
 | k + 1,f,hf=>by
   obtain⟨x,qual,st,ct,F,S,hk,h1,h2,h3,h4,h5,h6,h7,hb⟩:=(D f fns[f] (List.getElem?_eq_getElem hf)).ex
   have ecf:A0 fns mt A6 (k + 1) f=EU (A0 fns mt A6 k) mt A6 fns[f]:=by
    funext cs
    show(match fns[f]? with|some fi=>EU (A0 fns mt A6 k) mt A6 fi cs|none=>.stuck)=_;rw[List.getElem?_eq_getElem hf]
   have len:∀vs H Q E,NS W (A0 fns mt A6 (k + 1) f) vs H Q E->vs.length=(PS' f).length:=λvs H Q E z=>by
    obtain⟨cs,os,hR,_,q⟩:=z;have hl:vs.length=cs.length:=by have:=hR.length;simpa using this
    by_cases hl2:cs.length=fns[f].np
    .lia
    .rw[ecf]at q;unfold EU at q;rw[iN hl2]at q;exact q.elim
   refine⟨?_,hb⟩;have hj:2*(k+1)+4=(2*k+4+1)+1:=by lia
   rw[hj];obtain⟨oc,od,kV,doc,pm,an,cdv,cv,osl,ed,lk,hcd⟩:=F.ex;rw[ed];refine aJ (CX:=Xc.HH P w) (ed▸lk) hcd S len λA outer s H vs Q E hr hsp=>?_
   have hvl:=len vs H Q E hsp;rw[ecf]at hsp
   have hnp:fns[f].np<=ct.N.length:=by
    have:=congrArg List.length S.pre;rw[length_take]at this
    lia
   have fs:∀g,g < fns.length->bV (KO (Xc.HH P w) P w K mg base ct.N qual (Aw st) (W.Jr f) cdv A outer s H E) W (A0 fns mt A6 k) (2*k+4) g:=λg hg=>⟨⟨_,_,QU hw G D k g hg⟩⟩
   have L:En ct (KO (Xc.HH P w) P w K mg base ct.N qual (Aw st) (W.Jr f) cdv A outer s H E) W (A0 fns mt A6 k) mt (2 * k + 4):=by
    refine⟨G.kk,hw,rfl,S.nd,by rw[h3];exact bT.refl _,λ_ _=>rfl,rfl,hr,PassesOwn.leaving,?_,?_,?_,?_,⟨?_⟩,G.fld⟩
    .rw[h5];exact G.gl
    .rw[h5,h6,h7];exact G.own
    .rw[h6];intro x f' e;obtain⟨g1,g2,g3⟩:=G.fns x f' e;exact⟨g1,g2,fs f' g3⟩
    .rw[h7];exact G.cls
    .intro c m f' e;obtain⟨g1,g2,g3⟩:=G.VO c m f' e;exact⟨g1,g2,fs f' g3⟩
   have Lx:Ru ct (KO (Xc.HH P w) P w K mg base ct.N qual (Aw st) (W.Jr f) cdv A outer s H E) W (λc H'=>E (.ref (W.DG c)) none H'):=
    ⟨rfl,rfl,hr.mono (by lia),λc pins σ H1 s1 s' e t d I1 i1 i2 i3 i4 i5 q=>Xc.OP I1 rfl rfl rfl i1 i2 i3 i4 i5 q,λpins σ H1 s1 e s' I1 c=>Xc.Si I1 rfl rfl rfl c λcls H' ⟨c,e,q⟩=>e▸q,by rw[h7];exact G.xk⟩
   exact⟨_,UQ L Lx hk h2 hnp (by lia) hsp⟩
end
inductive Each{α:Type}(R:α->Prop):List α->Prop where
 |nil:Each R []
 |cons {a:α} {l:List α} (h:R a) (t:Each R l):Each R (a::l)
variable{α:Type}
theorem Each.mem{R:α->Prop}{l:List α}(h:Each R l):∀a∈l,R a:=by
 induction h with
 |nil=>intro a ha;cases ha
 |cons h t ih=>
   intro a ha;rcases mK ha with z|z
   .rw[z];exact h
   .exact ih a z
theorem Each.look{β:Type}[BEq α][LawfulBEq α]{R:α×β->Prop}{l:List (α×β)}(h:Each R l){a:α}{b:β}(e:l.lookup a=some b):R (a,b):=by
 induction h with
 |nil=>simp at e
 |@cons q l h t ih=>
   rw[show q=(q.1,q.2)from rfl,lookup_cons]at e;cases hq:a == q.1 with
   |true=>
     rw[hq]at e;cases e;rw[eq_of_beq hq];exact h
   |false=>rw[hq]at e;exact ih e
def fnOf(tf tc:List (Str×Nat))(tg:List (Str×P))(st:Stmt):NH:=(bN st (Ux st tf tc tg [])).getD default
variable{W:Wd}{qual:Str}{fd:FuncData}
theorem XN{K:PySem.W.Frag}{tf tc:List (Str×Nat)}{tg:List (Str×P)}{f:Nat}{st:Stmt}(F:Fz K x qual st (W.Jr f) fd)(S:DU (namesOf st) (EM st) (Aw st))(hs:(bN st (Ux st tf tc tg [])).isSome=true)(hb:Binds K fd (EM st) [])
 (e1:R9 st=CD st)(e2:Jz st=Aw st):NI K W tg tf tc f (Iv.fnOf tf tc tg st) fd (EM st):=by
 obtain⟨fi,hfi⟩:=Option.isSome_iff_exists.mp hs;have e:Iv.fnOf tf tc tg st=fi:=by unfold Iv.fnOf;rw[hfi];rfl
 rw[e];unfold bN at hfi;obtain⟨b,hb',rfl⟩:=oM hfi;exact⟨x,qual,st,Ux st tf tc tg [],F,S,by rw[<-e1];exact hb',rfl,rfl,e2,rfl,rfl,rfl,rfl,hb⟩
theorem Uu{K:PySem.W.Frag}{tf tc:List (Str×Nat)}{tg:List (Str×P)}{f:Nat}{st:Stmt}(F:Fz K x qual st (W.Jr f) fd)(S:DU (namesOf st) (EM st) (Aw st))(hs:(bN st (Ux st tf tc tg [])).isSome=true)
 (h:∀(kV doc pm:Value) (an:Option Addr) (cdv ct:Value) (us:List Value),us.length=(EM st).length->bindArgs (PySem.W.fnOf x qual (Jy st) (CD st) (Aw st) .none kV doc pm an cdv ct) ⟨us,[]⟩=pure ((EM st).zip us))(e1:R9 st=CD st)(e2:Jz st=Aw st):NI K W tg tf tc f (Iv.fnOf tf tc tg st) fd (EM st):=XN F S hs (F.binds h) e1 e2
def MC(n:Nat)(K:PySem.W.Frag):Sp:=λvs H Q _=>∃(a:Addr) (ns:List Int),vs=[.ref a]/\UX K H a (ns.map V.int)/\ns.length<=n/\∀H',Q (.bl true) H'
theorem Tx{K:PySem.W.Frag}{H:Hp}{xs:List V}(h:UZ H)(s:Dk K H a xs):UX K H a xs:=by
 rcases s with(s|s)|s
 .exact absurd s (λz=>by
   have:=h a;rw[z]at this;rcases this with y|⟨o,u,y⟩
   .cases y
   .cases y)
 .exact .inl s
 .exact .inr s
theorem TY{K:PySem.W.Frag}(hK:W.K=K){r:List C->CR}(hr:∀ns:List Int,ns.length<=n->∃outs,r [.b (.ro (ns.map .int))]= .ok (.p (.bl true)) outs)(vs:List V)(H:Hp)(Q:VK)(E:XK)(h:MC n K vs H Q E):NS W r vs H Q E:=by
 obtain⟨a,ns,rfl,h1,h2,q⟩:=h;obtain⟨outs,e⟩:=hr ns h2;refine⟨[.b (.ro (ns.map .int))],[],⟨.ref a,[],[],[],rfl,⟨⟨a,_,rfl,hK▸h1,FW ns⟩,rfl⟩,⟨rfl,rfl⟩,rfl⟩,.nil,?_⟩;rw[e];intro v H' o oos r1 _ _ _;rw[(YV (c:=.p (.bl true)) r1).1];exact q H'
theorem walk{l:PySem.W.OpenLaw}{q:Program}{loose:List Str}{XP:(Str->Option Value)->Heap->Prop}{YP:World->Heap->Prop}{d:DefRec}{K:Params->PySem.W.Frag}(n:Nat)(k:Nat)(hn:l.most=some n)(hz:n<=sizeLine)(hdf:d.params.defaults=[])(hr:C6 k callerA)
 (hY:∀(w:World) (h:Heap),YP w h->(K w.params).In h)
 (F:∀(w:World) (mg:Str->Option Value) (fa:Addr) (h:Heap),(K w.params).In h->h.Ns mainGlobals mg->mg d.name=some (.ref fa)->
   ∃fd:FuncData,(∀(s:Shared) (u:Value),BindsTo s fd ⟨[u],[]⟩ [("_law_script",u)])/\∀base:Heap,(K w.params).In base->base.Ns mainGlobals mg->Eo l.prog w (K w.params) mg base (Xc.HH l.prog w) k fa fd ["_law_script"] (MC n (K w.params))):
 PySem.W.WalkO q loose XP YP l.row.toRowW d [] (λf vs=>PySem.call f vs):=
 L2.Sj (n:=n) (k:=k) (x:="_law_script") (CX:=λw=>Xc.HH l.prog w) (sp:=λw=>MC n (K w.params)) hn hz hdf hr hY F (λ_ _ a ns hl hO hS=>⟨a,ns,rfl,Tx hO hS,hl,λ_=>rfl⟩) λ_ _ _ _ _ ⟨_,_,_,_,_,_,_,_,_,_,_,_,q⟩=>q
end Iv
abbrev _root_.sP(x:Iv.P):Option Iv.C:=some (.p x)
abbrev _root_.sL(x:List Iv.P):Option Iv.C:=some (.lst x)
abbrev _root_.sD(x:List (Iv.P×Iv.P)):Option Iv.C:=some (.AB x)
namespace Lk03
open PySem L2 Iv PyProof.Rows
def bd(i:Nat):Stmt:=PySem.Challenge.pw_kinddeeds_k03_fitted_fits.main.body.getD i (.Pass ⟨0,0,0,0⟩)
def NR:List Stmt:=[bd 4,bd 5,bd 9,bd 10,bd 11,bd 12,bd 14,bd 15,bd 16,bd 17,bd 18,bd 19,bd 20,bd 21,bd 22,L2.inClass (bd 8) 0,L2.inClass (bd 8) 1,L2.inClass (bd 8) 2,L2.inClass (bd 8) 3,L2.inClass (bd 8) 4]
def st(i:Nat):Stmt:=NR.getD i (.Pass ⟨0,0,0,0⟩)
noncomputable def tf:List (Str×Nat):=[("kinds_within",0),("opens_of",1),("leaders_in_order",2),("kinds_by_leader",3),("opens_of_pairs",4),("fitted",5),("_law_cell_at",6),("_law_names",7),("_law_kind",8),("_law_same",9),("_law_put",10),("_law_opens",11),("_law_fitted",12),("_law_told",13),("law",14)]
def tc:List (Str×Nat):=[("DeedsError",0),("TooGreat",1),("Groups",2)]
def tg:List (Str×Iv.P):=[("MOST_SIZE",.int 60)]
def tm:List ((Nat×Str)×Nat):=[((2,"__init__"),15),((2,"leader_of"),16),((2,"parts_of"),17),((2,"join_all"),18),((2,"join_open"),19)]
def tl:List (Nat×Str):=[(2,"aheads")]
def mt:MT:=⟨λc m=>tm.lookup (c,m),λc f=>tl.contains (c,f)⟩
def fns:List NH:=NR.map (Iv.fnOf tf tc tg)
theorem Bc(i:Nat)(h:i < 20):i < fns.length:=h
def Yd(C:Addr)(bm:List Value):Bool:=bm.contains (.type "ValueError") && bm.contains (.type "BaseException") && !bm.contains (.type "AttributeError") && !bm.contains (.type "NameError") && Xc.Q7 (.ref C::bm)
variable{bm:List Value}{hdct ab:Bool}{sn:List Str}{col:Option Bool}{k0 k1 k2 k3 k5:Option Value}
theorem YY{K:PySem.W.Frag}{nm:Str}{bs sub:List Value}{dd:Option Addr}{fd:FuncData}
 (x1:List.lookup c K=some (excClassObj nm q c N bs bm hdct sn sub ab col dd k0 k1 k2 k3 k5 "ValueError.__new__"))(x2:Yd c bm=true)(x3:keepIn K (.ref c)=true)(x4:findIn K (.ref c) "__init__"=some (some (.ref f)))(x5:isFn K (.ref f)=true)
 (x6:findIn K (.ref c) "__setattr__"=some (some (.builtin "object.__setattr__")))(x7:takerIn K c "place"=some none)(x8:hasDictIn K c=true)(x9:Fz K "__init__" "DeedsError.__init__" (L2.inClass (bd 1) 0) f fd):∃f sf pl st fd,Xc.Xk K c f sf pl st fd:=by
 unfold Yd at x2;rw[bA,bA,bA,bA]at x2;obtain⟨⟨⟨⟨y1,y2⟩,y3⟩,y4⟩,y5⟩:=x2;refine⟨f,"self","place",L2.inClass (bd 1) 0,fd,⟨bm,λh X=>⟨⟨_,_,_,_,_,_,_,_,_,_,_,_,_,_,_,X _ _ x1⟩,y1,y2,by simpa using y3,by simpa using y4⟩⟩,x3,x4,x5,x6,?_,x7,x8,⟨_,_,x9⟩,⟨by kernel_rfl,by kernel_rfl,by kernel_rfl,by decide +kernel,by kernel_rfl,by decide +kernel,by decide +kernel⟩,x9.binds ?_,by kernel_rfl,by kernel_rfl,⟨_,_,_,_,rfl⟩,by decide,by decide,by decide⟩
 .unfold Xc.N1 clsIn;rw[x1];exact y5
 .intro _ _ _ _ _ _ us hl;rcases us with _|⟨_,_|⟨_,_|_⟩⟩<;>first|rfl|cases hl
theorem all_mk{l:PySem.W.OpenLaw}{w:World}{K:PySem.W.Frag}{h:Heap}{mg:Str->Option Value}{fa c_0 c_1 c_2:Addr}{d0 d1 d2 d3 d4 d5 d6 d7 d8 d9 d10 d11 d12 d13 d14 d15 d16 d17 d18 d19:FuncData}{t0:Tok}{fx:Addr}{nm:Str}{bs sub:List Value}{dd:Option Addr}{dx:FuncData}(hlaw:∀ns:List Int,ns.length<=63->∃outs,A0 fns mt A6 98 14 [.b (.ro (ns.map .int))]= .ok (.p (.bl true)) outs)(X:K.In h)(G:h.Ns mainGlobals mg)(hfa:mg "law"=some (.ref fa))
 (ac0:nsIn K mainGlobals "DeedsError"=some (some (.ref c_0)))
 (ac1:nsIn K mainGlobals "TooGreat"=some (some (.ref c_1)))
 (ac2:nsIn K mainGlobals "Groups"=some (some (.ref c_2)))
 (a0:nsIn K mainGlobals "kinds_within"=some (some (.ref f0)))(l0:Fz K "kinds_within" "kinds_within" (st 0) f0 d0)
 (a1:nsIn K mainGlobals "opens_of"=some (some (.ref f1)))(l1:Fz K "opens_of" "opens_of" (st 1) f1 d1)
 (a2:nsIn K mainGlobals "leaders_in_order"=some (some (.ref f2)))(l2:Fz K "leaders_in_order" "leaders_in_order" (st 2) f2 d2)
 (a3:nsIn K mainGlobals "kinds_by_leader"=some (some (.ref f3)))(l3:Fz K "kinds_by_leader" "kinds_by_leader" (st 3) f3 d3)
 (a4:nsIn K mainGlobals "opens_of_pairs"=some (some (.ref f4)))(l4:Fz K "opens_of_pairs" "opens_of_pairs" (st 4) f4 d4)
 (a5:nsIn K mainGlobals "fitted"=some (some (.ref f5)))(l5:Fz K "fitted" "fitted" (st 5) f5 d5)
 (a6:nsIn K mainGlobals "_law_cell_at"=some (some (.ref f6)))(l6:Fz K "_law_cell_at" "_law_cell_at" (st 6) f6 d6)
 (a7:nsIn K mainGlobals "_law_names"=some (some (.ref f7)))(l7:Fz K "_law_names" "_law_names" (st 7) f7 d7)
 (a8:nsIn K mainGlobals "_law_kind"=some (some (.ref f8)))(l8:Fz K "_law_kind" "_law_kind" (st 8) f8 d8)
 (a9:nsIn K mainGlobals "_law_same"=some (some (.ref f9)))(l9:Fz K "_law_same" "_law_same" (st 9) f9 d9)
 (a10:nsIn K mainGlobals "_law_put"=some (some (.ref aQ)))(l10:Fz K "_law_put" "_law_put" (st 10) aQ d10)
 (a11:nsIn K mainGlobals "_law_opens"=some (some (.ref aP)))(l11:Fz K "_law_opens" "_law_opens" (st 11) aP d11)
 (a12:nsIn K mainGlobals "_law_fitted"=some (some (.ref aO)))(l12:Fz K "_law_fitted" "_law_fitted" (st 12) aO d12)
 (a13:nsIn K mainGlobals "_law_told"=some (some (.ref bP)))(l13:Fz K "_law_told" "_law_told" (st 13) bP d13)
 (a14:nsIn K mainGlobals "law"=some (some (.ref aN)))(l14:Fz K "law" "law" (st 14) aN d14)
 (a15:findIn K (.ref c_2) "__init__"=some (some (.ref f15)))(l15:Fz K "__init__" "Groups.__init__" (st 15) f15 d15)(n15:isFn K (.ref f15)=true)
 (a16:findIn K (.ref c_2) "leader_of"=some (some (.ref aM)))(l16:Fz K "leader_of" "Groups.leader_of" (st 16) aM d16)(n16:isFn K (.ref aM)=true)
 (a17:findIn K (.ref c_2) "parts_of"=some (some (.ref aL)))(l17:Fz K "parts_of" "Groups.parts_of" (st 17) aL d17)(n17:isFn K (.ref aL)=true)
 (a18:findIn K (.ref c_2) "join_all"=some (some (.ref YS)))(l18:Fz K "join_all" "Groups.join_all" (st 18) YS d18)(n18:isFn K (.ref YS)=true)
 (a19:findIn K (.ref c_2) "join_open"=some (some (.ref YR)))(l19:Fz K "join_open" "Groups.join_open" (st 19) YR d19)(n19:isFn K (.ref YR)=true)
 (cl2:FA K c_2)(cm2:makesIn K c_2=true)(cp2:keepIn K (.ref c_2)=true)
 (e0:findIn K (.ref c_2) "aheads"=some none)
 (z:Each (λx=>nsIn K mainGlobals x=some none) JF)
 (y0:nsIn K mainGlobals "MOST_SIZE"=some (some (.int 60 t0)))
 (x1:List.lookup c_1 K=some (excClassObj nm q c_1 N bs bm hdct sn sub ab col dd k0 k1 k2 k3 k5 "ValueError.__new__"))(x2:Yd c_1 bm=true)(x3:keepIn K (.ref c_1)=true)(x4:findIn K (.ref c_1) "__init__"=some (some (.ref fx)))(x5:isFn K (.ref fx)=true)
 (x6:findIn K (.ref c_1) "__setattr__"=some (some (.builtin "object.__setattr__")))(x7:takerIn K c_1 "place"=some none)(x8:hasDictIn K c_1=true)(x9:Fz K "__init__" "DeedsError.__init__" (L2.inClass (bd 1) 0) fx dx)
 :∃fd:FuncData,(∀(s:Shared) (v:Value),BindsTo s fd ⟨[v],[]⟩ [("_law_script",v)])/\∀base:Heap,K.In base->base.Ns mainGlobals mg->Eo l.prog w K mg base (Xc.HH l.prog w) 200 fa fd ["_law_script"] (MC 63 K):=by
 have e:aN=fa:=by
  have e:=(mg_of X G a14).symm.trans hfa;injection e with e
  injection e
 subst e
 let fl:List Addr:=[f0,f1,f2,f3,f4,f5,f6,f7,f8,f9,aQ,aP,aO,bP,aN,f15,aM,aL,YS,YR]
 let cl:List Addr:=[c_0,c_1,c_2]
 let W₀:Wd:=⟨K,w,λc=>cl.getD c 0,λf=>fl.getD f 0⟩
 have D0:∀f,∃fd:FuncData,∀fi,fns[f]? =some fi->NI K W₀ tg tf tc f fi fd ((NR.map EM).getD f []):=by
  intro f;rcases f with _|_|_|_|_|_|_|_|_|_|_|_|_|_|_|_|_|_|_|_|f
  all_goals first
   | (apply Exists.intro
      intro fi h;cases h;refine Uu (W:=W₀) (by assumption) ⟨by kernel_rfl,by kernel_rfl,by kernel_rfl,by decide +kernel,by kernel_rfl,by decide +kernel,by decide +kernel⟩ (by kernel_rfl) ?_ rfl rfl;intro _ _ _ _ _ _ us hl
      rcases us with _|⟨_,_|⟨_,_|⟨_,_|_⟩⟩⟩<;>first|rfl|cases hl)
   |exact⟨d0,λfi h=>absurd (show(none:Option NH)=some fi from h) nofun⟩
 obtain⟨FD,D⟩:=Classical.skolem.mp D0
 have eL:FD 14=d14:=by
  obtain⟨x,qual,st,ct,F,_⟩:=(D 14 _ rfl).ex;obtain⟨_,_,_,_,_,_,_,_,_,_,lk,_⟩:=F.ex;obtain⟨_,_,_,_,_,_,_,_,_,_,lk2,_⟩:=l14.ex;have lk:=lk.symm.trans lk2;injection lk with lk
  injection lk with _ _ lk _
  injection lk with lk
 have Gb:eV K mg W₀ mt fns.length tg tf tc:=by
  refine⟨rfl,λx p h=>?g1,λx hx _ _ _=>PySem.W.mg_none_of X G (z.mem x hx),λx f h=>?g3,λx c h=>?g4,λc m f h=>?g5,λc f h=>?g6,λc h=>?g7⟩
  case g1=>refine Each.look (l:=tg) (R:=λq:Str×Iv.P=>∃u v,mg q.1=some u/\RelV v u/\∀H,Al _ H q.2 v) ?_ h;unfold tg;exact(.cons ⟨_,.int 60,mg_of X G y0,⟨_,rfl⟩,λH=>Ai.mpr rfl⟩ .nil)
  case g3=>refine Each.look (l:=tf) (R:=λq:Str×Nat=>mg q.1=some (.ref (fl.getD q.2 0))/\keepIn K (.ref (fl.getD q.2 0))=true/\q.2 < fns.length) ?_ h;unfold tf;exact(.cons ⟨mg_of X G a0,l0.kp,Bc 0 (by decide)⟩ (.cons ⟨mg_of X G a1,l1.kp,Bc 1 (by decide)⟩ (.cons ⟨mg_of X G a2,l2.kp,Bc 2 (by decide)⟩ (.cons ⟨mg_of X G a3,l3.kp,Bc 3 (by decide)⟩ (.cons ⟨mg_of X G a4,l4.kp,Bc 4 (by decide)⟩ (.cons ⟨mg_of X G a5,l5.kp,Bc 5 (by decide)⟩ (.cons ⟨mg_of X G a6,l6.kp,Bc 6 (by decide)⟩ (.cons ⟨mg_of X G a7,l7.kp,Bc 7 (by decide)⟩ (.cons ⟨mg_of X G a8,l8.kp,Bc 8 (by decide)⟩ (.cons ⟨mg_of X G a9,l9.kp,Bc 9 (by decide)⟩ (.cons ⟨mg_of X G a10,l10.kp,Bc 10 (by decide)⟩ (.cons ⟨mg_of X G a11,l11.kp,Bc 11 (by decide)⟩ (.cons ⟨mg_of X G a12,l12.kp,Bc 12 (by decide)⟩ (.cons ⟨mg_of X G a13,l13.kp,Bc 13 (by decide)⟩ (.cons ⟨mg_of X G a14,l14.kp,Bc 14 (by decide)⟩ .nil)))))))))))))))
  case g4=>refine Each.look (l:=tc) (R:=λq:Str×Nat=>mg q.1=some (.ref (cl.getD q.2 0))/\∀f,mt.m q.2 (Str.ofString "__init__")=some f->Mk K (cl.getD q.2 0) (fl.getD f 0)) ?_ h;unfold tc;exact(.cons ⟨mg_of X G ac0,λf h=>absurd (show(none:Option Nat)=some f from h) nofun⟩ (.cons ⟨mg_of X G ac1,λf h=>absurd (show(none:Option Nat)=some f from h) nofun⟩ (.cons ⟨mg_of X G ac2,λf h=>by cases (show some 15=some f from h);exact⟨cm2,a15,n15,cp2⟩⟩ .nil)))
  case g5=>refine Each.look (l:=tm) (R:=λq:(Nat×Str)×Nat=>FA K (cl.getD q.1.1 0)/\(q.1.2≠Str.ofString "__init__"->Meth K (cl.getD q.1.1 0) q.1.2 (fl.getD q.2 0))/\q.2 < fns.length) ?_ (show tm.lookup (c,m)=some f from h);unfold tm;exact(.cons ⟨cl2,λ_=>⟨a15,n15,l15.kp⟩,Bc 15 (by decide)⟩ (.cons ⟨cl2,λ_=>⟨a16,n16,l16.kp⟩,Bc 16 (by decide)⟩ (.cons ⟨cl2,λ_=>⟨a17,n17,l17.kp⟩,Bc 17 (by decide)⟩ (.cons ⟨cl2,λ_=>⟨a18,n18,l18.kp⟩,Bc 18 (by decide)⟩ (.cons ⟨cl2,λ_=>⟨a19,n19,l19.kp⟩,Bc 19 (by decide)⟩ .nil)))))
  case g7=>cases (show some 1=some c from h);exact YY x1 x2 x3 x4 x5 x6 x7 x8 x9
  case g6=>refine Each.mem (l:=tl) (R:=λq:Nat×Str=>C2 K (cl.getD q.1 0) q.2) ?_ (c,f) (by simpa using(show tl.contains (c,f)=true from h));unfold tl;exact(.cons e0 .nil)
 refine⟨FD 14,λs v=>?b,λbase _ _=>(QU (P:=l.prog) (w:=w) (mg:=mg) (base:=base) rfl Gb D 98 14 (Bc 14 (by decide))).1.imp λvs H Q E z=>TY rfl hlaw vs H Q E z⟩
 case b=>
  obtain⟨_,_,_,_,_,_,_,_,_,ed,_⟩:=l14.ex;rw[eL,ed];exact .of_eq rfl
end Lk03
namespace Iv
theorem B4(c:Env->Res Bool)(b:Env->Res Fl)(ρ:Env):A6 c b ρ=(c ρ).bind λx ρ=>if x then(b ρ).bind λf ρ=>match f with
 |.nx=>A6 c b ρ
 |.cnt=>A6 c b ρ
 |.er c=>.ok (.er c) ρ
 |.ret r=>.ok (.ret r) ρ
 else .ok .nx ρ:=by
 have up:∀n,Ax c b (n+1) ρ≠.stuck->A6 c b ρ=Ax c b (n+1) ρ:=λn h=>OQ h
 have dn:∀{n ρ'},Ax c b n ρ'≠.stuck->A6 c b ρ'=Ax c b n ρ':=λh=>OQ h
 have st:∀ρ',A6 c b ρ'= .stuck->∀n,Ax c b n ρ'= .stuck:=λρ' h n=>by
  by_cases hn:Ax c b n ρ'= .stuck
  .exact hn
  .rw[dn hn]at h;exact absurd h hn
 by_cases hex:∃n,Ax c b n ρ≠.stuck
 .obtain⟨n,hn⟩:=hex;have hn1:Ax c b (n+1) ρ≠.stuck:=by rw[D3 n ρ hn];exact hn
  rw[up n hn1,Bo];rw[Bo]at hn1;cases ec:c ρ with
  |stuck=>rfl
  |ok x ρ1=>
    rw[ec,Res.A5]at hn1;rw[Res.A5,Res.A5];cases x with
    |false=>rfl
    |true=>
      rw[iP rfl]at hn1;rw[iP rfl,iP rfl];cases eb:b ρ1 with
      |stuck=>rfl
      |ok f ρ2=>
        rw[eb,Res.A5]at hn1;rw[Res.A5,Res.A5];cases f with
        |nx=>exact(dn hn1).symm
        |cnt=>exact(dn hn1).symm
        |er c=>rfl
        |ret r=>rfl
 .have hs : ∀n,Ax c b n ρ= .stuck:=λn=>by
   by_cases hn:Ax c b n ρ= .stuck
   .exact hn
   .exact absurd ⟨n,hn⟩ hex
  have hw:A6 c b ρ= .stuck:=by
   by_cases hw:A6 c b ρ= .stuck
   .exact hw
   .obtain⟨n,hn⟩:=IH hw;rw[<-hn];exact hs n
  rw[hw];cases ec:c ρ with
  |stuck=>rfl
  |ok x ρ1 =>
    rw[Res.A5];cases x with
    |false=>
      have:=hs 1;rw[Bo,ec]at this;cases this
    |true=>
      rw[iP rfl];cases eb:b ρ1 with
      |stuck=>rfl
      |ok f ρ2=>
        rw[Res.A5];have hf:=λn=>hs (n+1)
        simp only[Bo,ec,Res.A5,iP rfl,eb]at hf
        have again:(∀n,Ax c b n ρ2= .stuck)->A6 c b ρ2= .stuck:=λh=>by
         by_cases hw:A6 c b ρ2= .stuck
         .exact hw
         .obtain⟨n,hn⟩:=IH hw;rw[<-hn];exact h n
        cases f with
        |nx=>exact(again hf).symm
        |cnt=>exact(again hf).symm
        |er c=>exact absurd (hf 0) nofun
        |ret r=>exact absurd (hf 0) nofun
variable{wh:WH}{fi:NH}{args:List C}
theorem Ar{fns:List NH}{mt:MT}{k f:Nat}(hf:fns[f]? =some fi)(hl:args.length=fi.np)(e:execs (A0 fns mt wh k) mt wh fi.body (args.map some++List.replicate (fi.nl - fi.np) none)= .ok (.ret c) ρ):
 A0 fns mt wh (k+1) f args= .ok c (E8 fi ρ):=by
 show(match fns[f]? with|some fi=>EU (A0 fns mt wh k) mt wh fi args|none=>.stuck)=_;rw[hf];show EU (A0 fns mt wh k) mt wh fi args=_;unfold EU;rw[iP hl,e]
theorem NA{fns:List NH}{mt:MT}{k f:Nat}(hf:fns[f]? =some fi)(hl:args.length=fi.np)(e:execs (A0 fns mt wh k) mt wh fi.body (args.map some++List.replicate (fi.nl - fi.np) none)= .ok .nx ρ):
 A0 fns mt wh (k+1) f args= .ok (.p .AI) (E8 fi ρ):=by
 show(match fns[f]? with|some fi=>EU (A0 fns mt wh k) mt wh fi args|none=>.stuck)=_;rw[hf];show EU (A0 fns mt wh k) mt wh fi args=_;unfold EU;rw[iP hl,e]
theorem NB{fns:List NH}{mt:MT}{k f c:Nat}(hf:fns[f]? =some fi)(hl:args.length=fi.np)(e:execs (A0 fns mt wh k) mt wh fi.body (args.map some++List.replicate (fi.nl - fi.np) none)= .ok (.er c) ρ):
 A0 fns mt wh (k+1) f args= .err c (E8 fi ρ):=by
 show(match fns[f]? with|some fi=>EU (A0 fns mt wh k) mt wh fi args|none=>.stuck)=_;rw[hf];show EU (A0 fns mt wh k) mt wh fi args=_;unfold EU;rw[iP hl,e]
end Iv
namespace Iv
open PySem
variable{cf:CF}{mt:MT}
theorem Up(o:O)(ts:List T)(ρ:Env):ev cf mt (.prim o ts) ρ=if o.ok then(Ad cf mt ts ρ).bind λhs ρ=>Res.of ((Am ρ hs).bind (Ab o)) ρ else .stuck:=rfl
theorem Jp(i:Nat)(v:Env->Res C)(ρ:Env):BG (.var i) v ρ=if(A8 ρ i).isSome then .ok (.slot i) ρ else .stuck:=rfl
theorem QM(i:Nat)(f:Str)(v:Env->Res C)(ρ:Env):BG (.fld i f) v ρ=if(Bz ρ i f).isSome then .ok (.fld i f) ρ else .stuck:=rfl
theorem bW(i:Nat)(ρ:Env):tv cf mt (.var i) ρ=match A8 ρ i with|some c=>Res.of (CI c) ρ|none=>.stuck:=by
 have:tv cf mt (.var i) ρ=(BG (.var i) (ev cf mt (.var i)) ρ).bind λh ρ=>Res.of ((h.cont ρ).bind CI) ρ:=by show(den cf mt (.var i)).b ρ=_;unfold den;rfl
 rw[this,Jp];cases hg:A8 ρ i with
 |none=>rfl
 |some c=>
   show Res.of ((A8 ρ i).bind CI) ρ=_;rw[hg];rfl
theorem fB{a:Option C}{r:Env}:A8 (a::r) 0=a:=rfl
theorem fA{a b:Option C}{r:Env}:A8 (a::b::r) 1=b:=rfl
theorem fz{a b c:Option C}{r:Env}:A8 (a::b::c::r) 2=c:=rfl
theorem fy{a b c d:Option C}{r:Env}:A8 (a::b::c::d::r) 3=d:=rfl
theorem fw{a b c d e:Option C}{r:Env}:A8 (a::b::c::d::e::r) 4=e:=rfl
theorem fv{a b c d e f:Option C}{r:Env}:A8 (a::b::c::d::e::f::r) 5=f:=rfl
theorem ft{a b c d e f g:Option C}{r:Env}:A8 (a::b::c::d::e::f::g::r) 6=g:=rfl
theorem fq{a b c d e f g h:Option C}{r:Env}:A8 (a::b::c::d::e::f::g::h::r) 7=h:=rfl
theorem fo{a b c d e f g h i:Option C}{r:Env}:A8 (a::b::c::d::e::f::g::h::i::r) 8=i:=rfl
theorem fm{a b c d e f g h i j:Option C}{r:Env}:A8 (a::b::c::d::e::f::g::h::i::j::r) 9=j:=rfl
def jS(cf:CF)(mt:MT)(ss:List S)(r:Res Fl):Res Fl:=r.bind λf ρ=>match f with
    |.nx=>execs cf mt A6 ss ρ
    |f=>.ok f ρ
def eJ(i:Nat)(r:Res C):Res Fl:=r.bind λc ρ=>.ok .nx (ρ.set i (some c))
def eH(r:Res C):Res Fl:=r.bind λ_ ρ=>.ok .nx ρ
def eA(r:Res C):Res Fl:=r.bind λc ρ=>.ok (.ret c) ρ
def dh(cf:CF)(mt:MT)(a b:List S)(r:Res Bool):Res Fl:=r.bind λx ρ=>if x then execs cf mt A6 a ρ else execs cf mt A6 b ρ
def eC(o:O)(b:Bool)(r:Res (List Hd)):Res C:=if b then r.bind λhs ρ=>Res.of ((Am ρ hs).bind (Ab o)) ρ else .stuck
def jH(r:Res C):Res Hd:=r.bind λc ρ=>.ok (.Bt c) ρ
def VS(r:Res C):Res Bool:=(jH r).bind λh ρ=>Res.of ((h.cont ρ).bind CI) ρ
def di(i:Nat)(ρ:Env)(o:Option C):Res Hd:=if o.isSome then .ok (.slot i) ρ else .stuck
def jV(i:Nat)(ρ:Env)(o:Option C):Res C:=match o with
    |some c=>if c.cp then .ok c ρ else .ok c (ρ.set i none)
    |none=>.stuck
def eu(i:Nat)(ρ:Env)(o:Option C):Res Bool:=(di i ρ o).bind λh ρ=>Res.of ((h.cont ρ).bind CI) ρ
def jA(cf:CF)(mt:MT)(ts:List T)(r:Res Hd):Res (List Hd):=r.bind λh ρ=>match h with
    |.fld i f=>if ts.all T.calm then(Ad cf mt ts ρ).bind λhs ρ=>.ok (.fld i f::hs) ρ else .stuck
    |h=>(Ad cf mt ts ρ).bind λhs ρ=>.ok (h::hs) ρ
def bM(h:Hd)(r:Res (List Hd)):Res (List Hd):=r.bind λhs ρ=>.ok (h::hs) ρ
def jD(cf:CF)(mt:MT)(ts:List T)(r:Res C):Res (List P):=r.bind λc ρ=>Nu c (E2 cf mt ts) ρ
def eI(x:P)(r:Res (List P)):Res (List P):=r.bind λxs ρ=>.ok (x::xs) ρ
def dc(r:Res (List P)):Res C:=r.bind λps ρ=>.ok (.p (.tup ps)) ρ
def dg(r:Res (List P)):Res C:=r.bind λps ρ=>.ok (.lst ps) ρ
def Xy(cf:CF)(mt:MT)(b:T)(r:Res Bool):Res Bool:=r.bind λc ρ=>if c then tv cf mt b ρ else .ok false ρ
def de(cf:CF)(mt:MT)(b:T)(r:Res Bool):Res Bool:=r.bind λc ρ=>if c then .ok true ρ else tv cf mt b ρ
def ax(r:Res Bool):Res Bool:=r.bind λb ρ=>.ok (!b) ρ
def QF(cf:CF)(mt:MT)(b:T)(r:Res C):Res C:=r.bind λc ρ=>Yh c (ev cf mt b) ρ
def Xx(cf:CF)(mt:MT)(b:T)(r:Res C):Res C:=r.bind λc ρ=>cK c (ev cf mt b) ρ
def VT(r:Res C):Res C:=r.bind λc ρ=>Xg c ρ
def eD(m:MO)(i:Nat)(b:Bool)(r:Res (List Hd)):Res C:=if b then r.bind λhs ρ=>Ob m i hs ρ else .stuck
def YM(i:Nat)(ρ:Env)(o:Option (C×B)):Res C:=match o with
    |some (c,b')=>.ok c (ρ.set i (some (.b b')))
    |none=>.stuck
def jM(m:MO)(i:Nat)(hs:List Hd)(ρ:Env)(x:Option C)(y:Option (List C)):Res C:=match x,y with
 |some (.b b),some cs=>if(BY (.slot i::hs) (.b b::cs)).Nodup then YM i ρ (Cu m b cs)else .stuck
 |_,_=>.stuck
def jG(i:Nat)(b:Bool)(r:Res (List Hd)):Res C:=if b then r.bind λhs ρ=>M5 i hs ρ else .stuck
def jC(r:Option (List C))(o:Option C):Option (List C):=o.bind λc=>r.map (c::·)
theorem Lb(s:S)(ss:List S)(ρ:Env):execs cf mt A6 (s::ss) ρ=jS cf mt ss (exec cf mt A6 s ρ):=rfl
theorem V8(ρ:Env):execs cf mt A6 [] ρ= .ok .nx ρ:=rfl
theorem Vd(ss:List S)(ρ:Env):jS cf mt ss (.ok .nx ρ)=execs cf mt A6 ss ρ:=rfl
theorem Ve(ss:List S)(c:Nat)(ρ:Env):jS cf mt ss (.ok (.er c) ρ)= .ok (.er c) ρ:=rfl
theorem OG(c:Nat)(ρ:Env):exec cf mt A6 (.raise c) ρ= .ok (.er c) ρ:=rfl
def jE(cf:CF)(i f:Nat)(h:Option (Nat×P))(r:Res (List Hd)):Res Fl:=r.bind (EO cf i f h)
theorem GF(i f:Nat)(ts:List T)(h:Option (Nat×P))(ρ:Env):exec cf mt A6 (.OM i f ts h) ρ=jE cf i f h (Ad cf mt ts ρ):=rfl
theorem GG(i f:Nat)(h:Option (Nat×P))(hs:List Hd)(ρ:Env):jE cf i f h (.ok hs ρ)=EO cf i f h hs ρ:=rfl
theorem Rz(ss:List S)(c:C)(ρ:Env):jS cf mt ss (.ok (.ret c) ρ)= .ok (.ret c) ρ:=rfl
theorem RA(ss:List S)(ρ:Env):jS cf mt ss (.ok .cnt ρ)= .ok .cnt ρ:=rfl
theorem ND(i:Nat)(t:T)(ρ:Env):exec cf mt A6 (.asg i t) ρ=eJ i (ev cf mt t ρ):=rfl
theorem RK(i:Nat)(c:C)(ρ:Env):eJ i (.ok c ρ)= .ok .nx (ρ.set i (some c)):=rfl
theorem Rw(t:T)(ρ:Env):exec cf mt A6 (.expr t) ρ=eH (ev cf mt t ρ):=rfl
theorem RI(c:C)(ρ:Env):eH (.ok c ρ)= .ok .nx ρ:=rfl
theorem V7(t:T)(ρ:Env):exec cf mt A6 (.ret t) ρ=eA (ev cf mt t ρ):=rfl
theorem RB(c:C)(ρ:Env):eA (.ok c ρ)= .ok (.ret c) ρ:=rfl
theorem V9(c:T)(a b:List S)(ρ:Env):exec cf mt A6 (.ifs c a b) ρ=dh cf mt a b (tv cf mt c ρ):=rfl
theorem Vh(a b:List S)(ρ:Env):dh cf mt a b (.ok true ρ)=execs cf mt A6 a ρ:=rfl
theorem Vi(a b:List S)(ρ:Env):dh cf mt a b (.ok false ρ)=execs cf mt A6 b ρ:=rfl
theorem Va(ρ:Env):exec cf mt A6 .cnt ρ= .ok .cnt ρ:=rfl
theorem Vt(i:Nat)(ρ:Env):ev cf mt (.var i) ρ=jV i ρ (A8 ρ i):=rfl
theorem Yl(i:Nat)(ρ:Env)(x:P):jV i ρ (some (.b (.p x)))= .ok (.p x) ρ:=rfl
theorem Ym(i:Nat)(ρ:Env)(x:List P):jV i ρ (some (.b (.lst x)))= .ok (.lst x) (ρ.set i none):=rfl
theorem Yn(i:Nat)(ρ:Env)(x:List (P×P)):jV i ρ (some (.b (.AB x)))= .ok (.AB x) (ρ.set i none):=rfl
theorem Yk(i:Nat)(ρ:Env)(x:List P):jV i ρ (some (.b (.ro x)))= .ok (.b (.ro x)) ρ:=rfl
theorem Yo(i:Nat)(ρ:Env)(c:C):jV i ρ (some c)=if c.cp then .ok c ρ else .ok c (ρ.set i none):=rfl
theorem NF(p:P)(ρ:Env):ev cf mt (.cst p) ρ= .ok (.p p) ρ:=rfl
theorem RX(o:O)(ts:List T)(ρ:Env):ev cf mt (.prim o ts) ρ=eC o o.ok (Ad cf mt ts ρ):=rfl
theorem RC(o:O)(hs:List Hd)(ρ:Env):eC o true (.ok hs ρ)=Res.of ((Am ρ hs).bind (Ab o)) ρ:=rfl
theorem YA(o:O)(ts:List T)(ρ:Env):tv cf mt (.prim o ts) ρ=VS (ev cf mt (.prim o ts) ρ):=rfl
theorem Rx(c:C)(ρ:Env):VS (.ok c ρ)=Res.of (CI c) ρ:=rfl
theorem RT(i:Nat)(ρ:Env):tv cf mt (.var i) ρ=eu i ρ (A8 ρ i):=rfl
theorem Vc(i:Nat)(ρ:Env)(c:C):eu i ρ (some c)=Res.of ((A8 ρ i).bind CI) ρ:=rfl
theorem Vj(i:Nat)(ρ:Env)(c:C):di i ρ (some c)= .ok (.slot i) ρ:=rfl
theorem Vn(i:Nat)(v:Env->Res C)(ρ:Env):BG (.var i) v ρ=di i ρ (A8 ρ i):=rfl
theorem Vs(p:P)(v:Env->Res C)(ρ:Env):BG (.cst p) v ρ=jH (v ρ):=rfl
theorem RO(o:O)(ts:List T)(v:Env->Res C)(ρ:Env):BG (.prim o ts) v ρ=jH (v ρ):=rfl
theorem Vo(ts:List T)(v:Env->Res C)(ρ:Env):BG (.tup ts) v ρ=jH (v ρ):=rfl
theorem Vq(ts:List T)(v:Env->Res C)(ρ:Env):BG (.lst ts) v ρ=jH (v ρ):=rfl
theorem RS(f:Nat)(ts:List T)(v:Env->Res C)(ρ:Env):BG (.call f ts) v ρ=jH (v ρ):=rfl
theorem RP(f:Str)(o:Nat)(ts:List T)(v:Env->Res C)(ρ:Env):BG (.C5 f o ts) v ρ=jH (v ρ):=rfl
theorem Vp(m:MO)(o:Nat)(ts:List T)(v:Env->Res C)(ρ:Env):BG (.FK m o ts) v ρ=jH (v ρ):=rfl
theorem RR(g:Tg)(k:IK)(its cond:List T)(elt:T)(fr:List (Option Nat))(v:Env->Res C)(ρ:Env):BG (.comp g k its cond elt fr) v ρ=jH (v ρ):=rfl
theorem RQ(o:Nat)(ts:List T)(v:Env->Res C)(ρ:Env):BG (.Jq o ts) v ρ=jH (v ρ):=rfl
theorem Vr(a b:List T)(v:Env->Res C)(ρ:Env):BG (.AB a b) v ρ=jH (v ρ):=rfl
theorem Vk(c:C)(ρ:Env):jH (.ok c ρ)= .ok (.Bt c) ρ:=rfl
theorem Vz(ρ:Env):Ad cf mt [] ρ= .ok [] ρ:=rfl
theorem S2(t:T)(ts:List T)(ρ:Env):Ad cf mt (t::ts) ρ=jA cf mt ts (BG t (ev cf mt t) ρ):=rfl
theorem Yv(i:Nat)(ts:List T)(ρ:Env):jA cf mt ts (.ok (.slot i) ρ)=bM (.slot i) (Ad cf mt ts ρ):=rfl
theorem Yu(c:C)(ts:List T)(ρ:Env):jA cf mt ts (.ok (.Bt c) ρ)=bM (.Bt c) (Ad cf mt ts ρ):=rfl
theorem Yw(i:Nat)(f:Str)(ts:List T)(ρ:Env):jA cf mt ts (.ok (.fld i f) ρ)=if ts.all T.calm then bM (.fld i f) (Ad cf mt ts ρ)else .stuck:=rfl
theorem RN(h:Hd)(hs:List Hd)(ρ:Env):bM h (.ok hs ρ)= .ok (h::hs) ρ:=rfl
theorem S0(t:T)(ts:List T)(ρ:Env):E2 cf mt (t::ts) ρ=jD cf mt ts (ev cf mt t ρ):=rfl
theorem Vm(x:P)(ts:List T)(ρ:Env):jD cf mt ts (.ok (.b (.p x)) ρ)=eI x (E2 cf mt ts ρ):=rfl
theorem RJ(x:P)(xs:List P)(ρ:Env):eI x (.ok xs ρ)= .ok (x::xs) ρ:=rfl
theorem RW(a:T)(ρ:Env):ev cf mt (.tup [a]) ρ=dc (E2 cf mt [a] ρ):=rfl
theorem RU(a b:T)(ρ:Env):ev cf mt (.tup [a,b]) ρ=dc (E2 cf mt [a,b] ρ):=rfl
theorem HF(ρ:Env):ev cf mt (.lst []) ρ= .ok (.lst []) ρ:=rfl
theorem RZ(a:T)(ρ:Env):ev cf mt (.lst [a]) ρ=dg (E2 cf mt [a] ρ):=rfl
theorem RY(a b:T)(ρ:Env):ev cf mt (.lst [a,b]) ρ=dg (E2 cf mt [a,b] ρ):=rfl
theorem Ry(xs:List P)(ρ:Env):dc (.ok xs ρ)= .ok (.p (.tup xs)) ρ:=rfl
theorem RH(xs:List P)(ρ:Env):dg (.ok xs ρ)= .ok (.lst xs) ρ:=rfl
theorem V6(a b:T)(ρ:Env):tv cf mt (.and a b) ρ=Xy cf mt b (tv cf mt a ρ):=rfl
theorem Yj(a b:T)(ρ:Env):tv cf mt (.or a b) ρ=de cf mt b (tv cf mt a ρ):=rfl
theorem V5(a:T)(ρ:Env):tv cf mt (.not a) ρ=ax (tv cf mt a ρ):=rfl
theorem Vx(a b:T)(ρ:Env):ev cf mt (.and a b) ρ=QF cf mt b (ev cf mt a ρ):=rfl
theorem YB(a b:T)(ρ:Env):ev cf mt (.or a b) ρ=Xx cf mt b (ev cf mt a ρ):=rfl
theorem Vu(a:T)(ρ:Env):ev cf mt (.not a) ρ=VT (ev cf mt a ρ):=rfl
theorem RL(b:T)(ρ:Env):Xy cf mt b (.ok true ρ)=tv cf mt b ρ:=rfl
theorem RM(b:T)(ρ:Env):Xy cf mt b (.ok false ρ)= .ok false ρ:=rfl
theorem Vf(b:T)(ρ:Env):de cf mt b (.ok true ρ)= .ok true ρ:=rfl
theorem Vg(b:T)(ρ:Env):de cf mt b (.ok false ρ)=tv cf mt b ρ:=rfl
theorem OH(b:Bool)(ρ:Env):ax (.ok b ρ)= .ok (!b) ρ:=rfl
theorem OJ(b:T)(ρ:Env):QF cf mt b (.ok (.b (.p (.bl true))) ρ)=ev cf mt b ρ:=rfl
theorem OK(b:T)(ρ:Env):QF cf mt b (.ok (.b (.p (.bl false))) ρ)= .ok (.p (.bl false)) ρ:=rfl
theorem RD(b:T)(ρ:Env):Xx cf mt b (.ok (.b (.p (.bl true))) ρ)= .ok (.p (.bl true)) ρ:=rfl
theorem RE(b:T)(ρ:Env):Xx cf mt b (.ok (.b (.p (.bl false))) ρ)=ev cf mt b ρ:=rfl
theorem Mv(b:Bool)(ρ:Env):VT (.ok (.b (.p (.bl b))) ρ)= .ok (.p (.bl (!b))) ρ:=rfl
theorem Vv(m:MO)(i:Nat)(ts:List T)(ρ:Env):ev cf mt (.FK m i ts) ρ=eD m i (aB (A8 ρ i)) (Ad cf mt ts ρ):=rfl
theorem RF(m:MO)(i:Nat)(hs:List Hd)(ρ:Env):eD m i true (.ok hs ρ)=jM m i hs ρ (A8 ρ i) (Am ρ hs):=rfl
theorem Vw(i:Nat)(ts:List T)(ρ:Env):ev cf mt (.Jq i ts) ρ=jG i (QG (A8 ρ i)) (Ad cf mt ts ρ):=rfl
theorem Vl(i:Nat)(hs:List Hd)(ρ:Env):jG i true (.ok hs ρ)=M5 i hs ρ:=rfl
theorem Ys(m:MO)(i:Nat)(ρ:Env)(l:List P):jM m i [] ρ (some (.b (.lst l))) (some [])=YM i ρ (Cu m (.lst l) []):=rfl
theorem Yp(m:MO)(i:Nat)(ρ:Env)(l:List P)(d:C)(x:P):jM m i [.Bt d] ρ (some (.b (.lst l))) (some [.b (.p x)])=YM i ρ (Cu m (.lst l) [.p x]):=rfl
theorem Yr(m:MO)(i:Nat)(ρ:Env)(l:List P)(d:C)(x:List P):jM m i [.Bt d] ρ (some (.b (.lst l))) (some [.b (.lst x)])=YM i ρ (Cu m (.lst l) [.lst x]):=rfl
theorem Yq(m:MO)(i j:Nat)(ρ:Env)(l:List P)(x:P):jM m i [.slot j] ρ (some (.b (.lst l))) (some [.b (.p x)])=YM i ρ (Cu m (.lst l) [.p x]):=rfl
theorem RG(i:Nat)(ρ:Env)(c:C)(b:B):YM i ρ (some (c,b))= .ok c (ρ.set i (some (.b b))):=rfl
theorem S1(ρ:Env)(h:Hd)(hs:List Hd):Am ρ (h::hs)=jC (Am ρ hs) (h.cont ρ):=rfl
theorem Vy(ρ:Env):Am ρ []=some []:=rfl
theorem Yt(c:C)(cs:List C):jC (some cs) (some c)=some (c::cs):=rfl
theorem Yy(ρ:Env)(i:Nat):(Hd.slot i).cont ρ=A8 ρ i:=rfl
theorem Yx(ρ:Env)(c:C):(Hd.Bt c).cont ρ=some c:=rfl
theorem Yz(ρ:Env)(i:Nat)(f:Str):(Hd.fld i f).cont ρ=Bz ρ i f:=rfl
theorem V4(b:Bool):CI (.b (.p (.bl b)))=some b:=rfl
theorem V3(l:List P):CI (.b (.lst l))=some (!l.isEmpty):=rfl
end Iv
local macro_rules
|`(tactic|simp! [$xs,*])=>`(tactic|simp [Iv.Ve,Iv.OG,Iv.GF,Iv.GG,↓Iv.Lb,Iv.V8,Iv.Vd,Iv.Rz,Iv.RA,Iv.ND,Iv.RK,Iv.Rw,Iv.RI,Iv.V7,Iv.RB,Iv.V9,Iv.Vh,Iv.Vi,Iv.Va,Iv.Vt,Iv.Yl,Iv.Ym,Iv.Yn,Iv.Yk,Iv.Yo,Iv.NF,Iv.RX,Iv.RC,↓Iv.YA,Iv.Rx,↓Iv.RT,Iv.Vc,Iv.Vj,↓Iv.Vn,↓Iv.Vs,↓Iv.RO,↓Iv.Vo,↓Iv.Vq,↓Iv.RS,↓Iv.RP,↓Iv.Vp,↓Iv.RR,↓Iv.RQ,↓Iv.Vr,Iv.Vk,Iv.Vz,↓Iv.S2,Iv.Yv,Iv.Yu,Iv.Yw,Iv.RN,Iv.S0,Iv.Vm,Iv.RJ,Iv.RW,Iv.RU,Iv.HF,Iv.RZ,Iv.RY,Iv.Ry,Iv.RH,Iv.V6,Iv.Yj,Iv.V5,Iv.Vx,Iv.YB,Iv.Vu,Iv.RL,Iv.RM,Iv.Vf,Iv.Vg,Iv.OH,Iv.OJ,Iv.OK,Iv.RD,Iv.RE,Iv.Mv,Iv.Vv,Iv.RF,Iv.Ys,Iv.Yp,Iv.Yr,Iv.Yq,Iv.RG,Iv.S1,Iv.Vy,Iv.Yt,Iv.Yy,Iv.Yx,Iv.Yz,Iv.V4,Iv.V3,Iv.Hv,Iv.Vw,Iv.Vl,Iv.QM,Iv.R0,Iv.R3,Iv.fB,Iv.fA,Iv.fz,Iv.fy,Iv.fw,Iv.fv,Iv.ft,Iv.fq,Iv.fo,Iv.fm,Iv.O.ok,Iv.aB,Iv.QG,Iv.Hd.Kr,Iv.T.calm,Iv.placeOf,Iv.BY,Iv.setB,Iv.C.cp,Iv.C.nf,Iv.F3,$xs,*])
namespace Iv
open PySem
variable{cf:CF}{mt:MT}
def F7:List S:=[.asg 3 (.FK .pop 2 []),.expr (.FK .append 1 [.var 3]),.ifs (.prim (.FC .tuple) [.var 3]) [.expr (.FK .extend 2 [.prim (.list .rev) [.prim (.Gn true false) [.var 3,.cst (.int 1)]]])] []]
theorem Wb{w st:List P}{x:Option C}(hp:Be .tuple (.p p)=some false)(hl:w.length < big):execs cf mt A6 F7 [some k,sL w,sL (st++[p]),x]= .ok .nx [some k,sL (w++[p]),sL st,sP p]:=by
 unfold F7;simp! [Cu,Je,BJ,hl,hp,Ab]
theorem Cy{α:Type}(xs:List α):cut xs (some 1) none=xs.tail:=by
 unfold cut Mi;cases xs with
 |nil=>rfl
 |cons x xs=>simp
theorem YZ{w st ps:List P}{x:Option C}(hl:w.length < big)(h2:st.length + ps.tail.length<=big):execs cf mt A6 F7 [some k,sL w,sL (st++[.tup ps]),x]= .ok .nx [some k,sL (w++[.tup ps]),sL (st++ps.tail.reverse),sP (.tup ps)]:=by
 unfold F7;have h3:st.length+(ps.length-1)<=big:=by rw[List.length_tail]at h2;exact h2
 simp! [Cu,Je,BJ,Fn,hl,Be,Ab,Du,E4,Gp,Cy,h3]
mutual
def pre:P->List P
 |.tup ps=>.tup ps::PJ ps
 |p=>[p]
def PJ:List P->List P
 |[]=>[]
 |_::r=>AU r
def AU:List P->List P
 |[]=>[]
 |p::r=>pre p++AU r
end
theorem AE(ps:List P):pre (.tup ps)= .tup ps::AU ps.tail:=by
 unfold pre;cases ps with
 |nil=>unfold PJ;rw[List.tail_nil];unfold AU;rfl
 | cons p r => conv=>lhs;unfold PJ
               all_goals rfl
theorem Bi:AU []=[]:=rfl
theorem Ap(p:P)(r:List P):AU (p::r)=pre p++AU r:=rfl
theorem Bp:∀(a b:List P),AU (a++b)=AU a++AU b
 |[],b=>by rw[Bi];rfl
 |p::a,b=>by rw[List.cons_append,Ap,Ap,Bp a b,append_assoc]
theorem D6(p:P):1<=(pre p).length:=by
 cases p with
 |tup ps=>rw[AE];simp
 |_=>unfold pre;simp
theorem Ds:∀(l:List P),l.length<=(AU l).length
 |[]=>Nat.zero_le _
 | p::l=>by
   have:=Ds l;have:=D6 p;rw[Ap,lC,lA]
   lia
theorem Wa :∀(n:Nat) (st w:List P) (x:Option C),(AU st).length<=n->w.length + (AU st).length<=big->∃x',A6 (tv cf mt (.var 2)) (execs cf mt A6 F7) [some k,sL w,sL st.reverse,x]= .ok .nx [some k,sL (w++AU st),sL [],x']:=by
 intro n
 induction n with
 |zero=>
   intro st w x hn _
   have hs:st=[]:=by
    cases st with
    |nil=>rfl
    |cons p r=>have:=Ds (p::r);simp at this hn;rw[hn]at this;simp at this
   subst hs;refine⟨x,?_⟩;rw[B4,Bi];simp! []
 |succ n ih=>
   intro st w x hn hb;cases st with
   |nil=>
     refine⟨x,?_⟩;rw[B4,Bi];simp! []
   |cons p r=>
     rw[Ap,lA]at hn hb;have p1:=D6 p;have hc:tv cf mt (.var 2) [some k,sL w,sL (p::r).reverse,x]= .ok true [some k,sL w,sL (p::r).reverse,x]:=by simp! []
     have flat:Be .tuple (.p p)=some false->pre p=[p]->∃x',A6 (tv cf mt (.var 2)) (execs cf mt A6 F7) [some k,sL w,sL (p::r).reverse,x]= .ok .nx [some k,sL (w++AU (p::r)),sL [],x']:=λhp he=>by
      obtain⟨x',e⟩:=ih r (w++[p]) (some (.p p)) (by lia) (by rw[lA,lS];lia);refine⟨x',?_⟩;rw[B4,hc,Res.A5,iP rfl,reverse_cons,Wb hp (by lia),Res.A5];show A6 _ _ _=_;rw[e,Ap,he,append_assoc]
     cases p with
     |tup ps=>
       rw[AE,lC]at hn hb;have hl:=Ds ps.tail;have hl2:=Ds r;obtain⟨x',e⟩:=ih (ps.tail++r) (w++[.tup ps]) (some (.p (.tup ps))) (by rw[Bp,lA];lia) (by rw[lA,lS,Bp,lA];lia);refine⟨x',?_⟩;rw[B4,hc,Res.A5,iP rfl,reverse_cons,YZ (by lia) (by rw[length_reverse];lia),Res.A5];show A6 _ _ _=_;rw[<-List.reverse_append,e,Ap,AE,Bp];simp
     |_=>exact flat rfl (by unfold pre;rfl)
end Iv
namespace Lk03
open Iv PySem
theorem f0:fns[0]? =some ⟨1,4,[S.asg 1 (.lst []),.asg 2 (.lst [.var 0]),.Lc (.var 2) F7,.ret (.var 1)]⟩:=by kernel_rfl
theorem Gq{k:Nat}(hl:(pre p).length<=big):A0 fns mt A6 (k + 1) 0 [.p p]= .ok (.lst (pre p)) [sP p]:=by
 obtain⟨x',e⟩:=Wa (cf:=A0 fns mt A6 k) (mt:=mt) (k:=.p p) (AU [p]).length [p] [] none (lR) (by rw[Ap,Bi];simpa using hl)
 have e:A6 (tv (A0 fns mt A6 k) mt (.var 2)) (execs (A0 fns mt A6 k) mt A6 F7) [sP p,sL [],sL [p],none]= .ok .nx [sP p,sL (pre p),sL [],x']:=by
  rw[Ap,Bi]at e;simpa using e
 have e2:execs (A0 fns mt A6 k) mt A6 [S.asg 1 (.lst []),.asg 2 (.lst [.var 0]),.Lc (.var 2) F7,.ret (.var 1)] [sP p,none,none,none]= .ok (.ret (.lst (pre p))) [sP p,none,sL [],x']:=by
  simp! [G0,e]
 rw[Ar f0 rfl e2];rfl
end Lk03
namespace Iv
open PySem
theorem C4:∀{l:List P},D8 l=true->∀p∈l,Ak p=true
 |[],_,p,hp=>by cases hp
 | q::l,h,p,hp=>by
   rw[Cm,bA]at h;rcases mK hp with z|z
   .rw[z];exact h.1
   .exact C4 h.2 p z
mutual
theorem LA:∀(p:P),Ak p=true->∀q∈pre p,Ak q=true
 |.int i,h,q,hq=>by unfold pre at hq;rw[mE hq];exact h
 |.AI,h,_,_=>by unfold Ak at h;cases h
 |.bl _,h,_,_=>by unfold Ak at h;cases h
 |.str _,h,_,_=>by unfold Ak at h;cases h
 | .tup ps,h,q,hq=>by
   unfold pre at hq;rcases mK hq with z|z
   .rw[z];exact h
   .unfold Ak at h;exact Tb ps h q z
theorem Tb:∀(ps:List P),DZ ps=true->∀q∈PJ ps,Ak q=true
 |[],h,_,_=>by unfold DZ at h;cases h
 | p::r,h,q,hq=>by
   unfold PJ at hq;cases p with
   |str x=>unfold DZ at h;exact MU r h q hq
   |_=>unfold DZ at h;cases h
theorem MU:∀(ps:List P),D8 ps=true->∀q∈AU ps,Ak q=true
 |[],_,q,hq=>by unfold AU at hq;cases hq
 | p::r,h,q,hq=>by
   rw[Cm,bA]at h;rw[Ap]at hq;rcases mem_append.mp hq with z|z
   .exact LA p h.1 q z
   .exact MU r h.2 q z
end
variable{cf:CF}{mt:MT}
theorem QT(g:Tg)(b:Env->Res Fl)(ρ:Env):forL g [] b [] ρ= .ok .nx ρ:=rfl
theorem Cn(g:Tg)(b:Env->Res Fl)(x:P)(xs:List P)(ρ:Env):forL g [] b (x::xs) ρ=(Res.of (Dp g x ρ) ρ).bind λρ1 _=>(b ρ1).bind λf ρ=>match f with
 |.nx=>forL g [] b xs ρ
 |.cnt=>forL g [] b xs ρ
 |.er c=>.ok (.er c) ρ
 |.ret r=>.ok (.ret r) ρ:=by
 show(if holds [] ρ then _ else _)=_;rfl
theorem Cc{f:Nat}{hs:List Hd}{cs:List C}{c:C}{outs:List (Option C)}(ec:Am ρ hs=some cs)(hc:∀c∈cs,c.cp=true)(e:cf f cs= .ok c outs)(ho:outs.length=cs.length):AY cf f hs ρ= .ok c ρ:=by
 have hl:∀{hs:List Hd} {cs:List C},(∀c∈cs,c.cp=true)->BY hs cs=[]:=by
  intro hs
  induction hs with
  |nil=>intro cs _;rfl
  |cons h hs ih=>
    intro cs hc;cases cs with
    |nil=>rfl
    |cons c cs=>
      rw[Bx,hc c mS,ih λc hc'=>hc c (mC hc')];rfl
 have hg:∀{hs:List Hd} {cs:List C},(∀c∈cs,c.cp=true)->A9 hs cs=true:=by
  intro hs cs hc;unfold A9;rw[all_eq_true];intro q hq;rw[hc q.2 (of_mem_zip hq).2];rfl
 have hb:∀{hs:List Hd} {cs:List C} {outs:List (Option C)} {ρ' ρ0:Env},Am ρ0 hs=some cs->(∀c∈cs,c.cp=true)->outs.length=cs.length->back ρ' hs cs outs=some ρ':=by
  intro hs
  induction hs with
  |nil=>intro cs outs ρ' ρ0 ec _ _;cases ec;unfold back;rfl
  |cons h hs ih=>
    intro cs outs ρ' ρ0 ec hc ho;unfold Am at ec;obtain⟨c,e1,e2⟩:=oB ec;obtain⟨ds,e3,rfl⟩:=oM e2;cases outs with
    |nil=>cases ho
    |cons o outs=>
      have h1:=hc c mS;have r:=ih (ρ':=ρ') e3 (λc hc'=>hc c (mC hc')) (by simpa using ho);cases h with
      |Bt d=>unfold back;exact r
      |slot i=>unfold back;rw[h1];exact r
      |fld i f=>unfold back;rw[h1];exact r
 unfold AY;rw[ec];dsimp only;have hle:lend ρ hs cs=ρ:=by unfold lend;rw[hl hc];rfl
 rw[hl hc,hg hc,iP ⟨nodup_nil,rfl⟩,e,hle];dsimp only;rw[hb ec hc ho];rfl
def Hb:List S:=[.ifs (.prim (.FC .int) [.var 2]) [.E5 (.var 1) (.var 2) (.cst (.bl true))] []]
def JI(d:List (P×P)):P->List (P×P)
 |.int i=>dput d (.int i) (.bl true)
 |_=>d
theorem Rq(d:List (P×P))(q:P):(JI d q).length<=d.length + 1:=by
 cases q<;>first|exact Nat.le_succ _|exact CU _ _ _
theorem Xd{d:List (P×P)}(hq:Ak q=true)(hd:d.length < big):execs cf mt A6 Hb [some c0,sD d,sP q]= .ok .nx [some c0,sD (JI d q),sP q]:=by
 unfold Hb;cases q with
 |int i=>
   have hk:keyOk (.int i)=true:=rfl;simp! [AX,Be,Ab,C3,Eb,BQ,E6,hk,hd,JI]
 |tup ps=>simp! [AX,Be,Ab,JI]
 |_=>unfold Ak at hq;cases hq
theorem Qb :∀(xs:List P) (d:List (P×P)) (x:Option C),(∀q∈xs,Ak q=true)->d.length + xs.length<=big->∃x',forL (.nm 2) [] (execs cf mt A6 Hb) xs [some c0,sD d,x]= .ok .nx [some c0,sD (xs.foldl JI d),x']
 |[],d,x,_,_=>⟨x,rfl⟩
 | q::xs,d,x,hq,hl=>by
   rw[lC]at hl;have:=Rq d q;obtain⟨x',e⟩:=Qb (c0:=c0) xs (JI d q) (some (.p q)) (λq' h=>hq q' (mC h)) (by lia);refine⟨x',?_⟩;rw[Cn];show((execs cf mt A6 Hb [some c0,sD d,sP q]).bind _)=_;rw[Xd (hq q mS) (by lia),Res.A5];exact e
end Iv
namespace Lk03
open Iv PySem
theorem f1:fns[1]? =some ⟨1,3,[S.asg 1 (.AB [] []),.CB (.nm 2) .op [.call 0 [.var 0]] Hb,.ret (.prim (.list .op) [.var 1])]⟩:=by kernel_rfl
def E9(p:Iv.P):List (Iv.P×Iv.P):=(pre p).foldl JI []
theorem Ke{k:Nat}(hf:Ak p=true)(hl:(pre p).length<=big):A0 fns mt A6 (k + 2) 1 [.p p]= .ok (.lst ((E9 p).map (·.1))) [sP p]:=by
 obtain⟨x',e⟩:=Qb (cf:=A0 fns mt A6 (k+1)) (mt:=mt) (c0:=.p p) (pre p) [] none (LA p hf) (by simpa using hl);have hc:∀ρ,A8 ρ 0=some (.p p)->AY (A0 fns mt A6 (k+1)) 0 [.slot 0] ρ= .ok (.lst (pre p)) ρ:=λρ hρ=>Cc (by show((A8 ρ 0).bind _)=_;rw[hρ];rfl) (λc hc=>by rw[mE hc];rfl) (Gq hl) rfl
 have e1:ev (A0 fns mt A6 (k + 1)) mt (.call 0 [.var 0]) [sP p,sD [],none]= .ok (.lst (pre p)) [sP p,sD [],none]:=by
  simp! [A8,AN,hc]
 have e0:ev (A0 fns mt A6 (k + 1)) mt (.AB [] []) [sP p,none,none]= .ok (.AB []) [sP p,none,none]:=by
  show(den _ _ (.AB [] [])).v _=_;unfold den;rfl
 have e2:execs (A0 fns mt A6 (k + 1)) mt A6 [S.asg 1 (.AB [] []),.CB (.nm 2) .op [.call 0 [.var 0]] Hb,.ret (.prim (.list .op) [.var 1])] [sP p,none,none]= .ok (.ret (.lst ((E9 p).map (·.1)))) [sP p,sD (E9 p),x']:=by
  have e':forL (.nm 2) [] (execs (A0 fns mt A6 (k+1)) mt A6 Hb) (pre p) [sP p,sD [],none]= .ok .nx [sP p,sD (E9 p),x']:=e;simp! [BD,IK.ok,Dy,Ae,Dq,Lr,Ab,A9,guards,e0,e1,e']
 rw[Ar f1 rfl e2];rfl
end Lk03
namespace Iv
open PySem
variable{cf:CF}{mt:MT}
def cellAt(ns:List Int)(k:Nat):Int:=match ns[k]? with
 |some n=>n%10 ^ 30
 |none=>0
mutual
def Ag (d:List (P×P)):P->P
 |.tup ps=>.tup (ZD d ps)
 |p=>(Ac d p).getD p
def ZD (d:List (P×P)):List P->List P
 |[]=>[]
 |x::r=>x::G6 d r
def G6 (d:List (P×P)):List P->List P
 |[]=>[]
 |p::r=>Ag d p::G6 d r
end
theorem GR(d:List (P×P))(p:P)(r:List P):G6 d (p::r)=Ag d p::G6 d r:=rfl
theorem Ia(d:List (P×P)):G6 d []=[]:=rfl
theorem O3(d:List (P×P)):∀(l:List P),(G6 d l).length=l.length
 |[]=>by rw[Ia]
 |p::l=>by rw[GR,lC,lC,O3 d l]
theorem Bh(d:List (P×P))(x:P)(r:List P):Ag d (.tup (x::r))= .tup (x::G6 d r):=by
 unfold Ag
 conv=>lhs;unfold ZD
theorem Dr(d:List (P×P))(i:Int):Ag d (.int i)=(Ac d (.int i)).getD (.int i):=rfl
theorem JE{f i j:Nat}{c1 c2:C}{o1:Option C}{ρ:Env}(h1:A8 ρ i=some c1)(h2:A8 ρ j=some c2)(k1:c1.cp=true)(k2:c2.cp=false)(e:cf f [c1,c2]= .ok c [o1,some c2']):AY cf f [.slot i,.slot j] ρ= .ok c (ρ.set j (some c2')):=by
 unfold AY
 have ec:Am ρ [.slot i,.slot j]=some [c1,c2]:=by
  show((A8 ρ i).bind λc=>((A8 ρ j).bind λd=>(some []).map (d::·)).map (c::·))=_;rw[h1,h2];rfl
 have hl:BY [.slot i,.slot j] [c1,c2]=[j]:=by
  rw[Bx,Bx,k1,k2];rfl
 have hg:A9 [.slot i,.slot j] [c1,c2]=true:=by
  unfold A9;simp
 rw[ec];dsimp only;rw[hl,hg,iP ⟨by simp,rfl⟩,e];have hle:lend ρ [.slot i,.slot j] [c1,c2]=ρ.set j none:=by unfold lend;rw[hl];rfl
 rw[hle];dsimp only
 have hb:back (ρ.set j none) [.slot i,.slot j] [c1,c2] [o1,some c2']=some (ρ.set j (some c2')):=by
  unfold back;rw[k1];show back (ρ.set j none) [.slot j] [c2] [some c2']=_;unfold back;rw[k2];show back ((ρ.set j none).set j (some c2')) [] [] []=_;unfold back;rw[set_set]
 rw[hb];rfl
variable{cond:Env->Res Bool}
theorem Fy{gs:List (Nat×C)}{elt:Env->Res C}{xs acc:List P}{β1:Env}(h:holds gs β=true)(e1:Dp g x β=some β1)(e2:cond β1= .ok true β2)(e3:elt β2= .ok (.p y) β3):CW g gs cond elt (x::xs) acc β=CW g gs cond elt xs (acc++[y]) β3:=by
 conv=>lhs;unfold CW
 rw[iP h,e1,Res.J1,Res.A5,e2,Res.A5,iP rfl,e3];rfl
theorem DF{elt:Env->Res C}{F:P->P}{β:P->Env}(hset:∀x,Dp g x β0=some (β x))(hset2:∀y x,Dp g x (β y)=some (β x))(hc:∀ρ,cond ρ= .ok true ρ):
 ∀(xs acc:List P),(∀x∈xs,elt (β x)= .ok (.p (F x)) (β x))->∀β1,(β1=β0\/∃y,β1=β y)->∃β2,(β2=β0\/∃y,β2=β y)/\CW g [] cond elt xs acc β1= .ok (acc++xs.map F) β2
 |[],acc,_,β1,h=>⟨β1,h,by rw[map_nil,append_nil];rfl⟩
 | x ::xs,acc,he,β1,h=>by
   obtain⟨β2,q1,q2⟩:=DF hset hset2 hc xs (acc++[F x]) (λy hy=>he y (mC hy)) (β x) (.inr ⟨x,rfl⟩);refine⟨β2,q1,?_⟩
   have hs:Dp g x β1=some (β x):=by
    rcases h with rfl|⟨y,rfl⟩
    .exact hset x
    .exact hset2 y x
   rw[Fy rfl hs (hc _) (he x mS)];rw[q2,map_cons,append_assoc];rfl
theorem B1(d:List (P×P)):∀l,G6 d l=l.map (Ag d)
 |[]=>Ia d
 |p::l=>by rw[GR,map_cons,B1 d l]
end Iv
namespace Lk03
open Iv PySem
theorem f6:fns[6]? =some ⟨2,2,[S.ifs (.prim .lt [.var 1,.prim .len [.var 0]]) [.ret (.prim .mod [.prim .idx [.var 0,.var 1],.prim .pow [.cst (.int 10),.cst (.int 30)]])] [],.ret (.cst (.int 0))]⟩:=by kernel_rfl
theorem Mn{j:Nat}{ns:List Int}{k:Nat}:A0 fns mt A6 (j + 1) 6 [.b (.ro (ns.map .int)),.p (.int k)]= .ok (.p (.int (cellAt ns k))) [some (.b (.ro (ns.map .int))),sP (.int k)]:=by
 have e2:execs (A0 fns mt A6 j) mt A6 [S.ifs (.prim .lt [.var 1,.prim .len [.var 0]]) [.ret (.prim .mod [.prim .idx [.var 0,.var 1],.prim .pow [.cst (.int 10),.cst (.int 30)]])] [],.ret (.cst (.int 0))] [some (.b (.ro (ns.map .int))),sP (.int k)]= .ok (.ret (.p (.int (cellAt ns k)))) [some (.b (.ro (ns.map .int))),sP (.int k)]:=by
  unfold cellAt
  by_cases hk:k < ns.length
  .simp! [Ab,FO,AA,JL,BB,Gs,Ca,CO,PK,hk]
  .simp! [Ab,FO,AA,JL,BB,Gs,Ca,CO,PK,hk]
 rw[Ar f6 rfl e2];rfl
noncomputable def Py:List S:=[.ifs (.prim (.FC .tuple) [.var 0]) [.ret (.prim (.tuple .op) [.prim .add [.lst [.prim .idx [.var 0,.cst (.int 0)]],.comp (.nm 1) .op [.prim (.Gn true false) [.var 0,.cst (.int 1)]] [] (.call 10 [.var 1,.var 2]) [none,none,some 1]]])] [],.ret (.Jq 1 [.var 0,.var 0])]
theorem aQ:fns[10]? =some ⟨2,2,Py⟩:=by kernel_rfl
mutual
def Eg:Iv.P->Bool
 |.tup ps=>decide (ps.length<=1000) && EZ ps
 |_=>true
def EZ:List Iv.P->Bool
 |[]=>true
 |p::r=>Eg p && EZ r
end
theorem Dc(p:Iv.P)(r:List Iv.P):EZ (p::r)=(Eg p && EZ r):=rfl
theorem EY:∀{l:List Iv.P},EZ l=true->∀p∈l,Eg p=true
 |[],_,p,hp=>by cases hp
 | q::l,h,p,hp=>by
   rw[Dc,bA]at h;rcases mK hp with z|z
   .rw[z];exact h.1
   .exact EY h.2 p z
theorem G2:∀{l:List Iv.P} {p:Iv.P},p∈l->p.depth<=Iv.P.Ao l
 |[],p,h=>by cases h
 | q::l,p,h=>by
   conv=>rhs;unfold Iv.P.Ao
   rcases mK h with z|z
   .rw[z];exact Nat.le_max_left _ _
   .exact Nat.le_trans (G2 z) (Nat.le_max_right _ _)
theorem Lz :∀(n:Nat) (p:Iv.P),Ak p=true->Eg p=true->p.depth < n->A0 fns mt A6 n 10 [.p p,.AB d]= .ok (.p (Ag d p)) [sP p,sD d]
 |0,p,_,_,h=>by lia
 | n + 1,p,hk,hf,hd=>by
   cases p with
   |int i=>
     have hky:keyOk (.int i)=true:=rfl
     have e2:execs (A0 fns mt A6 n) mt A6 Py [sP (.int i),sD d]= .ok (.ret (.p (Ag d (.int i)))) [sP (.int i),sD d]:=by
      unfold Py;rw[Dr];simp! [Ab,Be,M5,Ot,hky]
     rw[Ar aQ rfl e2];rfl
   |tup ps=>
     obtain⟨x,r,rfl,hr⟩:=AJ hk;unfold Eg at hf;rw[bA,Dc,bA]at hf;have hlen:r.length+1<=1000:=by have:=of_decide_eq_true hf.1;simpa using this
     have hdep:Iv.P.Ao r < n:=by
      have h1:(Iv.P.tup (.str x::r)).depth=Iv.P.Ao (.str x::r)+1:=by conv=>lhs;unfold Iv.P.depth
      have h2:Iv.P.Ao (.str x::r)=max (Iv.P.str x).depth (Iv.P.Ao r):=by conv=>lhs;unfold Iv.P.Ao
      have h3:=Nat.le_max_right (Iv.P.str x).depth (Iv.P.Ao r)
      lia
     have ih:∀q∈r,A0 fns mt A6 n 10 [.p q,.AB d]= .ok (.p (Ag d q)) [sP q,sD d]:=λq hq=>Lz n q (C4 hr q hq) (EY hf.2.2 q hq) (Nat.lt_of_le_of_lt (G2 hq) hdep)
     have ec:ev (A0 fns mt A6 n) mt (.comp (.nm 1) .op [.prim (.Gn true false) [.var 0,.cst (.int 1)]] [] (.call 10 [.var 1,.var 2]) [none,none,some 1]) [sP (.tup (.str x::r)),sD d]= .ok (.lst (r.map (Ag d))) [sP (.tup (.str x::r)),sD d]:=by
      rw[Cb]
      have he:∀q∈r,ev (A0 fns mt A6 n) mt (.call 10 [.var 1,.var 2]) [none,sP q,sD d]= .ok (.p (Ag d q)) [none,sP q,sD d]:=λq hq=>by
       rw[AN];have:=JE (cf:=A0 fns mt A6 n) (f:=10) (i:=1) (j:=2) (ρ:=[none,sP q,sD d]) rfl rfl rfl rfl (ih q hq);simp! [this]
      obtain⟨β2,q1,q2⟩:=DF (g:=.nm 1) (cond:=Eh (A0 fns mt A6 n) mt []) (elt:=ev (A0 fns mt A6 n) mt (.call 10 [.var 1,.var 2])) (F:=Ag d) (β:=λq=>[none,sP q,sD d]) (β0:=[none,none,sD d]) (λ_=>rfl) (λ_ _=>rfl) BF r [] he [none,none,sD d] (.inl rfl)
      have hb:As (By [none,none,some 1] [sP (.tup (.str x::r)),sD d]) [none,none,some 1] β2=[sP (.tup (.str x::r)),sD d]:=by
       rcases q1 with rfl|⟨y,rfl⟩<;>rfl
      have hbig:r.length<=big:=by unfold big;lia
      have hcut:cut (Iv.P.str x::r) (some 1) none=r:=Cy _;rw[nil_append]at q2;simp! [IK.ok,Ab,Du,E4,hcut,Dd,Ae,Dq,A9,Br,B8,guards,hbig,AR,q2,hb,Tg.slots]
     have e2:execs (A0 fns mt A6 n) mt A6 Py [sP (.tup (.str x::r)),sD d]= .ok (.ret (.p (Ag d (.tup (.str x::r))))) [sP (.tup (.str x::r)),sD d]:=by
      have hu:r.length+1<=big:=by unfold big;lia
      unfold Py;rw[Bh,B1];simp! [Ab,Be,ec,BB,Gs,D1,Gi,DW,hu]
     rw[Ar aQ rfl e2];rfl
   |_=>unfold Ak at hk;cases hk
end Lk03
namespace Iv
open PySem
def Ji:P->Bool
 |.str _=>true
 |p=>Ak p
theorem Fp(h:Ak p=true):Ji p=true:=by
 cases p with
 |str _=>rfl
 |_=>exact h
theorem Mp{α:Type}(l:List α)(F:α->Bool):G3 (l.map λa=>P.bl (F a))=some (l.map F):=by
 induction l with
 |nil=>rfl
 |cons a l ih=>rw[map_cons];unfold G3;rw[ih];rfl
theorem Js(a b:List P)(h:a.length=b.length):((List.range b.length).all λk=>decide (a[k]? =b[k]?))=decide (a=b):=by
 by_cases hab:a=b
 .subst hab;simp
 .rw[dF hab];rw[Bool.eq_false_iff];intro z;rw[all_eq_true]at z;refine hab (ext_getElem? λi=>?_)
  by_cases hi:i < b.length
  .exact of_decide_eq_true (z i (mem_range.mpr hi))
  .rw[List.getElem?_eq_none (by lia),List.getElem?_eq_none (by lia)]
end Iv
namespace Lk03
open Iv PySem
theorem eq_int(i j:Int):Gz (.int i) (.int j)=some (decide (i=j)):=by
 unfold Gz Co Iv.P.depth
 by_cases h:i=j
 .subst h;simp
 .simp[h]
theorem eq_str(i j:Str):Gz (.str i) (.str j)=some (decide (i=j)):=by
 unfold Gz Co Iv.P.depth
 by_cases h:i=j
 .subst h;simp
 .simp[h]
noncomputable def DY:List S:=[.ifs (.prim (.FC .tuple) [.var 1]) [.ifs (.or (.not (.prim (.FC .tuple) [.var 0])) (.prim .ne [.prim .len [.var 0],.prim .len [.var 1]])) [.ret (.cst (.bl false))] [],.ret (.prim .all [.comp (.nm 1) .Ff [.prim .len [.var 1]] [] (.call 9 [.prim .idx [.var 3,.var 1],.prim .idx [.var 2,.var 1]]) [none,none,some 1,some 0]])] [],
 .ifs (.prim (.FC .str) [.var 1]) [.ret (.and (.prim (.FC .str) [.var 0]) (.prim .eq [.var 0,.var 1]))] [],.ret (.and (.prim (.FC .int) [.var 0]) (.and (.not (.prim (.FC .bool) [.var 0])) (.prim .eq [.var 0,.var 1])))]
theorem f9:fns[9]? =some ⟨2,2,DY⟩:=by kernel_rfl
theorem Us(i j:Int):decide (Iv.P.int i= .int j)=decide (i=j):=by
 by_cases h:i=j
 .subst h;simp
 .simp[h]
theorem Ur(i j:Str):decide (Iv.P.str i= .str j)=decide (i=j):=by
 by_cases h:i=j
 .subst h;simp
 .simp[h]
theorem Nm(a b:List Iv.P):decide (Iv.P.tup a= .tup b)=decide (a=b):=by
 by_cases h:a=b
 .subst h;simp
 .simp[h]
theorem IU:∀(n:Nat) (f d:Iv.P),Ji f=true->Ji d=true->Eg d=true->d.depth < n->A0 fns mt A6 n 9 [.p f,.p d]= .ok (.p (.bl (decide (f=d)))) [sP f,sP d]
 |0,f,d,_,_,_,h=>by lia
 | n + 1, f, d,hf,hd,hl,hn=>by
   have fin:execs (A0 fns mt A6 n) mt A6 DY [sP f,sP d]= .ok (.ret (.p (.bl (decide (f=d))))) [sP f,sP d]->A0 fns mt A6 (n + 1) 9 [.p f,.p d]= .ok (.p (.bl (decide (f=d)))) [sP f,sP d]:=λe2=>by
    rw[Ar f9 rfl e2];rfl
   refine fin ?_;cases d with
   |str y=>
     cases f with
     |str x=>unfold DY;simp! [Ab,Be,AA,EK,eq_str,Ur]
     |int x=>unfold DY;simp! [Ab,Be,AA,EK]
     |tup x=>unfold DY;simp! [Ab,Be,AA,EK]
     |_=>unfold Ji Ak at hf;cases hf
   |int y=>
     cases f with
     |str x=>unfold DY;simp! [Ab,Be,AA,EK]
     |int x=>unfold DY;simp! [Ab,Be,AA,EK,eq_int,Us]
     |tup x=>unfold DY;simp! [Ab,Be,AA,EK]
     |_=>unfold Ji Ak at hf;cases hf
   |tup ds=>
     cases f with
     |str x=>unfold DY;simp! [Ab,Be,AA,EK]
     |int x=>unfold DY;simp! [Ab,Be,AA,EK]
     |tup fs=>
       by_cases hlen:fs.length=ds.length
       .unfold Eg at hl;rw[bA]at hl;have hl1:ds.length<=1000:=of_decide_eq_true hl.1
        have hdep:Iv.P.Ao ds < n:=by
         have h1:(Iv.P.tup ds).depth=Iv.P.Ao ds+1:=by conv=>lhs;unfold Iv.P.depth
         lia
        have parts:∀{ps:List Iv.P},Ji (.tup ps)=true->∀q∈ps,Ji q=true:=λ{ps} h q hq=>by
         obtain⟨x,r,rfl,hr⟩:=AJ (show Ak (.tup ps)=true from h);rcases mK hq with z|z
         .rw[z];rfl
         .exact Fp (C4 hr q z)
        have ih:∀a b,a∈fs->b∈ds->A0 fns mt A6 n 9 [.p a,.p b]= .ok (.p (.bl (decide (a=b)))) [sP a,sP b]:=λa b ha hb=>IU n a b (parts hf a ha) (parts hd b hb) (EY hl.2 b hb) (Nat.lt_of_le_of_lt (G2 hb) hdep)
        let F:Iv.P->Iv.P:=λq=>match q with
         |.int k=>.bl (decide (fs[k.toNat]? =ds[k.toNat]?))
         |q=>q
        have he:∀q∈Av 0 (ds.length:Nat),ev (A0 fns mt A6 n) mt (.call 9 [.prim .idx [.var 3,.var 1],.prim .idx [.var 2,.var 1]]) [none,sP q,sP (.tup ds),sP (.tup fs)]= .ok (.p (F q)) [none,sP q,sP (.tup ds),sP (.tup fs)]:=λq hq=>by
         unfold Av at hq;obtain⟨k,hk,rfl⟩:=mem_map.mp hq;have hk:k < ds.length:=by have:=mem_range.mp hk;lia
         have hk2:k < fs.length:=by lia
         have e3:AY (A0 fns mt A6 n) 9 [.Bt (.p fs[k]),.Bt (.p ds[k])] [none,sP (.int (0 + (k:Nat))),sP (.tup ds),sP (.tup fs)]= .ok (.p (.bl (decide (fs[k]=ds[k])))) [none,sP (.int (0 + (k:Nat))),sP (.tup ds),sP (.tup fs)]:=Cc rfl (λc hc=>by
          rcases mK hc with z|z
          .rw[z];rfl
          .rw[mE z];rfl) (ih _ _ (getElem_mem hk2) (getElem_mem hk)) rfl
         rw[AN]
         have hF:F (.int (0 + (k:Nat)))= .bl (decide (fs[k]=ds[k])):=by
          show Iv.P.bl (decide (fs[(0+(k:Int)).toNat]? =ds[(0+(k:Int)).toNat]?))=_;rw[show(0+(k:Int)).toNat=k by lia,List.getElem?_eq_getElem hk,List.getElem?_eq_getElem hk2];simp
         rw[hF];simp only[Int.zero_add]at e3 ⊢;simp! [Ab,BB,Gs,hk,hk2,e3]
        obtain⟨β2,q1,q2⟩:=DF (g:=.nm 1) (cond:=Eh (A0 fns mt A6 n) mt []) (elt:=ev (A0 fns mt A6 n) mt (.call 9 [.prim .idx [.var 3,.var 1],.prim .idx [.var 2,.var 1]])) (F:=F) (β:=λq=>[none,sP q,sP (.tup ds),sP (.tup fs)]) (β0:=[none,none,sP (.tup ds),sP (.tup fs)]) (λ_=>rfl) (λ_ _=>rfl) BF (Av 0 (ds.length:Nat)) [] he [none,none,sP (.tup ds),sP (.tup fs)] (.inl rfl)
        have hb:As (By [none,none,some 1,some 0] [sP (.tup fs),sP (.tup ds)]) [none,none,some 1,some 0] β2=[sP (.tup fs),sP (.tup ds)]:=by
         rcases q1 with rfl|⟨y,rfl⟩<;>rfl
        have hbig:(Av 0 (ds.length:Nat)).length<=big:=by rw[Bb];unfold big;lia
        have hna:(ds.length:Int).natAbs < 2 ^ 61:=by lia
        have hna2:ds.length < 2305843009213693952:=by lia
        have hall:(Av 0 (ds.length:Nat)).map F=(List.range ds.length).map λk=>Iv.P.bl (decide (fs[k]? =ds[k]?)):=by
         unfold Av;rw[map_map,show((ds.length:Int)-0).toNat=ds.length by lia];apply map_congr_left;intro k _;show Iv.P.bl (decide (fs[(0+(k:Int)).toNat]? =ds[(0+(k:Int)).toNat]?))=_;rw[show(0+(k:Int)).toNat=k by lia]
        rw[nil_append,hall]at q2
        have ec:ev (A0 fns mt A6 n) mt (.comp (.nm 1) .Ff [.prim .len [.var 1]] [] (.call 9 [.prim .idx [.var 3,.var 1],.prim .idx [.var 2,.var 1]]) [none,none,some 1,some 0]) [sP (.tup fs),sP (.tup ds)]= .ok (.lst ((List.range ds.length).map λk=>Iv.P.bl (decide (fs[k]? =ds[k]?)))) [sP (.tup fs),sP (.tup ds)]:=by
         rw[Cb];simp! [IK.ok,Ab,FO,Dd,Ae,hna,hna2,A9,Br,B8,guards,hbig,AR,q2,hb,Tg.slots]
        have hbo:=Mp (List.range ds.length) λk=>decide (fs[k]? =ds[k]?)
        have hfin:((List.range ds.length).map λk=>decide (fs[k]? =ds[k]?)).all id=decide (fs=ds):=by
         rw[all_map];exact Js fs ds hlen
        have hne:Gz (.int (fs.length:Nat)) (.int (ds.length:Nat))=some true:=by rw[eq_int,hlen];simp
        unfold DY;rw[Nm];simp! [Ab,Be,AA,EK,FO,hne,ec,UU,Of,hbo,hfin]
       .have hne:Gz (.int (fs.length:Nat)) (.int (ds.length:Nat))=some false:=by rw[eq_int,dF (by lia)]
        have hx:decide (Iv.P.tup fs= .tup ds)=false:=by rw[Nm];exact dF λz=>hlen (by rw[z])
        rw[hx];unfold DY;simp! [Ab,Be,AA,EK,FO,hne]
     |_=>unfold Ji Ak at hf;cases hf
   |_=>unfold Ji Ak at hd;cases hd
end Lk03
namespace Iv
open PySem
theorem Ht(k:P):Ac [] k=none:=rfl
theorem BK(q:P×P)(l:List (P×P))(k:P):Ac (q::l) k=if q.1=k then some q.2 else Ac l k:=by
 unfold Ac;rw[List.find?_cons]
 by_cases h:q.1=k
 .rw[decide_eq_true h,iP h];rfl
 .rw[dF h,iN h]
theorem KI{k v:P}:∀(l:List (P×P)),Ac (l.map λq=>if q.1=k then(q.1,v)else q) k'=if k'=k then(Ac l k).map (λ_=>v)else Ac l k'
 |[]=>by simp[Ht]
 | q ::l=>by
   rw[map_cons,BK,KI l,BK,BK]
   by_cases h1:q.1=k
   .rw[iP h1]
    by_cases h2:k'=k
    .subst h2;simp[h1]
    .have:¬q.1=k':=λz=>h2 (z.symm.trans h1)
     simp[h2,this]
   .rw[iN h1]
    by_cases h2:k'=k
    .subst h2;simp[h1]
    .simp[h2]
theorem Io{k v:P}:∀(l:List (P×P)),(l.any λq=>decide (q.1=k))=false->Ac (l++[(k,v)]) k'=if k'=k then some v else Ac l k'
 | [],_=>by
   rw[nil_append,BK,Ht]
   by_cases h:k=k'
   .subst h;simp
   .rw[iN h,iN (λz=>h z.symm)]
 | q::l,h=>by
   rw[any_cons,Bool.or_eq_false_iff]at h;have h1:¬q.1=k:=of_decide_eq_false h.1;rw[List.cons_append,BK,Io l h.2,BK]
   by_cases h2:k'=k
   .subst h2;simp[h1]
   .simp[h2]
theorem Dj{v:P}:∀{l:List (P×P)},Ac l k=some v->(l.any λq=>decide (q.1=k))=true
 |[],h=>by cases h
 | q::l,h=>by
   rw[BK]at h;rw[any_cons]
   by_cases h1:q.1=k
   .rw[decide_eq_true h1];rfl
   .rw[iN h1]at h;rw[Dj h];simp
theorem HD{k:P}:∀{l:List (P×P)},(l.any λq=>decide (q.1=k))=true->∃v,Ac l k=some v
 |[],h=>by cases h
 | q ::l,h=>by
   rw[BK]
   by_cases h1:q.1=k
   .exact⟨q.2,iP h1⟩
   .rw[iN h1];rw[any_cons,dF h1,Bool.false_or]at h;exact HD h
theorem Aq(l:List (P×P))(k v k':P):Ac (dput l k v) k'=if k'=k then some v else Ac l k':=by
 unfold dput;split
 .rename_i h;rw[KI];obtain⟨u,hu⟩:=HD h;rw[hu];rfl
 .rename_i h;exact Io l (Bool.eq_false_iff.mpr h)
theorem Di{l:List (P×P)}{u:P}(h:Ac l k=some u):(dput l k v).length=l.length:=by
 unfold dput;rw[iP (Dj h),lM]
inductive Ch(A:List (P×P)):P->List P->P->Prop where
 |nil {q:P} (h:Ac A q=none) (k:keyOk q=true):Ch A q [] q
 |cons {p p' q:P} {l:List P} (h:Ac A p=some p') (k:keyOk p=true) (r:Ch A p' l q):Ch A p (p::l) q
theorem Ch.keep(hk:(Ac A k).isSome=true):∀{p q:P} {l:List P},Ch A p l q->k∉l->Ch (dput A k v) p l q
 |_,_,_,.nil h kq,_=>.nil (by
     rw[Aq,iN,h]
     intro z;subst z;rw[h]at hk;cases hk) kq
 |_,_,_,.cons (p:=p) h kp r,hn=>.cons (by
     rw[Aq,iN (λz=>hn (by rw[<-z];exact mS)),h]) kp (Ch.keep hk r λz=>hn (mC z))
def Bs:Str:=Str.ofString "aheads"
def compress(A:List (P×P))(l:List P)(q:P):List (P×P):=l.foldl (λA p=>dput A p q) A
variable{cf:CF}{mt:MT}
def Aj(A:List (P×P)):C:=.obj 2 [(Bs,.AB A)]
def up1:List S:=[.asg 2 (.prim .idx [.fld 0 Bs,.var 2])]
def Z0:List S:=[.asg 3 (.prim .idx [.fld 0 Bs,.var 1]),.E5 (.fld 0 Bs) (.var 1) (.var 2),.asg 1 (.var 3)]
theorem OT{x:Option C}(h:Ch A p l q):A6 (tv cf mt (.prim .M0 [.var 2,.fld 0 Bs])) (execs cf mt A6 up1) [some (Aj A),some p0,sP p,x]= .ok .nx [some (Aj A),some p0,sP q,x]:=by
 induction h with
 |nil h k=>
   rw[B4];simp! [Bz,Aj,Ab,AA,memC,k,h]
 |@cons p p' q l h k r ih=>
   rw[B4];have e1:tv cf mt (.prim .M0 [.var 2,.fld 0 Bs]) [some (Aj A),some p0,sP p,x]= .ok true [some (Aj A),some p0,sP p,x]:=by simp! [Bz,Aj,Ab,AA,memC,k,h]
   have e2:execs cf mt A6 up1 [some (Aj A),some p0,sP p,x]= .ok .nx [some (Aj A),some p0,sP p',x]:=by
    unfold up1;simp! [Bz,Aj,Ab,BB,k,h]
   rw[e1,Res.A5,iP rfl,e2,Res.A5];exact ih
theorem JO :∀(l:List P) {A:List (P×P)} {p:P} {x:Option C},Ch A p l q->l.Nodup->A.length < big->∃x',A6 (tv cf mt (.prim .M0 [.var 1,.fld 0 Bs])) (execs cf mt A6 Z0) [some (Aj A),sP p,sP q,x]= .ok .nx [some (Aj (compress A l q)),sP q,sP q,x']
 | [],A,p,x,hc,_,_=>by
   cases hc with
   |nil h k=>
     refine⟨x,?_⟩;rw[B4];unfold compress;simp! [Bz,Aj,Ab,AA,memC,k,h]
 | p1::l,A,p,x,hc,hn,hb=>by
   cases hc with
   |@cons _ p' _ _ h k r=>
     obtain⟨n1,n2⟩:=nodup_cons.mp hn;obtain⟨x',e⟩:=JO l (x:=some (.p p')) (r.keep (k:=p1) (v:=q) (by rw[h];rfl) n1) n2 (by rw[Di h];exact hb);refine⟨x',?_⟩;rw[B4];have e1:tv cf mt (.prim .M0 [.var 1,.fld 0 Bs]) [some (Aj A),sP p1,sP q,x]= .ok true [some (Aj A),sP p1,sP q,x]:=by simp! [Bz,Aj,Ab,AA,memC,k,h]
     have e2:execs cf mt A6 Z0 [some (Aj A),sP p1,sP q,x]= .ok .nx [some (Aj (dput A p1 q)),sP p',sP q,sP p']:=by
      unfold Z0;simp! [Bz,Aj,Ab,BB,k,h,AX,C3,Eb,BQ,E6,hb,Bg]
     rw[e1,Res.A5,iP rfl,e2,Res.A5];exact e
end Iv
namespace Lk03
open Iv PySem
theorem aL:fns[16]? =some ⟨2,4,[S.asg 2 (.var 1),.Lc (.prim .M0 [.var 2,.fld 0 Bs]) up1,.Lc (.prim .M0 [.var 1,.fld 0 Bs]) Z0,.ret (.var 2)]⟩:=by kernel_rfl
theorem Jf{k:Nat}{A:List (Iv.P×Iv.P)}{l:List Iv.P}(h:Ch A p l q)(hn:l.Nodup)(hb:A.length < big):A0 fns mt A6 (k + 1) 16 [Aj A,.p p]= .ok (.p q) [some (Aj (compress A l q)),none]:=by
 have e1:=OT (cf:=A0 fns mt A6 k) (mt:=mt) (p0:=.p p) (x:=none) h;obtain⟨x',e3⟩:=JO (cf:=A0 fns mt A6 k) (mt:=mt) l (x:=none) h hn hb
 have e2:execs (A0 fns mt A6 k) mt A6 [S.asg 2 (.var 1),.Lc (.prim .M0 [.var 2,.fld 0 Bs]) up1,.Lc (.prim .M0 [.var 1,.fld 0 Bs]) Z0,.ret (.var 2)] [some (Aj A),sP p,none,none]= .ok (.ret (.p q)) [some (Aj (compress A l q)),sP q,sP q,x']:=by
  simp! [G0,e1,e3]
 rw[Ar aL rfl e2];rfl
end Lk03
namespace Iv
open PySem
variable{cf:CF}{mt:MT}
theorem CH{f i:Nat}{hs:List Hd}{cs:List C}{o c:C}{outs:List (Option C)}{ρ:Env}(h1:A8 ρ i=some o)(k1:o.cp=false)(ec:Am ρ hs=some cs)(hc:∀c∈cs,c.cp=true)(e:cf f (o::cs)= .ok c (some o'::outs))(ho:outs.length=cs.length):AY cf f (.slot i::hs) ρ= .ok c (ρ.set i (some o')):=by
 have hl:∀{hs:List Hd} {cs:List C},(∀c∈cs,c.cp=true)->BY hs cs=[]:=by
  intro hs
  induction hs with
  |nil=>intro cs _;rfl
  |cons h hs ih=>
    intro cs hc;cases cs with
    |nil=>rfl
    |cons c cs=>
      rw[Bx,hc c mS,ih λc hc'=>hc c (mC hc')];rfl
 have hg:∀{hs:List Hd} {cs:List C},(∀c∈cs,c.cp=true)->A9 hs cs=true:=by
  intro hs cs hc;unfold A9;rw[all_eq_true];intro q hq;rw[hc q.2 (of_mem_zip hq).2];rfl
 have hb:∀{hs:List Hd} {cs:List C} {outs:List (Option C)} {ρ' ρ0:Env},Am ρ0 hs=some cs->(∀c∈cs,c.cp=true)->outs.length=cs.length->back ρ' hs cs outs=some ρ':=by
  intro hs
  induction hs with
  |nil=>intro cs outs ρ' ρ0 ec _ _;cases ec;unfold back;rfl
  |cons h hs ih=>
    intro cs outs ρ' ρ0 ec hc ho;unfold Am at ec;obtain⟨c,e1,e2⟩:=oB ec;obtain⟨ds,e3,rfl⟩:=oM e2;cases outs with
    |nil=>cases ho
    |cons o outs=>
      have h1:=hc c mS;have r:=ih (ρ':=ρ') e3 (λc hc'=>hc c (mC hc')) (by simpa using ho);cases h with
      |Bt d=>unfold back;exact r
      |slot i=>unfold back;rw[h1];exact r
      |fld i f=>unfold back;rw[h1];exact r
 unfold AY
 have ec2:Am ρ (.slot i::hs)=some (o::cs):=by
  show((A8 ρ i).bind λc=>(Am ρ hs).map (c::·))=_;rw[h1,ec];rfl
 have hl2:BY (.slot i::hs) (o::cs)=[i]:=by rw[Bx,k1,hl hc];rfl
 have hg2:A9 (.slot i::hs) (o::cs)=true:=by
  have:=hg (hs:=hs) hc;unfold A9 at this ⊢;rw[zip_cons_cons,all_cons,this];simp
 rw[ec2];dsimp only;rw[hl2,hg2,iP ⟨by simp,rfl⟩,e];have hle:lend ρ (.slot i::hs) (o::cs)=ρ.set i none:=by unfold lend;rw[hl2];rfl
 rw[hle];dsimp only
 have hb2:back (ρ.set i none) (.slot i::hs) (o::cs) (some o'::outs)=some (ρ.set i (some o')):=by
  unfold back;rw[k1];show back ((ρ.set i none).set i (some o')) hs cs outs=_;rw[hb ec hc ho,set_set]
 rw[hb2];rfl
structure UF(U:List P)(A:List (P×P))(L:P->P)(rk:P->Nat):Prop where
 val:∀F G,Ac A F=some G->L G=L F/\rk G < rk F/\F∈U/\G∈U
 root:∀F,Ac A F=none->L F=F
def free(A:List (P×P))(U:List P):Nat:=U.countP λF=>(Ac A F).isNone
structure Gr(U:List P)(A:List (P×P))(L:P->P):Prop where
 uf:∃rk,UF U A L rk
 size:A.length+free A U<=U.length
variable{L:P->P}{rk:P->Nat}
theorem UF.chain(h:UF U A L rk)(hU:∀F∈U,keyOk F=true):∀(n:Nat) (F:P),rk F=n->F∈U->∃l,Ch A F l (L F)/\l.Nodup/\(∀x∈l,L x=L F/\x∈U/\rk (L F) < rk x/\rk x<=rk F/\(Ac A x).isSome=true)/\rk (L F)<=rk F/\L F∈U:=by
 intro n
 induction n using Nat.strongRecOn with
 |ind n ih=>
   intro F hF hm;cases e:Ac A F with
   |none=>
     refine⟨[],?_,nodup_nil,λx hx=>(by cases hx),?_,?_⟩
     .rw[h.root F e];exact .nil e (hU F hm)
     .rw[h.root F e];exact lR
     .rw[h.root F e];exact hm
   |some G=>
     obtain⟨a,b,c,d⟩:=h.val F G e;obtain⟨l,q1,q2,q3,q4,q5⟩:=ih (rk G) (by lia) G rfl d;rw[a]at q1 q4 q5;refine⟨F::l,.cons e (hU F hm) q1,nodup_cons.mpr ⟨λz=>?_,q2⟩,λx hx=>?_,by lia,q5⟩
     .have:=(q3 F z).2.2.2.1;lia
     .rcases mK hx with z|z
      .rw[z];exact⟨rfl,hm,by lia,lR,by rw[e];rfl⟩
      .obtain⟨z1,z2,z3,z4,z5⟩:=q3 x z;rw[a]at z1 z3;exact⟨z1,z2,z3,by lia,z5⟩
theorem UF.top(h:UF U A L rk):∀(n:Nat) (F:P),rk F=n->L (L F)=L F/\Ac A (L F)=none:=by
 intro n
 induction n using Nat.strongRecOn with
 |ind n ih=>
   intro F hF;cases e:Ac A F with
   |none=>rw[h.root F e,h.root F e];exact⟨rfl,e⟩
   |some G=>
     obtain⟨a,b,c,d⟩:=h.val F G e;have:=ih (rk G) (by lia) G rfl;rw[a]at this;exact this
theorem CV{u:P}(h:Ac l k=some u)(F:P):(Ac (dput l k v) F).isNone=(Ac l F).isNone:=by
 rw[Aq]
 by_cases e:F=k
 .rw[iP e,e,h];rfl
 .rw[iN e]
theorem UF.compress:∀(l:List P) {A:List (P×P)},UF U A L rk->L q=q->q∈U->(∀x∈l,L x=q/\x∈U/\rk q < rk x/\(Ac A x).isSome=true)->UF U (compress A l q) L rk/\(Iv.compress A l q).length=A.length/\∀F,(Ac (Iv.compress A l q) F).isNone=(Ac A F).isNone
 |[],A,h,_,_,_=>⟨h,rfl,λ_=>rfl⟩
 | p :: l,A,h,hq,hqU,hx=>by
   obtain⟨h1,h2,h3,h4⟩:=hx p mS;obtain⟨u,hu⟩:=Option.isSome_iff_exists.mp h4;have hk:=CV (v:=q) hu
   have h':UF U (dput A p q) L rk:=by
    refine⟨λF G e=>?_,λF e=>?_⟩
    .rw[Aq]at e
     by_cases z:F=p
     .rw[iP z]at e;cases e;rw[z,hq,h1];exact⟨rfl,h3,h2,hqU⟩
     .rw[iN z]at e;exact h.val F G e
    .rw[Aq]at e
     by_cases z:F=p
     .rw[iP z]at e;cases e
     .rw[iN z]at e;exact h.root F e
   obtain⟨r1,r2,r3⟩:=UF.compress l h' hq hqU λx hm=>by
    obtain⟨a,b,c,d⟩:=hx x (mC hm);refine⟨a,b,c,?_⟩;have:=hk x;cases e:Ac (dput A p q) x with
    |none=>rw[e]at this;obtain⟨w,hw⟩:=Option.isSome_iff_exists.mp d;rw[hw]at this;cases this
    |some w=>rfl
   exact⟨r1,by show(Iv.compress (dput A p q) l q).length=_;rw[r2,Di hu],λF=>by show(Ac (Iv.compress (dput A p q) l q) F).isNone=_;rw[r3,hk]⟩
theorem count_le{p q:P->Bool}(h:∀F,q F=true->p F=true):∀U:List P,U.countP q<=U.countP p
 |[]=>lR
 | F::U=>by
   rw[countP_cons,countP_cons];have:=count_le h U
   by_cases hq:q F=true
   .rw[iP hq,iP (h F hq)];lia
   .rw[iN hq];lia
theorem KR{p q:P->Bool}(h:∀F,q F=true->p F=true)(hp:p G=true)(hq:q G=false):∀{U:List P},G∈U->U.countP q + 1<=U.countP p
 | F ::U,hm=>by
   rw[countP_cons,countP_cons];rcases mK hm with e|hm
   .subst e;have:=count_le h U;rw[iP hp,iN (by rw[hq];exact Bool.false_ne_true)]
    lia
   .have:=KR h hp hq hm
    by_cases hq':q F=true
    .rw[iP hq',iP (h F hq')];lia
    .rw[iN hq'];lia
theorem Hq{U:List P}(hF:Ac A F=none)(hU:F∈U):free (dput A F v) U + 1<=free A U:=by
 refine KR (λG hG=>?_) (G:=F) (by rw[hF];rfl) (by rw[Aq,iP rfl];rfl) hU;rw[Aq]at hG
 by_cases e:G=F
 .rw[iP e]at hG;cases hG
 .rwa[iN e]at hG
def Dx(L:P->P)(X Y:P)(F:P):P:=if L F=X then Y else L F
theorem Gr.top(h:Gr U A L)(F:P):L (L F)=L F/\Ac A (L F)=none:=by
 obtain⟨rk,h⟩:=h.uf;exact h.top _ F rfl
theorem Gr.join(h:Gr U A L)(hX:L X=X)(hY:L Y=Y)(hne:X≠Y)(hXU:X∈U)(hYU:Y∈U):Gr U (dput A X Y) (Dx L X Y)/\free (dput A X Y) U + 1<=free A U:=by
 have hn:Ac A X=none:=by have:=(h.top X).2;rwa[hX]at this
 have hf:=Hq (v:=Y) hn hXU;refine⟨⟨?_,?_⟩,hf⟩
 .obtain⟨rk,h⟩:=h.uf;refine⟨λF=>if L F=X then rk F+rk Y+1 else rk F,λF G e=>?_,λF e=>?_⟩
  .rw[Aq]at e
   by_cases z:F=X
   .rw[iP z]at e;cases e;subst z;unfold Dx;rw[hX,hY,iP rfl,iN (Ne.symm hne),iP rfl,iN (Ne.symm hne)];exact⟨rfl,by lia,hXU,hYU⟩
   .rw[iN z]at e;obtain⟨a,b,c,d⟩:=h.val F G e;unfold Dx;rw[a];refine⟨rfl,?_,c,d⟩;split<;>lia
  .rw[Aq]at e
   by_cases z:F=X
   .rw[iP z]at e;cases e
   .rw[iN z]at e;unfold Dx;rw[h.root F e,iN z]
 .have h1:=CU A X Y;have:=h.size
  lia
theorem Gr.nil(U:List P):Gr U [] λF=>F:=
 ⟨⟨λ_=>0,λF G e=>(by cases e),λF _=>rfl⟩,by
   have:free [] U<=U.length:=countP_le_length;show 0+_<=_
   lia⟩
end Iv
namespace Lk03
open Iv PySem
theorem Ig{k:Nat}{U:List Iv.P}{L:Iv.P->Iv.P}{F:Iv.P}(h:Gr U A L)(hU:∀F∈U,keyOk F=true)(hl:U.length < big)(hF:F∈U):
 ∃A',Gr U A' L/\free A' U=free A U/\L F∈U/\A0 fns mt A6 (k+1) 16 [Aj A,.p F]= .ok (.p (L F)) [some (Aj A'),none]:=by
 obtain⟨rk,hu⟩:=h.uf;obtain⟨l,q1,q2,q3,q4,q5⟩:=hu.chain hU _ F rfl hF;have ht:=hu.top _ F rfl;obtain⟨r1,r2,r3⟩:=UF.compress l hu ht.1 q5 λx hx=>let⟨a,b,c,d,e⟩:=q3 x hx;⟨a,b,c,e⟩
 have hfr:free (compress A l (L F)) U=free A U:=by unfold free;congr 1;exact funext r3
 refine⟨compress A l (L F),⟨⟨rk,r1⟩,by rw[r2,hfr];exact h.size⟩,hfr,q5,Jf q1 q2 (by have:=h.size;lia)⟩
theorem aM:fns[15]? =some ⟨1,1,[S.NV 0 Bs (T.AB [] [])]⟩:=by kernel_rfl
theorem Uc{k:Nat}:A0 fns mt A6 (k + 1) 15 [.obj 2 []]= .ok (.p .AI) [some (Aj [])]:=by
 have e0:ev (A0 fns mt A6 k) mt (.AB [] []) [some (.obj 2 [])]= .ok (.AB []) [some (.obj 2 [])]:=by
  show(den _ _ (.AB [] [])).v _=_;unfold den;rfl
 have hm:mt.f 2 Bs=true:=by kernel_rfl
 have e2:execs (A0 fns mt A6 k) mt A6 [S.NV 0 Bs (T.AB [] [])] [some (.obj 2 [])]= .ok .nx [some (Aj [])]:=by
  simp! [Ni,e0,MF,Bg,Aj,hm]
 rw[NA aM rfl e2];rfl
def GX:List S:=[S.ifs (T.prim (O.FC (Ty.int)) [T.var 1]) [S.ret (T.lst [])] [],
 S.ret (T.comp (Tg.nm 1) (IK.op) [T.prim (O.Gn true false) [T.var 1,T.cst (P.int 1)]] [] (T.C5 "leader_of" 2 [T.var 1]) [none,none,some 0])]
theorem YS:fns[17]? =some ⟨2,2,GX⟩:=by kernel_rfl
def LW:List S:=[S.ifs
 (T.and (T.prim (O.FC (Ty.int)) [T.var 1]) (T.or (T.prim (O.FC (Ty.tuple)) [T.var 2]) (T.prim (O.lt) [T.var 2,T.var 1])))
 [S.E5 (T.fld 0 Bs) (T.var 1) (T.var 2)]
 [S.E5 (T.fld 0 Bs) (T.var 2) (T.var 1)]]
theorem fE:fns[19]? =some ⟨3,3,LW⟩:=by kernel_rfl
end Lk03
namespace Iv
open PySem L2
abbrev Sub:=List (P×P)
def Rr(θ:Sub)(L:P->P):Prop:=∀F,Ag θ (L F)=Ag θ F
def Fits(θ:Sub)(ps:List (P×P)):Prop:=∀pr∈ps,Ag θ pr.1=Ag θ pr.2
variable{L:P->P}{Y:P}
theorem OV(h:Rr θ L)(hx:Ag θ X=Ag θ Y):Rr θ (Dx L X Y):=λF=>by
 unfold Dx
 by_cases e:L F=X
 .rw[iP e,<-hx,<-e];exact h F
 .rw[iN e];exact h F
theorem K2{x y:P}{k k':List P}(h:Ag θ (.tup (x::k))=Ag θ (.tup (y::k'))):x=y/\k.length=k'.length/\Fits θ (k.zip k'):=by
 rw[Bh,Bh]at h;injection h with h
 injection h with h1 h2
 rw[B1,B1]at h2;have hl:k.length=k'.length:=by have:=congrArg List.length h2;simpa using this
 refine⟨h1,hl,λpr hp=>?_⟩;clear h1
 induction k generalizing k' with
 |nil=>simp at hp
 |cons a k ih=>
   cases k' with
   |nil=>cases hl
   |cons b k'=>
     rw[map_cons,map_cons]at h2;injection h2 with h3 h4
     rw[zip_cons_cons]at hp;rcases mK hp with z|z
     .rw[z];exact h3
     .exact ih h4 (by simpa using hl) z
def bu(L:P->P)(ps:List (P×P)):Prop:=∀R:P->P->Prop,Equivalence R->(∀F,R F (L F))->(∀pr∈ps,R pr.1 pr.2)->∀m r,∃r',L (.tup (.str m::r))= .tup (.str m::r')/\Paired R r r'
theorem G8{R:P->P->Prop}(h:Equivalence R):∀l:List P,Paired R l l
 |[]=>.nil
 |x::l=>.cons (h.refl x) (G8 h l)
theorem Fi{R:P->P->Prop}(h:Equivalence R):∀{a b c:List P},Paired R a b->Paired R b c->Paired R a c
 |_,_,_,.nil,.nil=>.nil
 |_,_,_,.cons r t,.cons r' t'=>.cons (h.trans r r') (Fi h t t')
theorem GY{R:P->P->Prop}:∀{a b:List P},a.length=b.length->(∀pr∈a.zip b,R pr.1 pr.2)->Paired R a b
 |[],[],_,_=>.nil
 |[],_::_,h,_=>by cases h
 |_::_,[],h,_=>by cases h
 |x::a,y::b,h,k=>.cons (k (x,y) (by simp)) (GY (by simpa using h) λpr hp=>k pr (by simp[hp]))
theorem Uz(ps:List (P×P)):bu (λF=>F) ps:=λR hR _ _ m k=>⟨k,rfl,G8 hR _⟩
def dG(prs:List (P×P))(L:P->P)(ps:List (P×P)):Prop:=∀R:P->P->Prop,Equivalence R->(∀F,R F (L F))->(∀pr∈ps,R pr.1 pr.2)->∀pr∈prs,R pr.1 pr.2
structure Todo(U:List P)(prs:List (P×P))(A:List (P×P))(L:P->P)(wl:List (P×P)):Prop where
 gr:Gr U A L
 JA:bu L wl
 hold:dG prs L wl
 Sk:∀θ,Fits θ prs->Rr θ L/\Fits θ wl
 F5:∀pr∈wl,pr.1∈U/\pr.2∈U
 mn:∀i j,L (.int i)= .int j->j<=i
theorem Pq{R:P->P->Prop}(hR:Equivalence R)(hX:L X=X)(hL:∀F,R F (Dx L X Y F)):R X Y/\∀F,R F (L F):=by
 have hXY:R X Y:=by
  have:=hL X;unfold Dx at this;rwa[iP hX]at this
 refine⟨hXY,λF=>?_⟩;have:=hL F;unfold Dx at this
 by_cases e:L F=X
 .rw[iP e]at this;rw[e];exact hR.trans this (hR.symm hXY)
 .rwa[iN e]at this
theorem Ef{a b:List (P×P)}:Fits θ (a++b)↔(Fits θ a/\Fits θ b):=by
 constructor
 .intro h;exact⟨λpr hp=>h pr (mL hp),λpr hp=>h pr (mR hp)⟩
 .rintro⟨h1,h2⟩ pr hp
  rcases mem_append.mp hp with z|z
  .exact h1 pr z
  .exact h2 pr z
theorem Kw{a b:P}:Fits θ [(a,b)]↔Ag θ a=Ag θ b:=by
 constructor
 .intro h;exact h (a,b) (by simp)
 .intro h pr hp;rw[mE hp];exact h
theorem Todo.start(U:List P)(prs:List (P×P))(h:∀pr∈prs,pr.1∈U/\pr.2∈U):Todo U prs [] (λF=>F) prs:=
 ⟨Gr.nil U,Uz prs,λR _ _ hp=>hp,λθ hf=>⟨λ_=>rfl,hf⟩,h,λi j e=>(by injection e with e;lia)⟩
variable{prs wl:List (P×P)}
theorem Todo.same(t:Todo U prs A L wl)(h:Gr U A' L):Todo U prs A' L wl:=⟨h,t.JA,t.hold,t.Sk,t.F5,t.mn⟩
theorem Todo.skip{a b:P}(t:Todo U prs A L (wl++[(a,b)]))(e:L a=L b):Todo U prs A L wl where
 gr:=t.gr
 JA:=λR hR hL hp=>t.JA R hR hL λpr hm=>by
  rcases mem_append.mp hm with z|z
  .exact hp pr z
  .rw[mE z];exact hR.trans (hL a) (by rw[e];exact hR.symm (hL b))
 hold:=λR hR hL hp=>t.hold R hR hL λpr hm=>by
  rcases mem_append.mp hm with z|z
  .exact hp pr z
  .rw[mE z];exact hR.trans (hL a) (by rw[e];exact hR.symm (hL b))
 Sk:=λθ hf=>let⟨h1,h2⟩:=t.Sk θ hf;⟨h1,(Ef.mp h2).1⟩
 F5:=λpr hp=>t.F5 pr (mL hp)
 mn:=t.mn
theorem Todo.go{a b X:P}(t:Todo U prs A L (wl++[(a,b)]))(hne:L a≠L b)(hXU:X∈U)(hYU:Y∈U)(hab:(X=L a/\Y=L b)\/(X=L b/\Y=L a))(new:List (P×P))
 (hnew:∀pr∈new,pr.1∈U/\pr.2∈U)(hfit:∀θ,Ag θ X=Ag θ Y->Fits θ new)
 (hmade:∀R:P->P->Prop,Equivalence R->(∀pr∈new,R pr.1 pr.2)->∀m r,X= .tup (.str m::r)->∃r',Y= .tup (.str m::r')/\Paired R r r')(hmn:∀j,Y= .int j->∃i,X= .int i/\j<=i):
 Todo U prs (dput A X Y) (Dx L X Y) (wl++new)/\free (dput A X Y) U+1<=free A U:=by
 have hX:L X=X:=by
  rcases hab with⟨h,_⟩|⟨h,_⟩
  .rw[h];exact(t.gr.top a).1
  .rw[h];exact(t.gr.top b).1
 have hY:L Y=Y:=by
  rcases hab with⟨_,h⟩|⟨_,h⟩
  .rw[h];exact(t.gr.top b).1
  .rw[h];exact(t.gr.top a).1
 have hXY:X≠Y:=by
  rcases hab with⟨h1,h2⟩|⟨h1,h2⟩
  .rw[h1,h2];exact hne
  .rw[h1,h2];exact λz=>hne z.symm
 obtain⟨g1,g2⟩:=t.gr.join hX hY hXY hXU hYU
 have back:∀R:P->P->Prop,Equivalence R->(∀F,R F (Dx L X Y F))->(∀pr∈wl++new,R pr.1 pr.2)->(∀F,R F (L F))/\∀pr∈wl++[(a,b)],R pr.1 pr.2:=λR hR hL hp=>by
  obtain⟨r1,r2⟩:=Pq hR hX hL;refine⟨r2,λpr hm=>?_⟩;rcases mem_append.mp hm with z|z
  .exact hp pr (mL z)
  .rw[mE z];rcases hab with⟨h1,h2⟩|⟨h1,h2⟩
   .exact hR.trans (r2 a) (hR.trans (by rw[<-h1,<-h2];exact r1) (hR.symm (r2 b)))
   .exact hR.trans (r2 a) (hR.trans (by rw[<-h1,<-h2];exact hR.symm r1) (hR.symm (r2 b)))
 refine⟨⟨g1,λR hR hL hp m r=>?_,λR hR hL hp=>?_,λθ hf=>?_,λpr hp=>?_,λi j e=>?_⟩,g2⟩
 .obtain⟨r2,hp2⟩:=back R hR hL hp;obtain⟨r',e1,e2⟩:=t.JA R hR r2 hp2 m r;unfold Dx
  by_cases e:L (.tup (.str m::r))=X
  .rw[iP e];rw[e1]at e;obtain⟨r3,e3,e4⟩:=hmade R hR (λpr hm=>hp pr (mR hm)) m r' e.symm;exact⟨r3,e3,Fi hR e2 e4⟩
  .rw[iN e];exact⟨r',e1,e2⟩
 .obtain⟨r2,hp2⟩:=back R hR hL hp;exact t.hold R hR r2 hp2
 .obtain⟨h1,h2⟩:=t.Sk θ hf;have h3:=Kw.mp (Ef.mp h2).2
  have h4:Ag θ X=Ag θ Y:=by
   rcases hab with⟨q1,q2⟩|⟨q1,q2⟩
   .rw[q1,q2,h1 a,h1 b];exact h3
   .rw[q1,q2,h1 a,h1 b];exact h3.symm
  exact⟨OV h1 h4,Ef.mpr ⟨(Ef.mp h2).1,hfit θ h4⟩⟩
 .rcases mem_append.mp hp with z|z
  .exact t.F5 pr (mL z)
  .exact hnew pr z
 .unfold Dx at e
  by_cases hx:L (.int i)=X
  .rw[iP hx]at e;obtain⟨a,ha,hj⟩:=hmn j e;have:=t.mn i a (hx.trans ha)
   lia
  .rw[iN hx]at e;exact t.mn i j e
structure Done(U:List P)(prs:List (P×P))(A:List (P×P))(L:P->P):Prop where
 gr:Gr U A L
 JA:∀m r,∃r',L (.tup (.str m::r))= .tup (.str m::r')/\r.map L=r'.map L
 one:∀pr∈prs,L pr.1=L pr.2
 Sk:∀θ,Fits θ prs->Rr θ L
 mn:∀i j,L (.int i)= .int j->j<=i
theorem Todo.done(t:Todo U prs A L []):Done U prs A L:=by
 have hR:Equivalence λx y=>L x=L y:=⟨λ_=>rfl,λh=>h.symm,λh k=>h.trans k⟩
 have hL:∀F,L F=L (L F):=λF=>(t.gr.top F).1.symm
 refine⟨t.gr,λm r=>?_,λpr hp=>t.hold _ hR hL (λ_ z=>by cases z) pr hp,λθ hf=>(t.Sk θ hf).1,t.mn⟩;obtain⟨r',e1,e2⟩:=t.JA _ hR hL (λ_ z=>by cases z) m r;refine⟨r',e1,?_⟩;clear e1
 induction e2 with
 |nil=>rfl
 |cons h _ ih=>rw[map_cons,map_cons,h,ih]
structure Gh(U:List P):Prop where
 key:∀F∈U,keyOk F=true
 kd:∀F∈U,Ak F=true
 cl:∀x r,P.tup (x::r)∈U->∀q∈r,q∈U
 ar:∀ps,P.tup ps∈U->ps.length<=10
 dp:∀F∈U,F.depth<=8
 len:U.length<=2000
theorem Gh.lt{U:List P}(h:Gh U):U.length < big:=by have:=h.len;unfold big;lia
theorem VY{a b:P}(ha:Ak a=true)(hb:Ak b=true)(da:a.depth<=60)(db:b.depth<=60):Gz a b=some (decide (a=b)):=by
 unfold Gz;rw[(Ea a ha).2 b hb,decide_eq_true da,decide_eq_true db];rfl
theorem EB{cond:Env->Res Bool}{elt:Env->Res C}{F:P->P}{J:Env->Prop}:∀(xs acc:List P) (β:Env),(∀x∈xs,∀β,J β->∃β1 β',Dp g x β=some β1/\cond β1= .ok true β1/\elt β1= .ok (.p (F x)) β'/\J β')->J β->∃β',J β'/\CW g [] cond elt xs acc β= .ok (acc++xs.map F) β'
 |[],acc,β,_,h=>⟨β,h,by rw[map_nil,append_nil];rfl⟩
 | x::xs,acc,β,hs,h=>by
   obtain⟨β1,β',e1,e2,e3,h'⟩:=hs x mS β h;obtain⟨β2,q1,q2⟩:=EB xs (acc++[F x]) β' (λy hy=>hs y (mC hy)) h';refine⟨β2,q1,?_⟩;rw[Fy rfl e1 e2 e3];rw[q2,map_cons,append_assoc];rfl
theorem Cr{cf:CF}{mt:MT}{j:Nat}{c:C}(hj:A8 ρ j=some c):Ad cf mt [.var j] ρ= .ok [.slot j] ρ:=by
 rw[BL,Jp,hj];simp[DD]
def ch(L:P->P):P->List P
 |.tup (_::r)=>r.map L
 |_=>[]
end Iv
namespace Lk03
open Iv PySem L2
variable{cf:CF}
theorem Fx{f i:Nat}(ts:List T)(h:A8 ρ i=some (Aj A))(h1:List.lookup m [(Bs,B.AB A)]=none)(h2:mt.m 2 m=some f):ev cf mt (.C5 m i ts) ρ=(Ad cf mt ts ρ).bind λhs ρ=>AY cf f (.slot i::hs) ρ:=by
 rw[Nj,h];unfold Aj;dsimp only;rw[h1,h2]
theorem Nk{i:Nat}(ts:List T)(h:A8 ρ i=some (Aj A)):ev cf mt (.C5 "leader_of" i ts) ρ=(Ad cf mt ts ρ).bind λhs ρ=>AY cf 16 (.slot i::hs) ρ:=Fx ts h rfl (by kernel_rfl)
theorem R1{i:Nat}(ts:List T)(h:A8 ρ i=some (Aj A)):ev cf mt (.C5 "parts_of" i ts) ρ=(Ad cf mt ts ρ).bind λhs ρ=>AY cf 17 (.slot i::hs) ρ:=Fx ts h rfl (by kernel_rfl)
theorem M9{i:Nat}(ts:List T)(h:A8 ρ i=some (Aj A)):ev cf mt (.C5 {cps:=#[106,111,105,110,95,97,108,108]} i ts) ρ=(Ad cf mt ts ρ).bind λhs ρ=>AY cf 18 (.slot i::hs) ρ:=Fx ts h rfl (by kernel_rfl)
theorem Ky{i:Nat}(ts:List T)(h:A8 ρ i=some (Aj A)):ev cf mt (.C5 {cps:=#[106,111,105,110,95,111,112,101,110]} i ts) ρ=(Ad cf mt ts ρ).bind λhs ρ=>AY cf 19 (.slot i::hs) ρ:=Fx ts h rfl (by kernel_rfl)
variable{j:Nat}{L:Iv.P->Iv.P}{F:Iv.P}
theorem Jg{k i:Nat}{ρ:Iv.Env}(h:Gr U A L)(hU:Gh U)(hF:F∈U)(hi:A8 ρ i=some (Aj A))(hj:A8 ρ j=some (.p F)):
 ∃A',Gr U A' L/\free A' U=free A U/\L F∈U/\ev (A0 fns mt A6 (k+1)) mt (.C5 "leader_of" i [.var j]) ρ= .ok (.p (L F)) (ρ.set i (some (Aj A'))):=by
 obtain⟨A',q1,q2,q3,q4⟩:=Ig (k:=k) h hU.key hU.lt hF;refine⟨A',q1,q2,q3,?_⟩;rw[Nk _ hi,Cr hj,Res.A5];exact CH hi rfl (by show((A8 ρ j).bind _)=_;rw[hj];rfl) (λc hc=>by rw[mE hc];rfl) q4 rfl
theorem Q2{k:Nat}{X:Iv.P}(h:Gr U A L)(hU:Gh U)(hX:X∈U):
 ∃A',Gr U A' L/\free A' U=free A U/\A0 fns mt A6 (k+2) 17 [Aj A,.p X]= .ok (.lst (ch L X)) [some (Aj A'),sP X]:=by
 have hk:=hU.kd X hX;cases X with
 |int i=>
   refine⟨A,h,rfl,?_⟩
   have e2:execs (A0 fns mt A6 (k + 1)) mt A6 GX [some (Aj A),sP (.int i)]= .ok (.ret (.lst (ch L (.int i)))) [some (Aj A),sP (.int i)]:=by
    unfold GX ch;simp! [Ab,Be]
   rw[Ar YS rfl e2];rfl
 |tup ps=>
   obtain⟨x,r,rfl,hr⟩:=AJ hk;have hcl:=hU.cl _ _ hX
   let J:Iv.Env->Prop:=λβ=>∃y A',Gr U A' L/\free A' U=free A U/\β=[none,y,some (Aj A')]
   obtain⟨β',⟨y,A',j1,j2,rfl⟩,e⟩:=EB (g:=.nm 1) (cond:=Eh (A0 fns mt A6 (k + 1)) mt []) (elt:=ev (A0 fns mt A6 (k + 1)) mt (.C5 "leader_of" 2 [.var 1])) (F:=L) (J:=J) r [] [none,none,some (Aj A)] (λq hq β ⟨y,A1,j1,j2,hβ⟩=>by
    subst hβ;obtain⟨A2,q1,q2,q3,q4⟩:=Jg (k:=k) (i:=2) (j:=1) (ρ:=[none,sP q,some (Aj A1)]) j1 hU (hcl q hq) rfl rfl
    exact⟨_,_,rfl,BF _,q4,sP q,A2,q1,by lia,rfl⟩) ⟨none,A,h,rfl,rfl⟩
   refine⟨A',j1,j2,?_⟩;have hcut:cut (Iv.P.str x::r) (some 1) none=r:=Cy _;have hbig:r.length<=big:=by have:=hU.ar _ hX;rw[lC]at this;unfold big;lia
   have ec:ev (A0 fns mt A6 (k + 1)) mt (T.comp (Tg.nm 1) (IK.op) [T.prim (O.Gn true false) [T.var 1,T.cst (P.int 1)]] [] (T.C5 "leader_of" 2 [T.var 1]) [none,none,some 0]) [some (Aj A),sP (.tup (.str x::r))]= .ok (.lst (r.map L)) [some (Aj A'),sP (.tup (.str x::r))]:=by
    rw[Cb];rw[nil_append]at e;have hb:As (By [none,none,some 0] [some (Aj A),sP (.tup (.str x::r))]) [none,none,some 0] [none,y,some (Aj A')]=[some (Aj A'),sP (.tup (.str x::r))]:=rfl;simp! [IK.ok,Ab,Du,E4,hcut,Dd,Ae,Dq,A9,Br,B8,guards,hbig,AR,e,hb,Tg.slots]
   have e2:execs (A0 fns mt A6 (k + 1)) mt A6 GX [some (Aj A),sP (.tup (.str x::r))]= .ok (.ret (.lst (ch L (.tup (.str x::r))))) [some (Aj A'),sP (.tup (.str x::r))]:=by
    unfold GX ch;simp! [Ab,Be,ec]
   rw[Ar YS rfl e2];rfl
 |_=>unfold Ak at hk;cases hk
theorem K8{k i:Nat}{ρ:Iv.Env}(h:Gr U A L)(hU:Gh U)(hF:F∈U)(hi:A8 ρ i=some (Aj A))(hj:A8 ρ j=some (.p F)):
 ∃A',Gr U A' L/\free A' U=free A U/\ev (A0 fns mt A6 (k+2)) mt (.C5 "parts_of" i [.var j]) ρ= .ok (.lst (ch L F)) (ρ.set i (some (Aj A'))):=by
 obtain⟨A',q1,q2,q4⟩:=Q2 (k:=k) h hU hF;refine⟨A',q1,q2,?_⟩;rw[R1 _ hi,Cr hj,Res.A5];exact CH hi rfl (by show((A8 ρ j).bind _)=_;rw[hj];rfl) (λc hc=>by rw[mE hc];rfl) q4 rfl
def under(X Y:Iv.P):Iv.P×Iv.P:=match X,Y with
 |.int i,.tup ps=>(.int i,.tup ps)
 |.int i,.int j=>if j < i then(.int i,.int j)else(.int j,.int i)
 |X,Y=>(Y,X)
theorem Jh{k:Nat}{A:List (Iv.P×Iv.P)}(hx:Ak X=true)(hy:Ak Y=true)(ho:(∃i,X= .int i)\/∃i,Y= .int i)(kx:keyOk X=true)(ky:keyOk Y=true)(hA:A.length < big):A0 fns mt A6 (k + 1) 19 [Aj A,.p X,.p Y]= .ok (.p .AI) [some (Aj (dput A (under X Y).1 (under X Y).2)),sP X,sP Y]:=by
 have e2:execs (A0 fns mt A6 k) mt A6 LW [some (Aj A),sP X,sP Y]= .ok .nx [some (Aj (dput A (under X Y).1 (under X Y).2)),sP X,sP Y]:=by
  unfold LW;cases X with
  |int i=>
    cases Y with
    |int j=>
      unfold under
      by_cases hij:j < i
      .simp! [AX,Bz,Aj,Ab,Be,AA,JL,hij,kx,ky,C3,Eb,BQ,E6,hA,Iv.Bg]
      .simp! [AX,Bz,Aj,Ab,Be,AA,JL,hij,kx,ky,C3,Eb,BQ,E6,hA,Iv.Bg]
    |tup qs=>unfold under;simp! [AX,Bz,Aj,Ab,Be,AA,JL,kx,ky,C3,Eb,BQ,E6,hA,Iv.Bg]
    |_=>unfold Ak at hy;cases hy
  |tup ps=>
    obtain⟨j,rfl⟩:∃i,Y= .int i:=ho.resolve_left λ⟨i,z⟩=>by cases z
    unfold under;simp! [AX,Bz,Aj,Ab,Be,AA,JL,kx,ky,C3,Eb,BQ,E6,hA,Iv.Bg]
  |_=>unfold Ak at hx;cases hx
 rw[NA fE rfl e2];rfl
end Lk03
namespace Iv
open PySem
def enc(q:P×P):P:=.tup [q.1,q.2]
theorem Jv:∀(a b:List P),Lh a b=(a.zip b).map enc
 |[],_=>rfl
 |_::_,[]=>rfl
 | x::a,y::b=>by
   have:=Jv a b;unfold Lh at this ⊢;rw[List.zipWith_cons_cons,zip_cons_cons,map_cons,this];rfl
variable{cf:CF}{mt:MT}
variable{ss:List S}
theorem CT(e:exec cf mt A6 s ρ= .ok .nx ρ'):execs cf mt A6 (s::ss) ρ=execs cf mt A6 ss ρ':=by
 rw[Kx];dsimp only;rw[e];rfl
theorem AG{i:Nat}{ρ':Env}(e:ev cf mt t ρ= .ok c ρ'):execs cf mt A6 (.asg i t::ss) ρ=execs cf mt A6 ss (ρ'.set i (some c)):=CT (by rw[ND,e];rfl)
end Iv
namespace Lk03
open Iv PySem
theorem OW(X Y:Iv.P):((under X Y).1=X/\(under X Y).2=Y)\/((under X Y).1=Y/\(under X Y).2=X):=by
 unfold under;split
 .exact .inl ⟨rfl,rfl⟩
 .split
  .exact .inl ⟨rfl,rfl⟩
  .exact .inr ⟨rfl,rfl⟩
 .exact .inr ⟨rfl,rfl⟩
theorem NO(hx:Ak X=true)(hy:Ak Y=true)(ho:(∃i,X= .int i)\/∃i,Y= .int i):∃i,(under X Y).1= .int i:=by
 cases X with
 |int i=>
   cases Y with
   |int j=>unfold under;dsimp only;split<;>exact⟨_,rfl⟩
   |tup qs=>exact⟨i,rfl⟩
   |_=>unfold Ak at hy;cases hy
 |tup ps=>
   obtain⟨j,rfl⟩:∃i,Y= .int i:=ho.resolve_left λ⟨i,z⟩=>by cases z
   exact⟨j,rfl⟩
 |_=>unfold Ak at hx;cases hx
theorem OX(hx:Ak X=true)(hy:Ak Y=true):∀j,(under X Y).2= .int j->∃i,(under X Y).1= .int i/\j<=i:=by
 intro j h;cases X with
 |int i=>
   cases Y with
   |int k=>
     unfold under at h ⊢;dsimp only at h ⊢;split at h
     .rename_i hk;rw[iP hk];injection h with h
      exact⟨i,rfl,by lia⟩
     .rename_i hk;rw[iN hk];injection h with h
      exact⟨k,rfl,by lia⟩
   |tup qs=>cases h
   |_=>unfold Ak at hy;cases hy
 |tup ps=>cases h
 |_=>unfold Ak at hx;cases hx
variable{L:Iv.P->Iv.P}
theorem Ko{k i:Nat}{t:T}{F:Iv.P}{ρ:Iv.Env}(h:Gr U A L)(hU:Gh U)(hF:F∈U)(hi:A8 ρ i=some (Aj A))(ht:Ad (A0 fns mt A6 (k + 1)) mt [t] ρ= .ok [.Bt (.p F)] ρ):
 ∃A',Gr U A' L/\free A' U=free A U/\L F∈U/\ev (A0 fns mt A6 (k+1)) mt (.C5 "leader_of" i [t]) ρ= .ok (.p (L F)) (ρ.set i (some (Aj A'))):=by
 obtain⟨A',q1,q2,q3,q4⟩:=Ig (k:=k) h hU.key hU.lt hF;refine⟨A',q1,q2,q3,?_⟩;rw[Nk _ hi,ht,Res.A5];exact CH hi rfl rfl (λc hc=>by rw[mE hc];rfl) q4 rfl
def bK:T:=T.prim (O.list IK.zip) [T.prim (O.Gn true false) [T.var 4,T.cst (P.int 1)],T.prim (O.Gn true false) [T.var 5,T.cst (P.int 1)]]
def eh:List S:=[S.E5 (T.fld 0 Bs) (T.var 4) (T.var 5),S.expr (T.FK MO.extend 2 [bK])]
noncomputable def bL:S:=S.ifs (T.or (T.prim (O.FC Ty.int) [T.var 4]) (T.prim (O.FC Ty.int) [T.var 5]))
 [S.expr (T.C5 {cps:=#[106,111,105,110,95,111,112,101,110]} 0 [T.var 4,T.var 5])]
 [S.ifs (T.and (T.prim O.eq [T.prim O.idx [T.var 4,T.cst (P.int 0)],T.prim O.idx [T.var 5,T.cst (P.int 0)]]) (T.prim O.eq [T.prim O.len [T.var 4],T.prim O.len [T.var 5]]))
  eh [S.ret (T.cst (P.bl false))]]
def YL:List S:=[S.ifs (T.prim O.eq [T.var 4,T.var 5]) [S.cnt] [],bL]
def U7:List S:=S.asg 3 (T.FK MO.pop 2 [])::
    S.asg 4 (T.C5 "leader_of" 0 [T.prim O.idx [T.var 3,T.cst (P.int 0)]])::
    S.asg 5 (T.C5 "leader_of" 0 [T.prim O.idx [T.var 3,T.cst (P.int 1)]])::YL
theorem YR:fns[18]? =some ⟨2,6,[S.asg 2 (T.prim (O.list IK.op) [T.var 1]),S.Lc (T.var 2) U7,S.ret (T.cst (P.bl true))]⟩:=by kernel_rfl
variable{prs wl:List (Iv.P×Iv.P)}{pc:C}{y3 y4 y5:Option C}
theorem U6{k:Nat}{a b:Iv.P}(hU:Gh U)(t:Todo U prs A L (wl++[(a,b)])):
 ∃A',Gr U A' L/\free A' U=free A U/\L a∈U/\L b∈U/\execs (A0 fns mt A6 (k+1)) mt A6 U7 [some (Aj A),some pc,sL ((wl++[(a,b)]).map enc),y3,y4,y5]=execs (A0 fns mt A6 (k+1)) mt A6 YL [some (Aj A'),some pc,sL (wl.map enc),sP (enc (a,b)),sP (L a),sP (L b)]:=by
 obtain⟨ha,hb⟩:=t.F5 (a,b) (by simp)
 have s1:exec (A0 fns mt A6 (k + 1)) mt A6 (S.asg 3 (T.FK MO.pop 2 [])) [some (Aj A),some pc,sL ((wl++[(a,b)]).map enc),y3,y4,y5]= .ok .nx [some (Aj A),some pc,sL (wl.map enc),sP (enc (a,b)),y4,y5]:=by
  simp! [Cu,Je]
 obtain⟨A1,g1,g2,g3,e1⟩:=Ko (k:=k) (i:=0) (t:=T.prim O.idx [T.var 3,T.cst (P.int 0)]) (ρ:=[some (Aj A),some pc,sL (wl.map enc),sP (enc (a,b)),y4,y5]) t.gr hU ha rfl (by unfold enc;simp! [Ab,BB,Gs]);obtain⟨A2,h1,h2,h3,e2⟩:=Ko (k:=k) (i:=0) (t:=T.prim O.idx [T.var 3,T.cst (P.int 1)]) (ρ:=[some (Aj A1),some pc,sL (wl.map enc),sP (enc (a,b)),sP (L a),y5]) g1 hU hb rfl (by unfold enc;simp! [Ab,BB,Gs]);refine⟨A2,h1,by lia,g3,h3,?_⟩;unfold U7;rw[CT s1,AG e1];exact AG e2
theorem Ue(v:Iv.Env->Res C)(ρ:Iv.Env):BG bK v ρ=(v ρ).bind λc ρ=>.ok (.Bt c) ρ:=rfl
theorem XI{cf:CF}{mt:MT}(hz:O.ok (.list .zip)=true){r s:List Iv.P}{c0 c1 c2 c3:Option C}:ev cf mt bK [c0,c1,c2,c3,sP (.tup (.str x::r)),sP (.tup (.str y::s))]= .ok (.lst (Lh r s)) [c0,c1,c2,c3,sP (.tup (.str x::r)),sP (.tup (.str y::s))]:=by
 have ht1:cut (Iv.P.str x::r) (some 1) none=r:=Cy _;have ht2:cut (Iv.P.str y::s) (some 1) none=s:=Cy _;unfold bK;rw[Up,iP hz];simp! [Ab,Du,E4,ht1,ht2,Gp]
theorem Gy(h:Ak p=true):(∃i,p= .int i)\/∃x r,p= .tup (.str x::r)/\D8 r=true:=by
 cases p with
 |int i=>exact .inl ⟨i,rfl⟩
 |tup ps=>obtain⟨x,r,rfl,hr⟩:=AJ h;exact .inr ⟨x,r,rfl,hr⟩
 |_=>unfold Ak at h;cases h
theorem U4{k:Nat}(hz:O.ok (.list .zip)=true){a b:Iv.P}(hU:Gh U)(t:Todo U prs A L (wl++[(a,b)]))(hl:wl.length + 10<=big):
 (∃A' L' wl' fl z3 z4 z5,Todo U prs A' L' wl'/\free A' U*11+wl'.length < free A U*11+wl.length+1/\(fl= .nx\/fl= .cnt)/\execs (A0 fns mt A6 (k+1)) mt A6 U7 [some (Aj A),some pc,sL ((wl++[(a,b)]).map enc),y3,y4,y5]= .ok fl [some (Aj A'),some pc,sL (wl'.map enc),z3,z4,z5])\/
 (∃A' w z3 z4 z5,(∀θ,¬Fits θ prs)/\execs (A0 fns mt A6 (k+1)) mt A6 U7 [some (Aj A),some pc,sL ((wl++[(a,b)]).map enc),y3,y4,y5]= .ok (.ret (.p (.bl false))) [some (Aj A'),some pc,w,z3,z4,z5]):=by
 obtain⟨A1,g1,g2,ha,hb,e0⟩:=U6 (k:=k) (pc:=pc) (y3:=y3) (y4:=y4) (y5:=y5) hU t;have t1:=t.same g1;have ka:=hU.kd _ ha;have kb:=hU.kd _ hb;have heq:Gz (L a) (L b)=some (decide (L a=L b)):=VY ka kb (by have:=hU.dp _ ha;lia) (by have:=hU.dp _ hb;lia);have hA:A1.length < big:=by have:=g1.size;have:=hU.lt;lia
 by_cases hab:L a=L b
 .left;refine⟨A1,L,wl,.cnt,sP (enc (a,b)),sP (L a),sP (L b),t1.skip hab,by lia,.inr rfl,?_⟩;rw[e0];unfold YL;rw[decide_eq_true hab]at heq;simp! [Ab,AA,EK,heq]
 .rw [dF hab]at heq
  by_cases ho:(∃i,L a= .int i)\/∃i,L b= .int i
  .left;have hun:=OW (L a) (L b);obtain⟨i,hi⟩:=NO ka kb ho;have hX:(under (L a) (L b)).1∈U:=by rcases hun with⟨h,_⟩|⟨h,_⟩<;>rw[h]<;>assumption
   have hY:(under (L a) (L b)).2∈U:=by rcases hun with⟨_,h⟩|⟨_,h⟩<;>rw[h]<;>assumption
   obtain⟨t2,hf⟩:=t1.go (X:=(under (L a) (L b)).1) (Y:=(under (L a) (L b)).2) hab hX hY hun [] (λ_ h=>by cases h) (λ_ _ _ h=>by cases h) (λR _ _ m r z=>by rw[hi]at z;cases z) (OX ka kb);rw[append_nil]at t2;refine⟨_,_,wl,.nx,sP (enc (a,b)),sP (L a),sP (L b),t2,by lia,.inl rfl,?_⟩;rw[e0];have ej:=Jh (k:=k) ka kb ho (hU.key _ ha) (hU.key _ hb) hA
   have ec:ev (A0 fns mt A6 (k + 1)) mt (T.C5 {cps:=#[106,111,105,110,95,111,112,101,110]} 0 [T.var 4,T.var 5]) [some (Aj A1),some pc,sL (wl.map enc),sP (enc (a,b)),sP (L a),sP (L b)]= .ok (.p .AI) [some (Aj (dput A1 (under (L a) (L b)).1 (under (L a) (L b)).2)),some pc,sL (wl.map enc),sP (enc (a,b)),sP (L a),sP (L b)]:=by
    rw[Ky _ rfl];have:Ad (A0 fns mt A6 (k+1)) mt [T.var 4,T.var 5] [some (Aj A1),some pc,sL (wl.map enc),sP (enc (a,b)),sP (L a),sP (L b)]= .ok [.slot 4,.slot 5] [some (Aj A1),some pc,sL (wl.map enc),sP (enc (a,b)),sP (L a),sP (L b)]:=by simp! []
    rw[this,Res.A5]
    exact CH (i:=0) (cs:=[.p (L a),.p (L b)]) rfl rfl rfl (λc hc=>by
     rcases mK hc with z|z
     .rw[z];rfl
     .rw[mE z];rfl) ej rfl
   unfold YL bL;rcases ho with⟨i,hi⟩|⟨i,hi⟩
   .rw[hi]at heq ec ⊢;simp! [Ab,AA,EK,heq,Be,ec]
   .rw[hi]at heq ec ⊢;rcases Gy ka with⟨i2,hi2⟩|⟨x2,r2,hi2,_⟩
    .rw[hi2]at heq ec ⊢;simp! [Ab,AA,EK,heq,Be,ec]
    .rw[hi2]at heq ec ⊢;simp! [Ab,AA,EK,heq,Be,ec]
  .obtain⟨x,r,hla,_⟩:=(Gy ka).resolve_left λz=>ho (.inl z)
   obtain⟨y,s,hlb,_⟩:=(Gy kb).resolve_left λz=>ho (.inr z)
   by_cases hm:x=y/\r.length=s.length
   .left;obtain⟨rfl,hrs⟩:=hm;have cla:=hU.cl _ _ (hla▸ha);have clb:=hU.cl _ _ (hlb▸hb);have har:=hU.ar _ (hla▸ha);rw[lC]at har
    obtain⟨t2,hf⟩:=t1.go (X:=L a) (Y:=L b) hab ha hb (.inl ⟨rfl,rfl⟩) (r.zip s) (λpr hp=>⟨cla _ (of_mem_zip hp).1,clb _ (of_mem_zip hp).2⟩) (λθ hθ=>by
     rw[hla,hlb]at hθ;exact(K2 hθ).2.2) (λR hR hp m q hz=>by
     rw[hla]at hz;cases hz
     exact⟨s,hlb,GY hrs hp⟩) (λj z=>by rw[hlb]at z;cases z)
    have hzl:(r.zip s).length<=9:=by rw[length_zip];lia
    refine⟨_,_,_,.nx,sP (enc (a,b)),sP (L a),sP (L b),t2,by rw[lA];lia,.inl rfl,?_⟩;rw[e0];have kka:=hU.key _ ha;have ht1:cut (Iv.P.str x::r) (some 1) none=r:=Cy _;have ht2:cut (Iv.P.str x::s) (some 1) none=s:=Cy _;have hex:wl.length+(Lh r s).length<=big:=by rw[Jv,lM];lia
    have hl2:Gz (.int ((r.length:Int)+1)) (.int ((s.length:Int)+1))=some true:=by rw[eq_int,hrs];simp
    have hs2:Gz (.str x) (.str x)=some true:=by rw[eq_str];simp
    rw[map_append,<-Jv];unfold YL bL eh;rw[hla,hlb]at heq ⊢;rw[hla]at kka;simp! [Ab,AA,EK,heq,Be,BB,Gs,FO,hl2,hs2,AX,Bz,Aj,C3,Eb,BQ,E6,hA,Iv.Bg,kka,Ue,XI hz,Cu,Fn,hex]
   .right;refine⟨A1,sL (wl.map enc),sP (enc (a,b)),sP (L a),sP (L b),λθ hθ=>?_,?_⟩
    .obtain⟨u1,u2⟩:=t1.Sk θ hθ;have h3:=Kw.mp (Ef.mp u2).2;rw[<-u1 a,<-u1 b,hla,hlb]at h3;obtain⟨q1,q2,_⟩:=K2 h3;cases q1;exact hm ⟨rfl,q2⟩
    .rw[e0];have hs2:Gz (.str x) (.str y)=some (decide (x=y)):=eq_str x y
     have hl2:Gz (.int ((r.length:Int) + 1)) (.int ((s.length:Int) + 1))=some (decide (r.length=s.length)):=by
      rw[eq_int]
      congr 1
      by_cases h:r.length=s.length
      .rw[h];simp
      .rw[dF h,dF (by lia)]
     unfold YL bL;rw[hla,hlb]at heq ⊢
     by_cases hx:x=y
     .have hr:¬r.length=s.length:=λz=>hm ⟨hx,z⟩
      rw[decide_eq_true hx]at hs2;rw[dF hr]at hl2;simp! [Ab,AA,EK,heq,Be,BB,Gs,FO,hl2,hs2]
     .rw[dF hx]at hs2;simp! [Ab,AA,EK,heq,Be,BB,Gs,FO,hs2]
theorem U5{k:Nat}(hz:O.ok (.list .zip)=true)(hU:Gh U):∀(n:Nat) (A wl:List (Iv.P×Iv.P)) (L:Iv.P->Iv.P) (y3 y4 y5:Option C),Todo U prs A L wl->free A U * 11 + wl.length<=n->n + 10<=big->
 (∃A' L' z3 z4 z5,Done U prs A' L'/\A6 (tv (A0 fns mt A6 (k+1)) mt (.var 2)) (execs (A0 fns mt A6 (k+1)) mt A6 U7) [some (Aj A),some pc,sL (wl.map enc),y3,y4,y5]= .ok .nx [some (Aj A'),some pc,sL [],z3,z4,z5])\/
 (∃A' w z3 z4 z5,(∀θ,¬Fits θ prs)/\A6 (tv (A0 fns mt A6 (k+1)) mt (.var 2)) (execs (A0 fns mt A6 (k+1)) mt A6 U7) [some (Aj A),some pc,sL (wl.map enc),y3,y4,y5]= .ok (.ret (.p (.bl false))) [some (Aj A'),some pc,w,z3,z4,z5]):=by
 intro n
 induction n using Nat.strongRecOn with
 |ind n ih=>
   intro A wl L y3 y4 y5 t hn hb;rcases List.eq_nil_or_concat wl with rfl|⟨wl,pr,rfl⟩
   .left;refine⟨A,L,y3,y4,y5,t.done,?_⟩;rw[B4,map_nil];simp! []
   .obtain⟨a,b⟩:=pr;rw[List.concat_eq_append]at t hn ⊢;rw[lA,lS]at hn
    have hc:tv (A0 fns mt A6 (k + 1)) mt (.var 2) [some (Aj A),some pc,sL ((wl++[(a,b)]).map enc),y3,y4,y5]= .ok true [some (Aj A),some pc,sL ((wl++[(a,b)]).map enc),y3,y4,y5]:=by
     simp! []
    rcases U4 (k:=k) (pc:=pc) (y3:=y3) (y4:=y4) (y5:=y5) hz hU t (by lia)with⟨A',L',wl',fl,z3,z4,z5,t',hm,hfl,e⟩|⟨A',w,z3,z4,z5,hθ,e⟩
    .have:=ih (free A' U*11+wl'.length) (by lia) A' wl' L' z3 z4 z5 t' (lR) (by lia);rw[B4,hc,Res.A5,iP rfl,e,Res.A5];rcases hfl with rfl|rfl
     .exact this
     .exact this
    .right;refine⟨A',w,z3,z4,z5,hθ,?_⟩;rw[B4,hc,Res.A5,iP rfl,e,Res.A5]
theorem Kp{k:Nat}(hz:O.ok (.list .zip)=true)(hU:Gh U)(hp:∀pr∈prs,pr.1∈U/\pr.2∈U)(hl:prs.length<=1000):
 (∃A L,Done U prs A L/\A0 fns mt A6 (k+2) 18 [Aj [],.lst (prs.map enc)]= .ok (.p (.bl true)) [some (Aj A),sL (prs.map enc)])\/
 (∃A,(∀θ,¬Fits θ prs)/\A0 fns mt A6 (k+2) 18 [Aj [],.lst (prs.map enc)]= .ok (.p (.bl false)) [some (Aj A),sL (prs.map enc)]):=by
 have hfr:free [] U<=U.length:=countP_le_length;have hlen:=hU.len;rcases U5 (k:=k) (pc:=.lst (prs.map enc)) hz hU (free [] U*11+prs.length) [] prs (λF=>F) none none none (Todo.start U prs hp) (lR) (by unfold big;lia)with⟨A',L',z3,z4,z5,hd,e⟩|⟨A',w,z3,z4,z5,hθ,e⟩
 .left;refine⟨A',L',hd,?_⟩
  have e2:execs (A0 fns mt A6 (k + 1)) mt A6 [S.asg 2 (T.prim (O.list IK.op) [T.var 1]),S.Lc (T.var 2) U7,S.ret (T.cst (P.bl true))] [some (Aj []),sL (prs.map enc),none,none,none,none]= .ok (.ret (.p (.bl true))) [some (Aj A'),sL (prs.map enc),sL [],z3,z4,z5]:=by
   simp! [G0,Ab,Lr,e]
  rw[Ar YR rfl e2];rfl
 .right;refine⟨A',hθ,?_⟩
  have e2:execs (A0 fns mt A6 (k + 1)) mt A6 [S.asg 2 (T.prim (O.list IK.op) [T.var 1]),S.Lc (T.var 2) U7,S.ret (T.cst (P.bl true))] [some (Aj []),sL (prs.map enc),none,none,none,none]= .ok (.ret (.p (.bl false))) [some (Aj A'),sL (prs.map enc),w,z3,z4,z5]:=by
   simp! [G0,Ab,Lr,e]
  rw[Ar YR rfl e2];rfl
end Lk03
namespace Iv
open PySem L2
def D4:List (P×List P)->List P->List P
 |[],p0=>p0
 |(Q0,pend)::r,p0=>pend++Q0::D4 r p0
inductive Bl(L:P->P)(D:List (P×P)):List (P×List P)->Option P->Prop
 |nil {up:Option P}:Bl L D [] up
 |cons {Q0:P} {pend:List P} {r:List (P×List P)} {up:Option P}:(∀e∈pend,e∈ch L Q0)->(∀e∈pend,e≠Q0/\e∉r.map (·.1))->(∀c∈ch L Q0,Ac D c=some (.bl true)\/c∈pend\/up=some c)->
  (∀u,up=some u->u∈ch L Q0)->Bl L D r (some Q0)->Bl L D ((Q0,pend)::r) up
variable{L:P->P}
theorem Bl.mono(h:∀F,Ac D F=some (.bl true)->Ac D' F=some (.bl true)){bl:List (P×List P)}{up:Option P}(b:Bl L D bl up):Bl L D' bl up:=by
 induction b with
 |nil=>exact .nil
 |cons a1 a2 a3 a4 _ ih=>exact .cons a1 a2 (λc hc=>(a3 c hc).imp (h c) id) a4 ih
variable{Q0:P}{pend:List P}
theorem Bl.pop{e:P}{r:List (P×List P)}(b:Bl L D ((Q0,e::pend)::r) none)(he:Ac D e=some (.bl true)):Bl L D ((Q0,pend)::r) none:=by
 cases b with
 |cons a1 a2 a3 a4 a5=>
   refine .cons (λx hx=>a1 x (mC hx)) (λx hx=>a2 x (mC hx)) (λc hc=>?_) a4 a5;rcases a3 c hc with z|z|z
   .exact .inl z
   .rcases mK z with z|z
    .rw[z];exact .inl he
    .exact .inr (.inl z)
   .exact .inr (.inr z)
theorem Bl.under{e:P}{r:List (P×List P)}(b:Bl L D ((Q0,e::pend)::r) none):Bl L D ((Q0,pend)::r) (some e):=by
 cases b with
 |cons a1 a2 a3 a4 a5=>
   refine .cons (λx hx=>a1 x (mC hx)) (λx hx=>a2 x (mC hx)) (λc hc=>?_) (λu hu=>?_) a5
   .rcases a3 c hc with z|z|z
    .exact .inl z
    .rcases mK z with z|z
     .rw[z];exact .inr (.inr rfl)
     .exact .inr (.inl z)
    .cases z
   .cases hu;exact a1 e mS
theorem Bl.up(b:Bl L D r (some Q0))(h:∀F,Ac D F=some (.bl true)->Ac D' F=some (.bl true))(hP:Ac D' Q0=some (.bl true)):Bl L D' r none:=by
 cases b with
 |nil=>exact .nil
 |cons a1 a2 a3 a4 a5=>
   refine .cons a1 a2 (λc hc=>?_) (λu hu=>by cases hu) (a5.mono h);rcases a3 c hc with z|z|z
   .exact .inl (h c z)
   .exact .inr (.inl z)
   .cases z;exact .inl hP
theorem Ci:∀{l:List P} {p:P},p∈l->(pre p).length<=(AU l).length
 | q::l,p,h=>by
   rw[Ap,lA];rcases mK h with e|h
   .subst e;lia
   .have:=Ci h;lia
def sz(θ:Sub)(X:P):Nat:=(pre (Ag θ X)).length
theorem Nx(hu:Rr θ L){X c:P}(h:c∈ch L X):sz θ c < sz θ X:=by
 cases X with
 |tup ps=>
   cases ps with
   |nil=>cases h
   |cons x r=>
     obtain⟨p,hp,e⟩:=mem_map.mp (show c∈r.map L from h);unfold sz;rw[<-e,hu p,Bh,AE,B1,lC];have:=Ci (mem_map_of_mem (f:=Ag θ) hp);show _ < (AU (r.map (Ag θ))).length+1
     lia
 |_=>cases h
theorem Bl.dP(hu:Rr θ L):∀{bl:List (P×List P)} {u:P},Bl L D bl (some u)->∀Q0∈bl.map (·.1),sz θ u < sz θ Q0
 |[],_,_=>λQ0 hP=>by cases hP
 | (Q,pend)::r,u,.cons a1 a2 a3 a4 a5=>λQ0 hP=>by
   have h1:=Nx hu (a4 u rfl);rcases mK hP with e|hP
   .rw[e];exact h1
   .have:=Bl.dP hu a5 Q0 hP
    lia
inductive Yi(L:P->P)(roots:List P):P->Prop where
 |root {F:P} (h:F∈roots):Yi L roots F
 |part {F c:P} (h:Yi L roots F) (hc:c∈ch L F):Yi L roots c
structure OO(L:P->P)(D:List (P×P))(ord:List P)(bl:List (P×List P))(p0:List P)(U roots:List P):Prop where
 gone:∀F,Ac D F=some (.bl false)↔F∈bl.map (·.1)
 tr:∀F,Ac D F=some (.bl true)↔F∈ord
 val:∀F v,Ac D F=some v->v= .bl true\/v= .bl false
 dv:Bl L D bl none
 nd:(bl.map (·.1)).Nodup
 Kb:∀(i:Nat) (X:P),ord[i]? =some X->∀c∈ch L X,c∈ord.take i
 Kc:ord.Nodup
 F5:(∀F∈D4 bl p0,F∈U/\Yi L roots F)/\∀F∈ord,F∈U/\Yi L roots F
 MI:∀F∈roots,F∈ord\/F∈D4 bl p0
 size:D.length+free D U<=U.length
variable{ord:List P}
theorem Jx{bl:List (P×List P)}{roots:List P}{X:P}{st:List P}(h:OO L D ord bl p0 U roots)(e:D4 bl p0=X::st)(ht:Ac D X=some (.bl true)):∃bl' p0',D4 bl' p0'=st/\OO L D ord bl' p0' U roots:=by
 cases bl with
 |nil=>
   have e:p0=X::st:=e;subst e;refine⟨[],st,rfl,h.gone,h.tr,h.val,.nil,h.nd,h.Kb,h.Kc,⟨λF hF=>h.F5.1 F (mC hF),h.F5.2⟩,λF hF=>?_,h.size⟩;rcases h.MI F hF with z|z
   .exact .inl z
   .rcases mK z with z|z
    .rw[z];exact .inl ((h.tr X).mp ht)
    .exact .inr z
 |cons b r=>
   obtain⟨Q0,pend⟩:=b;cases pend with
   |nil=>
     have e:Q0::D4 r p0=X::st:=e;cases e;have:=(h.gone X).mpr mS;rw[ht]at this;cases this
   |cons y pend=>
     have e:y::(pend++Q0::D4 r p0)=X::st:=e;cases e;refine⟨(Q0,pend)::r,p0,rfl,h.gone,h.tr,h.val,h.dv.pop ht,h.nd,h.Kb,h.Kc,⟨λF hF=>h.F5.1 F (mC hF),h.F5.2⟩,λF hF=>?_,h.size⟩;rcases h.MI F hF with z|z
     .exact .inl z
     .rcases mK (show F∈X::(pend++Q0::D4 r p0)from z)with z|z
      .rw[z];exact .inl ((h.tr X).mp ht)
      .exact .inr z
theorem Me{bl:List (P×List P)}{roots:List P}{X:P}{st:List P}(h:OO L D ord bl p0 U roots)(e:D4 bl p0=X::st)(hf:Ac D X=some (.bl false)):
 ∃bl' p0',D4 bl' p0'=st/\OO L (dput D X (.bl true)) (ord++[X]) bl' p0' U roots:=by
 have hXb:=(h.gone X).mp hf;cases bl with
 |nil=>cases hXb
 |cons b r=>
   obtain⟨Q0,pend⟩:=b;have hb:=h.dv;cases hb with
   |cons a1 a2 a3 a4 a5=>
     cases pend with
     |cons z pend=>
       have e:z::(pend++Q0::D4 r p0)=X::st:=e;cases e;have:=a2 X mS;rcases mK hXb with q|q
       .exact absurd q this.1
       .exact absurd q this.2
     |nil =>
       have e:Q0::D4 r p0=X::st:=e;cases e;have lk:∀F,Ac (dput D X (.bl true)) F=if F=X then some (.bl true)else Ac D F:=λF=>Aq _ _ _ _
       have hnr:X∉r.map (·.1):=(nodup_cons.mp h.nd).1
       have hXo:X∉ord:=λhm=>by
        have:=(h.tr X).mpr hm;rw[hf]at this;cases this
       refine⟨r,p0,rfl,λF=>?_,λF=>?_,λF v hv=>?_,a5.up (λF hF=>by rw[lk];split;rfl;exact hF) (by rw[lk,iP rfl]),(nodup_cons.mp h.nd).2,λi Y hi c hc=>?_,?_,⟨λF hF=>h.F5.1 F (mC hF),λF hF=>?_⟩,λF hF=>?_,?_⟩
       .rw [lk]
        by_cases hF:F=X
        .rw[iP hF,hF];exact⟨λz=>(by cases z),λz=>absurd z hnr⟩
        .rw[iN hF,h.gone F];constructor
         .intro z;rcases mK z with z|z
          .exact absurd z hF
          .exact z
         .intro z;exact mC z
       .rw[lk]
        by_cases hF:F=X
        .rw[iP hF,hF];exact⟨λ_=>by simp,λ_=>rfl⟩
        .rw[iN hF,h.tr F];simp[hF]
       .rw[lk]at hv
        by_cases hF:F=X
        .rw[iP hF]at hv;cases hv;exact .inl rfl
        .rw[iN hF]at hv;exact h.val F v hv
       .by_cases hlt:i < ord.length
        .rw[List.getElem?_append_left hlt]at hi;have:=h.Kb i Y hi c hc;rw[List.take_append_of_le_length (by lia)];exact this
        .have hi2:i=ord.length:=by
          obtain⟨hk,_⟩:=List.getElem?_eq_some_iff.mp hi;rw[lA,lS]at hk
          lia
         subst hi2;rw[List.getElem?_append_right (lR),Nat.sub_self]at hi;have:Y=X:=(Option.some.inj hi).symm;subst this;rw[List.take_append_of_le_length (lR),take_length];rcases a3 c hc with z|z|z
         .exact(h.tr c).mp z
         .cases z
         .cases z
       .rw[nodup_append];refine⟨h.Kc,by simp,λa ha b hb=>?_⟩;rw[mE hb];intro z;exact hXo (z▸ha)
       .rcases mem_append.mp hF with z|z
        .exact h.F5.2 F z
        .rw[mE z];exact h.F5.1 X mS
       .rcases h.MI F hF with z|z
        .exact .inl (mL z)
        .rcases mK (show F∈X::D4 r p0 from z)with z|z
         .rw[z];exact .inl (by simp)
         .exact .inr z
       .have hk:=CV (v:=.bl true) hf;have hfr:free (dput D X (.bl true)) U=free D U:=by unfold free;congr 1;exact funext hk
        rw[Di hf,hfr];exact h.size
theorem Nq{bl:List (P×List P)}{roots:List P}{X:P}{st:List P}(h:OO L D ord bl p0 U roots)(e:D4 bl p0=X::st)(hn:Ac D X=none):
 ∃bl' p0',D4 bl' p0'=st/\Bl L D bl' (some X)/\bl'.map (·.1)=bl.map (·.1):=by
 cases bl with
 |nil=>
   have e:p0=X::st:=e;subst e;exact⟨[],st,rfl,.nil,rfl⟩
 |cons b r=>
   obtain⟨Q0,pend⟩:=b;cases pend with
   |nil=>
     have e:Q0::D4 r p0=X::st:=e;cases e;have:=(h.gone X).mpr mS;rw[hn]at this;cases this
   |cons y pend=>
     have e:y::(pend++Q0::D4 r p0)=X::st:=e;cases e;exact⟨(Q0,pend)::r,p0,rfl,h.dv.under,rfl⟩
theorem OB{bl:List (P×List P)}{roots:List P}{X c:P}{st:List P}(h:OO L D ord bl p0 U roots)(e:D4 bl p0=X::st)(hn:Ac D X=none)(hc:c∈ch L X)
 (hf:Ac (dput D X (.bl false)) c=some (.bl false))(θ:List (P×P)):¬Rr θ L:=by
 intro hu;obtain⟨bl',p0',_,hb,hm⟩:=Nq h e hn;have h1:=Nx hu hc;rw[Aq]at hf
 by_cases hcX:c=X
 .rw[hcX]at h1;lia
 .rw[iN hcX]at hf;have:=(h.gone c).mp hf;rw[<-hm]at this;have:=hb.dP hu c this
  lia
theorem OA{bl:List (P×List P)}{roots:List P}{X:P}{st pu:List P}(h:OO L D ord bl p0 U roots)(e:D4 bl p0=X::st)(hn:Ac D X=none)
 (hpu:∀c∈pu,c∈ch L X/\Ac (dput D X (.bl false)) c=none)(hall:∀c∈ch L X,Ac (dput D X (.bl false)) c=some (.bl true)\/c∈pu)(hchU:∀c∈ch L X,c∈U):
 ∃bl' p0',D4 bl' p0'=pu.reverse++X::st/\OO L (dput D X (.bl false)) ord bl' p0' U roots:=by
 obtain⟨bl',p0',hfl,hb,hm⟩:=Nq h e hn;have lk:∀F,Ac (dput D X (.bl false)) F=if F=X then some (.bl false)else Ac D F:=λF=>Aq _ _ _ _
 have htr:∀F,Ac D F=some (.bl true)->Ac (dput D X (.bl false)) F=some (.bl true):=λF hF=>by
  rw[lk,iN (λz=>by rw[z,hn]at hF;cases hF)];exact hF
 obtain⟨hXU,hXr⟩:=h.F5.1 X (by rw[e];exact mS)
 have hXn:X∉bl.map (·.1):=λz=>by
  have:=(h.gone X).mpr z;rw[hn]at this;cases this
 refine⟨(X,pu.reverse)::bl',p0',by show pu.reverse++X::D4 bl' p0'=_;rw[hfl],λF=>?_,λF=>?_,λF v hv=>?_,.cons (λx hx=>(hpu x (mem_reverse.mp hx)).1) (λx hx=>?_) (λc hc=>?_) (λu hu=>by cases hu) (hb.mono htr),?_,h.Kb,h.Kc,⟨λF hF=>?_,h.F5.2⟩,λF hF=>?_,?_⟩
 .rw[lk,map_cons,hm]
  by_cases hF:F=X
  .rw[iP hF,hF];exact⟨λ_=>mS,λ_=>rfl⟩
  .rw[iN hF,h.gone F];exact⟨λz=>mC z,λz=>(mK z).resolve_left hF⟩
 .rw[lk]
  by_cases hF:F=X
  .rw[iP hF,hF];refine⟨λz=>(by cases z),λz=>?_⟩;have:=(h.tr X).mpr z;rw[hn]at this;cases this
  .rw[iN hF];exact h.tr F
 .rw[lk]at hv
  by_cases hF:F=X
  .rw[iP hF]at hv;cases hv;exact .inr rfl
  .rw[iN hF]at hv;exact h.val F v hv
 .have hx2:=(hpu x (mem_reverse.mp hx)).2;rw[lk]at hx2
  by_cases hxX:x=X
  .rw[iP hxX]at hx2;cases hx2
  .rw[iN hxX]at hx2;refine⟨hxX,λz=>?_⟩;rw[hm]at z;have:=(h.gone x).mpr z;rw[hx2]at this;cases this
 .rcases hall c hc with z|z
  .exact .inl z
  .exact .inr (.inl (mem_reverse.mpr z))
 .rw[map_cons,hm];exact nodup_cons.mpr ⟨hXn,h.nd⟩
 .rcases mem_append.mp (show F∈pu.reverse++X::D4 bl' p0' from hF)with z|z
  .have hc:=(hpu F (mem_reverse.mp z)).1;exact⟨hchU F hc,.part hXr hc⟩
  .rw[hfl]at z;exact h.F5.1 F (by rw[e];exact z)
 .rcases h.MI F hF with z|z
  .exact .inl z
  .rw[e]at z;refine .inr (mR ?_);rw[hfl];exact z
 .have h1:=CU D X (.bl false);have h2:=Hq (v:=.bl false) hn hXU;have:=h.size
  lia
theorem Oz(L:P->P)(U roots p0:List P)(h1:∀F∈roots,F∈p0)(h2:∀F∈p0,F∈U/\F∈roots):OO L [] [] [] p0 U roots:=
 ⟨λF=>⟨λz=>(by cases z),λz=>(by cases z)⟩,λF=>⟨λz=>(by cases z),λz=>(by cases z)⟩,λF v z=>(by cases z),.nil,nodup_nil,λi X z=>(by simp at z),nodup_nil,⟨λF hF=>⟨(h2 F hF).1,.root (h2 F hF).2⟩,λF z=>(by cases z)⟩,λF hF=>.inr (h1 F hF),by
   show 0+free [] U<=U.length;have:free [] U<=U.length:=countP_le_length
   lia⟩
end Iv
namespace Iv
open PySem
variable{L:P->P}
theorem Gr.F5(h:Gr U A L)(hU:∀F∈U,keyOk F=true){F:P}(hF:F∈U):L F∈U:=by
 obtain⟨rk,hu⟩:=h.uf;obtain⟨l,_,_,_,_,q⟩:=hu.chain hU _ F rfl hF;exact q
theorem Mm(h:Gr U A L)(hU:Gh U){X:P}(hX:X∈U):∀c∈ch L X,c∈U:=λc hc=>by
 cases X with
 |tup ps=>
   cases ps with
   |nil=>cases hc
   |cons x r=>
     obtain⟨p,hp,rfl⟩:=mem_map.mp (show c∈r.map L from hc);exact h.F5 hU.key (hU.cl _ _ hX p hp)
 |_=>cases hc
theorem Ml(hU:Gh U){X:P}(hX:X∈U):(ch L X).length<=9:=by
 cases X with
 |tup ps=>
   cases ps with
   |nil=>exact Nat.zero_le _
   |cons x r=>
     have:=hU.ar _ hX;show(r.map L).length<=9;rw[lC]at this;rw[lM]
     lia
 |_=>exact Nat.zero_le _
structure Ord(L:P->P)(ord U roots:List P):Prop where
 ok:∀(i:Nat) (X:P),ord[i]? =some X->∀c∈ch L X,c∈ord.take i
 nd:ord.Nodup
 F5:∀F∈ord,F∈U
 MI:∀F∈roots,F∈ord
 fe:∀F∈ord,Yi L roots F
theorem QI(l:List P)(X:P):BB (.lst (l++[X])) (.p (.int (-1)))=some (.p X):=by
 unfold BB C.nf;dsimp only
 have:Gs (l++[X]).length (-1)=some l.length:=by
  unfold Gs;rw[lA,lS,iN (by lia),iP (by lia)]
  congr 1
  lia
 rw[this];simp
end Iv
namespace Lk03
open Iv PySem
def Lf:List S:=[S.ifs (T.prim O.ai [T.var 6,T.var 3]) [S.expr (T.FK MO.append 4 [T.var 6])]
 [S.ifs (T.not (T.prim O.idx [T.var 3,T.var 6])) [S.ret (T.cst P.AI)] []]]
def aj : S:=S.ifs (T.prim O.M0 [T.var 5,T.var 3])
 [S.expr (T.FK MO.pop 4 []),
  S.ifs (T.not (T.prim O.idx [T.var 3,T.var 5]))
   [S.E5 (T.var 3) (T.var 5) (T.cst (P.bl true)),
    S.expr (T.FK MO.append 2 [T.var 5])] [],S.cnt] []
def Qq:List S:=[S.asg 5 (T.prim O.idx [T.var 4,T.prim O.neg [T.cst (P.int 1)]]),aj,
    S.E5 (T.var 3) (T.var 5) (T.cst (P.bl false)),
    S.CB (Tg.nm 6) IK.op [T.C5 "parts_of" 0 [T.var 5]] Lf]
def ak:T:=T.comp (Tg.nm 1) IK.op [T.var 1] [] (T.C5 "leader_of" 2 [T.var 1]) [none,none,some 0]
theorem f2:fns[2]? =some ⟨2,7,[S.asg 2 (T.lst []),S.asg 3 (T.AB [] []),S.asg 4 ak,S.Lc (T.var 4) Qq,S.ret (T.var 2)]⟩:=by kernel_rfl
variable{cf:CF}
variable{oc:C}
theorem LR{oc2:C}(hD:∀F v,Ac D F=some v->v= .bl true\/v= .bl false):∀(xs w:List Iv.P) (y:Option C),(∀c∈xs,keyOk c=true)->w.length + xs.length<=big->
 (∃pu z,pu.length<=xs.length/\(∀c∈pu,c∈xs/\Ac D c=none)/\(∀c∈xs,Ac D c=some (.bl true)\/c∈pu)/\forL (.nm 6) [] (execs cf mt A6 Lf) xs [some g,some oc,some oc2,sD D,sL w,sP X,y]= .ok .nx [some g,some oc,some oc2,sD D,sL (w++pu),sP X,z])\/
 (∃c w' z,c∈xs/\Ac D c=some (.bl false)/\forL (.nm 6) [] (execs cf mt A6 Lf) xs [some g,some oc,some oc2,sD D,sL w,sP X,y]= .ok (.ret (.p .AI)) [some g,some oc,some oc2,sD D,w',sP X,z])
 |[],w,y,_,_=>.inl ⟨[],y,lR,λc h=>(by cases h),λc h=>(by cases h),by rw[append_nil];rfl⟩
 | c ::xs,w,y,hk,hl=>by
   rw[lC]at hl;have hkc:=hk c mS;have hks:∀c∈xs,keyOk c=true:=λc h=>hk c (mC h)
   have hw:w.length < big:=by lia
   cases hc:Ac D c with
   |none=>
     have e:execs cf mt A6 Lf [some g,some oc,some oc2,sD D,sL w,sP X,sP c]= .ok .nx [some g,some oc,some oc2,sD D,sL (w++[c]),sP X,sP c]:=by
      unfold Lf;simp! [Ab,AA,memC,hkc,hc,Cu,BJ,hw]
     have st:forL (.nm 6) [] (execs cf mt A6 Lf) (c::xs) [some g,some oc,some oc2,sD D,sL w,sP X,y]=forL (.nm 6) [] (execs cf mt A6 Lf) xs [some g,some oc,some oc2,sD D,sL (w++[c]),sP X,sP c]:=by
      rw[Cn];show((execs cf mt A6 Lf [some g,some oc,some oc2,sD D,sL w,sP X,sP c]).bind _)=_;rw[e,Res.A5]
     rw[st];rcases LR hD xs (w++[c]) (some (.p c)) hks (by rw[lA,lS];lia)with⟨pu,z,q0,q1,q2,q3⟩|⟨c',w',z,q1,q2,q3⟩
     .left;refine⟨c::pu,z,by simpa using q0,λd hd=>?_,λd hd=>?_,?_⟩
      .rcases mK hd with h|h
       .rw[h];exact⟨mS,hc⟩
       .exact⟨mC (q1 d h).1,(q1 d h).2⟩
      .rcases mK hd with h|h
       .rw[h];exact .inr mS
       .exact(q2 d h).imp id λh=>mC h
      .rw[q3,append_assoc];rfl
     .exact .inr ⟨c',w',z,mC q1,q2,q3⟩
   |some v=>
     rcases hD c v hc with rfl|rfl
     .have e:execs cf mt A6 Lf [some g,some oc,some oc2,sD D,sL w,sP X,sP c]= .ok .nx [some g,some oc,some oc2,sD D,sL w,sP X,sP c]:=by
       unfold Lf;simp! [Ab,AA,memC,hkc,hc,BB]
      have st:forL (.nm 6) [] (execs cf mt A6 Lf) (c::xs) [some g,some oc,some oc2,sD D,sL w,sP X,y]=forL (.nm 6) [] (execs cf mt A6 Lf) xs [some g,some oc,some oc2,sD D,sL w,sP X,sP c]:=by
       rw[Cn];show((execs cf mt A6 Lf [some g,some oc,some oc2,sD D,sL w,sP X,sP c]).bind _)=_;rw[e,Res.A5]
      rw[st];rcases LR hD xs w (some (.p c)) hks (by lia)with⟨pu,z,q0,q1,q2,q3⟩|⟨c',w',z,q1,q2,q3⟩
      .left;refine⟨pu,z,by rw[lC];lia,λd hd=>⟨mC (q1 d hd).1,(q1 d hd).2⟩,λd hd=>?_,q3⟩;rcases mK hd with h|h
       .rw[h];exact .inl hc
       .exact q2 d h
      .exact .inr ⟨c',w',z,mC q1,q2,q3⟩
     .right
      have e:execs cf mt A6 Lf [some g,some oc,some oc2,sD D,sL w,sP X,sP c]= .ok (.ret (.p .AI)) [some g,some oc,some oc2,sD D,sL w,sP X,sP c]:=by
       unfold Lf;simp! [Ab,AA,memC,hkc,hc,BB]
      refine⟨c,sL w,sP c,mS,hc,?_⟩;rw[Cn];show((execs cf mt A6 Lf [some g,some oc,some oc2,sD D,sL w,sP X,sP c]).bind _)=_;rw[e,Res.A5]
theorem Ss{bl:List (Iv.P×List Iv.P)}(h:D4 bl p0=[]):bl=[]/\p0=[]:=by
 cases bl with
 |nil=>exact⟨rfl,h⟩
 |cons b r=>obtain⟨Q,pend⟩:=b;have h:pend++Q::D4 r p0=[]:=h;simp at h
variable{L:Iv.P->Iv.P}
theorem TR{k:Nat}{roots:List Iv.P}{ord st:List Iv.P}{bl:List (Iv.P×List Iv.P)}{X:Iv.P}{y5 y6:Option C}(hU:Gh U)(g:Gr U A L)(h:OO L D ord bl p0 U roots)(e:D4 bl p0=X::st)(hl:st.length + 11<=big)(ho:ord.length < big):
 (∃A' D' ord' bl' p0' fl z5 z6,Gr U A' L/\OO L D' ord' bl' p0' U roots/\free D' U * 11 + (D4 bl' p0').length < free D U * 11 + st.length + 1/\ord'.length + (free D' U * 11 + (D4 bl' p0').length)<=ord.length + (free D U * 11 + st.length + 1)/\(fl= .nx\/fl= .cnt)/\
   execs (A0 fns mt A6 (k+2)) mt A6 Qq [some (Aj A),some oc,sL ord,sD D,sL (D4 bl p0).reverse,y5,y6]= .ok fl [some (Aj A'),some oc,sL ord',sD D',sL (D4 bl' p0').reverse,z5,z6])\/
 (∃A' w2 w3 w4 z5 z6,(∀θ,¬Rr θ L)/\execs (A0 fns mt A6 (k+2)) mt A6 Qq [some (Aj A),some oc,sL ord,sD D,sL (D4 bl p0).reverse,y5,y6]= .ok (.ret (.p .AI)) [some (Aj A'),some oc,w2,w3,w4,z5,z6]):=by
 have hXU:X∈U:=(h.F5.1 X (by rw[e];exact mS)).1;have hk:=hU.key X hXU;have hDl:D.length < big:=by have:=h.size;have:=hU.lt;lia
 have hlast:=QI st.reverse X
 have hfrle:∀{v},Ac D X=some v->free (dput D X (.bl true)) U=free D U:=λ{v} hv=>by
  have hk:=CV (v:=.bl true) hv;unfold free;congr 1;exact funext hk
 have es:ev (A0 fns mt A6 (k + 2)) mt (T.prim O.idx [T.var 4,T.prim O.neg [T.cst (P.int 1)]]) [some (Aj A),some oc,sL ord,sD D,sL (X::st).reverse,y5,y6]= .ok (.p X) [some (Aj A),some oc,sL ord,sD D,sL (X::st).reverse,y5,y6]:=by
  simp! [Ab,Jl,Kj,hlast]
 cases hX:Ac D X with
 |some v=>
   left;rcases h.val X v hX with rfl|rfl
   .obtain⟨bl',p0',q1,q2⟩:=Jx h e hX;refine⟨A,D,ord,bl',p0',.cnt,sP X,y6,g,q2,by rw[q1];lia,by rw[q1];lia,.inr rfl,?_⟩;rw[e,q1];unfold Qq aj;rw[AG es];simp! [Ab,Jl,Kj,hlast,AA,memC,hk,hX,Cu,Je,BB]
   .obtain⟨bl',p0',q1,q2⟩:=Me h e hX;refine⟨A,_,_,bl',p0',.cnt,sP X,y6,g,q2,by rw[q1,hfrle hX];lia,by rw[q1,hfrle hX,lA,lS];lia,.inr rfl,?_⟩;rw[e,q1];unfold Qq aj;rw[AG es];simp! [Ab,Jl,Kj,hlast,AA,memC,hk,hX,Cu,Je,BB,AX,C3,Eb,BQ,E6,hDl,BJ,ho]
 |none=>
   have hval:∀F v,Ac (dput D X (.bl false)) F=some v->v= .bl true\/v= .bl false:=λF v hv=>by
    rw[Aq]at hv
    by_cases z:F=X
    .rw[iP z]at hv;cases hv;exact .inr rfl
    .rw[iN z]at hv;exact h.val F v hv
   have hcl:=Ml (L:=L) hU hXU;obtain⟨A',g1,g2,ep⟩:=K8 (k:=k) (i:=0) (j:=5) (F:=X) (ρ:=[some (Aj A),some oc,sL ord,sD (dput D X (.bl false)),sL (st.reverse++[X]),sP X,y6]) g hU hXU rfl rfl;have hfr:=Hq (v:=.bl false) hX hXU;have hcU:=Mm g hU hXU;rcases LR (cf:=A0 fns mt A6 (k+2)) (g:=Aj A') (oc:=oc) (oc2:=.lst ord) (D:=dput D X (.bl false)) (X:=X) hval (ch L X) (st.reverse++[X]) y6 (λc hc=>hU.key c (hcU c hc)) (by rw[lA,length_reverse,lS];lia)with⟨pu,z,q0,q1,q2,q3⟩|⟨c,w',z,q1,q2,q3⟩
   .left;obtain⟨bl',p0',r1,r2⟩:=OA h e hX q1 q2 hcU;refine⟨A',_,ord,bl',p0',.nx,sP X,z,g1,r2,?_,?_,.inl rfl,?_⟩
    .rw[r1,lA,length_reverse,lC];lia
    .rw[r1,lA,length_reverse,lC];lia
    .have hr:(D4 bl' p0').reverse=st.reverse++[X]++pu:=by rw[r1,List.reverse_append,reverse_reverse,reverse_cons]
     rw[e,hr];unfold Qq aj;simp only[set_cons_zero]at ep;simp! [Ab,Jl,Kj,hlast,AA,memC,hk,hX,AX,C3,Eb,BQ,E6,hDl,BD,IK.ok,Dy,Ae,Dq,A9,guards,ep,q3]
   .right;refine⟨A',sL ord,sD (dput D X (.bl false)),w',sP X,z,λθ=>OB h e hX q1 q2 θ,?_⟩;rw[e];unfold Qq aj;simp only[set_cons_zero]at ep;simp! [Ab,Jl,Kj,hlast,AA,memC,hk,hX,AX,C3,Eb,BQ,E6,hDl,BD,IK.ok,Dy,Ae,Dq,A9,guards,ep,q3]
theorem TU{k:Nat}{roots:List Iv.P}(hU:Gh U):∀(n:Nat) (A D:List (Iv.P×Iv.P)) (ord p0:List Iv.P) (bl:List (Iv.P×List Iv.P)) (y5 y6:Option C),Gr U A L->OO L D ord bl p0 U roots->free D U * 11 + (D4 bl p0).length=n->ord.length + n + 11<=big->
 (∃A' D' ord' z5 z6,Gr U A' L/\Ord L ord' U roots/\A6 (tv (A0 fns mt A6 (k+2)) mt (.var 4)) (execs (A0 fns mt A6 (k+2)) mt A6 Qq) [some (Aj A),some oc,sL ord,sD D,sL (D4 bl p0).reverse,y5,y6]= .ok .nx [some (Aj A'),some oc,sL ord',sD D',sL [],z5,z6])\/
 (∃A' w2 w3 w4 z5 z6,(∀θ,¬Rr θ L)/\A6 (tv (A0 fns mt A6 (k+2)) mt (.var 4)) (execs (A0 fns mt A6 (k+2)) mt A6 Qq) [some (Aj A),some oc,sL ord,sD D,sL (D4 bl p0).reverse,y5,y6]= .ok (.ret (.p .AI)) [some (Aj A'),some oc,w2,w3,w4,z5,z6]):=by
 intro n
 induction n using Nat.strongRecOn with
 |ind n ih=>
   intro A D ord p0 bl y5 y6 g h hn hb;cases e:D4 bl p0 with
   |nil=>
     left;obtain⟨rfl,rfl⟩:=Ss e;refine⟨A,D,ord,y5,y6,g,⟨h.Kb,h.Kc,λF hF=>(h.F5.2 F hF).1,λF hF=>(h.MI F hF).resolve_right λz=>(by rw[e]at z;cases z),λF hF=>(h.F5.2 F hF).2⟩,?_⟩;rw[B4];simp! []
   |cons X st=>
     have hlen:(D4 bl p0).length=st.length+1:=by rw[e,lC]
     have hc:tv (A0 fns mt A6 (k + 2)) mt (.var 4) [some (Aj A),some oc,sL ord,sD D,sL (D4 bl p0).reverse,y5,y6]= .ok true [some (Aj A),some oc,sL ord,sD D,sL (D4 bl p0).reverse,y5,y6]:=by
      rw[e];simp! []
     rw[<-e];rcases TR (k:=k) (oc:=oc) (y5:=y5) (y6:=y6) hU g h e (by lia) (by lia)with⟨A',D',ord',bl',p0',fl,z5,z6,g',h',m1,m2,hfl,et⟩|⟨A',w2,w3,w4,z5,z6,hθ,et⟩
     .have:=ih _ (by lia) A' D' ord' p0' bl' z5 z6 g' h' rfl (by lia);rw[B4,hc,Res.A5,iP rfl,et,Res.A5];rcases hfl with rfl|rfl
      .exact this
      .exact this
     .right;refine⟨A',w2,w3,w4,z5,z6,hθ,?_⟩;rw[B4,hc,Res.A5,iP rfl,et,Res.A5]
theorem LS{k:Nat}{os:List Iv.P}(hU:Gh U)(g:Gr U A L)(ho:∀o∈os,o∈U)(hl:os.length<=1000):
 (∃A' ord,Gr U A' L/\Ord L ord U (os.map L)/\A0 fns mt A6 (k+3) 2 [Aj A,.lst os]= .ok (.lst ord) [some (Aj A'),sL os])\/
 (∃A',(∀θ,¬Rr θ L)/\A0 fns mt A6 (k+3) 2 [Aj A,.lst os]= .ok (.p .AI) [some (Aj A'),sL os]):=by
 let J:Iv.Env->Prop:=λβ=>∃y A',Gr U A' L/\free A' U=free A U/\β=[none,y,some (Aj A')]
 obtain⟨β',⟨y,A',j1,j2,rfl⟩,e⟩:=EB (g:=.nm 1) (cond:=Eh (A0 fns mt A6 (k + 2)) mt []) (elt:=ev (A0 fns mt A6 (k + 2)) mt (.C5 "leader_of" 2 [.var 1])) (F:=L) (J:=J) os [] [none,none,some (Aj A)] (λq hq β ⟨y,A1,j1,j2,hβ⟩=>by
  subst hβ;obtain⟨A2,q1,q2,q3,q4⟩:=Jg (k:=k+1) (i:=2) (j:=1) (ρ:=[none,sP q,some (Aj A1)]) j1 hU (ho q hq) rfl rfl
  exact⟨_,_,rfl,BF _,q4,sP q,A2,q1,by lia,rfl⟩) ⟨none,A,g,rfl,rfl⟩
 have hbig:os.length<=big:=by unfold big;lia
 have ec:ev (A0 fns mt A6 (k + 2)) mt ak [some (Aj A),sL os,sL [],sD [],none,none,none]= .ok (.lst (os.map L)) [some (Aj A'),sL os,sL [],sD [],none,none,none]:=by
  unfold ak;rw[Cb];rw[nil_append]at e;have hb:As (By [none,none,some 0] [some (Aj A),sL os,sL [],sD [],none,none,none]) [none,none,some 0] [none,y,some (Aj A')]=[some (Aj A'),sL os,sL [],sD [],none,none,none]:=rfl;have hi:inner [none,none,some 0] 1=none:=rfl;simp! [IK.ok,Ab,Dd,Ae,Dq,A9,Br,B8,guards,hbig,AR,e,hb,Tg.slots,hi]
 have e0:ev (A0 fns mt A6 (k + 2)) mt (.AB [] []) [some (Aj A),sL os,sL [],none,none,none,none]= .ok (.AB []) [some (Aj A),sL os,sL [],none,none,none,none]:=by
  show(den _ _ (.AB [] [])).v _=_;unfold den;rfl
 have hfr:free [] U<=U.length:=countP_le_length;have hlen:=hU.len;have hst:D4 [] ((os.map L).reverse)=(os.map L).reverse:=rfl
 rcases TU (k:=k) (oc:=.lst os) hU _ A' [] [] ((os.map L).reverse) [] none none j1 (Oz L U (os.map L) ((os.map L).reverse) (λF hF=>mem_reverse.mpr hF) (λF hF=>by
  obtain⟨o,h1,rfl⟩:=mem_map.mp (mem_reverse.mp hF)
  exact⟨g.F5 hU.key (ho o h1),mem_map_of_mem h1⟩)) rfl (by rw[hst,length_reverse,lM,length_nil];unfold big;lia)with⟨A2,D',ord',z5,z6,g',h',et⟩|⟨A2,w2,w3,w4,z5,z6,hθ,et⟩
 .left;refine⟨A2,ord',g',h',?_⟩;rw[hst,reverse_reverse]at et
  have e2:execs (A0 fns mt A6 (k + 2)) mt A6 [S.asg 2 (T.lst []),S.asg 3 (T.AB [] []),S.asg 4 ak,S.Lc (T.var 4) Qq,S.ret (T.var 2)] [some (Aj A),sL os,none,none,none,none,none]= .ok (.ret (.lst ord')) [some (Aj A2),sL os,none,sD D',sL [],z5,z6]:=by
   simp! [G0,e0,ec,et]
  rw[Ar f2 rfl e2];rfl
 .right;refine⟨A2,hθ,?_⟩;rw[hst,reverse_reverse]at et
  have e2:execs (A0 fns mt A6 (k + 2)) mt A6 [S.asg 2 (T.lst []),S.asg 3 (T.AB [] []),S.asg 4 ak,S.Lc (T.var 4) Qq,S.ret (T.var 2)] [some (Aj A),sL os,none,none,none,none,none]= .ok (.ret (.p .AI)) [some (Aj A2),sL os,w2,w3,w4,z5,z6]:=by
   simp! [G0,e0,ec,et]
  rw[Ar f2 rfl e2];rfl
end Lk03
namespace Iv
open PySem
variable{gs:List (Nat×C)}{J:List P->Env->Prop}
theorem BC{b:Env->Res Fl}{all:List P}(hg:∀d ρ,J d ρ->holds gs ρ=true)(turn:∀d x r,d++x::r=all->∀ρ,J d ρ->∃ρ1 ρ2 fl,Dp g x ρ=some ρ1/\b ρ1= .ok fl ρ2/\(fl= .nx\/fl= .cnt)/\J (d++[x]) ρ2):
 ∀(xs d:List P) (ρ:Env),d++xs=all->J d ρ->∃ρ',J all ρ'/\forL g gs b xs ρ= .ok .nx ρ'
 | [],d,ρ,e,h=>by
   rw[append_nil]at e;subst e;refine⟨ρ,h,?_⟩;show(if holds gs ρ then _ else _)=_;rw[hg _ _ h];rfl
 | x::xs,d,ρ,e,h=>by
   obtain⟨ρ1,ρ2,fl,e1,e2,hf,h2⟩:=turn d x xs e ρ h;obtain⟨ρ',q1,q2⟩:=BC hg turn xs (d++[x]) ρ2 (by rw[append_assoc];exact e) h2;refine⟨ρ',q1,?_⟩;show(if holds gs ρ then(Res.of (Dp g x ρ) ρ).bind _ else _)=_;rw[hg _ _ h,iP rfl,e1];show((b ρ1).bind _)=_;rw[e2,Res.A5];rcases hf with rfl|rfl
   .exact q2
   .exact q2
theorem Nh{b:Env->Res Fl}{R:Env->Prop}{c:Nat}{all:List P}(hg:∀d ρ,J d ρ->holds gs ρ=true)(turn:∀d x r,d++x::r=all->∀ρ,J d ρ->∃ρ1 ρ2,Dp g x ρ=some ρ1/\((b ρ1= .ok .nx ρ2/\J (d++[x]) ρ2)\/(b ρ1= .ok (.er c) ρ2/\R ρ2))):
 ∀(xs d:List P) (ρ:Env),d++xs=all->J d ρ->(∃ρ',J all ρ'/\forL g gs b xs ρ= .ok .nx ρ')\/∃ρ',R ρ'/\forL g gs b xs ρ= .ok (.er c) ρ'
 | [],d,ρ,e,h=>by
   rw[append_nil]at e;subst e;refine .inl ⟨ρ,h,?_⟩;show(if holds gs ρ then _ else _)=_;rw[hg _ _ h];rfl
 | x ::xs,d,ρ,e,h=>by
   obtain⟨ρ1,ρ2,e1,e2⟩:=turn d x xs e ρ h
   have st:∀{fl},b ρ1= .ok fl ρ2->forL g gs b (x::xs) ρ=match fl with
    |.nx=>forL g gs b xs ρ2
    |.cnt=>forL g gs b xs ρ2
    |.er c=>.ok (.er c) ρ2
    |.ret r=>.ok (.ret r) ρ2:=λ{fl} e3=>by
    show(if holds gs ρ then(Res.of (Dp g x ρ) ρ).bind _ else _)=_;rw[hg _ _ h,iP rfl,e1];show((b ρ1).bind _)=_;rw[e3,Res.A5]
    try (cases fl<;>rfl)
   rcases e2 with⟨e3,h2⟩|⟨e3,h2⟩
   .rw[st e3];exact Nh hg turn xs (d++[x]) ρ2 (by rw[append_assoc];exact e) h2
   .exact .inr ⟨ρ2,h2,st e3⟩
def Bm(K:List (P×P))(c:P):P:=(Ac K c).getD .AI
def Dv(K:List (P×P))(L:P->P):P->P
 |.tup (x::r)=>.tup (x::r.map λp=>Bm K (L p))
 |X=>X
theorem DP(K:List (P×P))(L:P->P)(x:P)(r:List P):Dv K L (.tup (x::r))= .tup (x::(ch L (.tup (x::r))).map (Bm K)):=by
 show P.tup (x::r.map λp=>Bm K (L p))= .tup (x::(r.map L).map (Bm K));rw[map_map];rfl
variable{L:P->P}
theorem FL{K:List (P×P)}{X:P}(h:∀c∈ch L X,Bm K' c=Bm K c):Dv K' L X=Dv K L X:=by
 cases X with
 |tup ps=>
   cases ps with
   |nil=>rfl
   |cons x r=>
     rw[DP,DP]
     congr 2
     exact map_congr_left h
 |_=>rfl
structure KS(L:P->P)(d:List P)(K:List (P×P)):Prop where
 cl:∀X∈d,∀c∈ch L X,c∈d
 YU:∀X∈d,Ac K X=some (Dv K L X)
 no:∀X,X∉d->Ac K X=none
 len:K.length<=d.length
theorem KS.nil(L:P->P):KS L [] []:=⟨λX h=>(by cases h),λX h=>(by cases h),λX _=>rfl,lR⟩
variable{Y:P}
theorem KS.step(h:KS L d K)(hY:Y∉d)(hc:∀c∈ch L Y,c∈d):KS L (d++[Y]) (dput K Y (Dv K L Y)):=by
 have hk:∀c∈d,Bm (dput K Y (Dv K L Y)) c=Bm K c:=λc hcd=>by
  unfold Bm;rw[Aq,iN (λz:c=Y=>hY (z▸hcd))]
 refine⟨λX hX c hcX=>?_,λX hX=>?_,λX hX=>?_,?_⟩
 .rcases mem_append.mp hX with z|z
  .exact mL (h.cl X z c hcX)
  .rw[mE z]at hcX;exact mL (hc c hcX)
 .rcases mem_append.mp hX with z|z
  .rw[Aq,iN (λq:X=Y=>hY (q▸z)),h.YU X z,FL λc hcX=>hk c (h.cl X z c hcX)]
  .rw[mE z,Aq,iP rfl,FL λc hcX=>hk c (hc c hcX)]
 .rw[Aq,iN (λq=>hX (by rw[q];simp))];exact h.no X λz=>hX (mL z)
 .have:=CU K Y (Dv K L Y);have:=h.len;rw[lA,lS]
  lia
variable{ord:List P}
theorem KS.all{roots:List P}(h:Ord L ord U roots):∀(xs d:List P) (K:List (P×P)),d++xs=ord->KS L d K->∃K',KS L ord K'
 |[],d,K,e,k=>by rw[append_nil]at e;subst e;exact⟨K,k⟩
 | Y ::xs,d,K,e,k=>by
   have hnd:Y∉d:=by
    have:=h.nd;rw[<-e,nodup_append]at this;exact λz=>this.2.2 Y z Y mS rfl
   have hc:∀c∈ch L Y,c∈d:=λc hc=>by
    have:=h.ok d.length Y (by rw[<-e];simp) c hc;rw[<-e,List.take_append_of_le_length (lR),take_length]at this;exact this
   exact KS.all h xs (d++[Y]) _ (by rw[append_assoc];exact e) (k.step hnd hc)
theorem KS.ext{roots:List P}(h:Ord L ord U roots):∀(xs d:List P) (K:List (P×P)),d++xs=ord->KS L d K->∃K',KS L ord K'/\∀c∈d,Bm K' c=Bm K c
 |[],d,K,e,k=>by rw[append_nil]at e;subst e;exact⟨K,k,λ_ _=>rfl⟩
 | Y ::xs,d,K,e,k=>by
   have hnd:Y∉d:=by
    have:=h.nd;rw[<-e,nodup_append]at this;exact λz=>this.2.2 Y z Y mS rfl
   have hc:∀c∈ch L Y,c∈d:=λc hc=>by
    have:=h.ok d.length Y (by rw[<-e];simp) c hc;rw[<-e,List.take_append_of_le_length (lR),take_length]at this;exact this
   obtain⟨K',q1,q2⟩:=KS.ext h xs (d++[Y]) _ (by rw[append_assoc];exact e) (k.step hnd hc);refine⟨K',q1,λc hcd=>?_⟩;rw[q2 c (mL hcd)];unfold Bm;rw[Aq,iN (λz:c=Y=>hnd (z▸hcd))]
theorem X2{roots d xs:List P}(h:Ord L ord U roots)(e:d++Y::xs=ord):Y∉d/\∀c∈ch L Y,c∈d:=by
 refine⟨?_,λc hc=>?_⟩
 .have:=h.nd;rw[<-e,nodup_append]at this;exact λz=>this.2.2 Y z Y mS rfl
 .have:=h.ok d.length Y (by rw[<-e];simp) c hc;rw[<-e,List.take_append_of_le_length (lR),take_length]at this;exact this
theorem KS.ind{d:List P}{Q:P->P->Prop}(h:KS L d K)(hd:∀(i:Nat) (X:P),d[i]? =some X->∀c∈ch L X,c∈d.take i)(st:∀X∈d,(∀c∈ch L X,Q c (Bm K c))->Q X (Dv K L X)):∀X∈d,Q X (Bm K X):=by
 have main:∀(n:Nat) (X:P),d[n]? =some X->Q X (Bm K X):=by
  intro n
  induction n using Nat.strongRecOn with
  |ind n ih=>
    intro X hX;have hm:X∈d:=mem_of_getElem? hX;have:Bm K X=Dv K L X:=by unfold Bm;rw[h.YU X hm];rfl
    rw[this];refine st X hm λc hc=>?_
    obtain⟨j,hj,e⟩:=List.mem_take_iff_getElem.mp (hd n X hX c hc);exact ih j (by lia) c (by rw[<-e];exact List.getElem?_eq_getElem _)
 intro X hX;obtain⟨n,hn⟩:=List.getElem?_of_mem hX;exact main n X hn
theorem Ij{α:Type}(F:α->Int):∀l:List α,Fs (l.map λa=>P.int (F a))=some (l.map F)
 |[]=>rfl
 | a::l=>by
   rw[map_cons,map_cons];unfold Fs;rw[Ij F l];rfl
theorem K6:∀l:List P,((l.map λp=>((pre p).length:Int)).sum)=((AU l).length:Int)
 |[]=>rfl
 | p::l=>by
   rw[map_cons,List.sum_cons,K6 l,Ap,lA]
   lia
theorem T7(hu:Rr θ L)(h:∀c∈ch L Y,Ag θ (Bm K c)=Ag θ c):Ag θ (Dv K L Y)=Ag θ Y:=by
 cases Y with
 |tup ps=>
   cases ps with
   |nil=>rfl
   |cons x r=>
     show Ag θ (.tup (x::r.map λp=>Bm K (L p)))=_;rw[Bh,Bh,B1,B1,map_map]
     congr 2
     refine map_congr_left λp hp=>?_
     show Ag θ (Bm K (L p))=_;rw[h (L p) (mem_map_of_mem (f:=L) hp),hu p]
 |_=>rfl
theorem Fq:∀{l:List P},(∀p∈l,Ak p=true)->D8 l=true
 |[],_=>by unfold D8;rfl
 | p::l,h=>by
   rw[Cm,h p mS,Fq λq hq=>h q (mC hq)];rfl
theorem FV(h:D8 r=true):Ak (.tup (.str x::r))=true:=by
 unfold Ak DZ;exact h
theorem Kq(hY:Ak Y=true)(h:∀c∈ch L Y,Ak (Bm K c)=true):Ak (Dv K L Y)=true:=by
 cases Y with
 |tup ps=>
   obtain⟨x,r,rfl,hr⟩:=AJ hY;refine FV (Fq λp hp=>?_);obtain⟨q,hq,rfl⟩:=mem_map.mp hp;exact h (L q) (mem_map_of_mem (f:=L) hq)
 |_=>exact hY
theorem MV(hY:Ak Y=true):(pre (Dv K L Y)).length=1 + (AU ((ch L Y).map (Bm K))).length:=by
 cases Y with
 |tup ps=>
   obtain⟨x,r,rfl,hr⟩:=AJ hY;rw[DP,AE,lC];show(AU ((ch L _).map (Bm K))).length+1=_
   lia
 |int i=>show(pre (.int i)).length=1+(AU []).length;rw[Bi];unfold pre;rfl
 |_=>unfold Ak at hY;cases hY
end Iv
namespace Lk03
open Iv PySem
def YJ(i:Nat):T:=T.comp (Tg.nm 1) IK.op [T.var 5] [] (T.prim O.idx [T.var 2,T.var 1]) [none,none,some i]
def cZ:T:=T.prim O.add [T.tup [T.prim O.idx [T.var 4,T.cst (P.int 0)]],T.prim (O.tuple IK.op) [YJ 2]]
def cY:T:=T.prim O.add [T.cst (P.int 1),T.prim O.sum [YJ 3]]
def au:List S:=[S.ifs (T.prim O.gt [T.var 6,T.cst (P.int 60)]) [S.raise 1] [],
    S.E5 (T.var 3) (T.var 4) (T.var 6),
    S.ifs (T.prim (O.FC Ty.int) [T.var 4]) [S.E5 (T.var 2) (T.var 4) (T.var 4)] [S.E5 (T.var 2) (T.var 4) cZ]]
def S6:List S:=S.asg 5 (T.C5 "parts_of" 0 [T.var 4])::S.asg 6 cY::au
theorem f3:fns[3]? =some ⟨2,7,[S.asg 2 (T.AB [] []),S.asg 3 (T.AB [] []),S.CB (Tg.nm 4) IK.op [T.var 1] S6,S.ret (T.var 2)]⟩:=by kernel_rfl
variable{cf:CF}
theorem Nb{i:Nat}{cs:List Iv.P}(h5:A8 ρ 5=some (.lst cs))(hi:A8 ρ i=some (.AB M))(hi5:i≠5)(hk:∀c∈cs,keyOk c=true/\∃v,Ac M c=some v)(hl:cs.length<=big):ev cf mt (YJ i) ρ= .ok (.lst (cs.map (Bm M))) ρ:=by
 unfold YJ;rw[Cb]
 have he:∀q∈cs,ev cf mt (T.prim O.idx [T.var 2,T.var 1]) [none,sP q,sD M]= .ok (.p (Bm M q)) [none,sP q,sD M]:=λq hq=>by
  obtain⟨h1,v,hv⟩:=hk q hq;unfold Bm;simp! [Ab,BB,h1,hv]
 obtain⟨β2,q1,q2⟩:=DF (g:=.nm 1) (cond:=Eh cf mt []) (elt:=ev cf mt (T.prim O.idx [T.var 2,T.var 1])) (F:=Bm M) (β:=λq=>[none,sP q,sD M]) (β0:=[none,none,sD M]) (λ_=>rfl) (λ_ _=>rfl) BF cs [] he [none,none,sD M] (.inl rfl)
 have hset:∀{ρ:Iv.Env} {i:Nat} {c:C},A8 ρ i=some c->(ρ.set i none).set i (some c)=ρ:=λ{ρ i c} h=>by
  rw[set_set];refine ext_getElem? λj=>?_
  rw[List.getElem?_set];unfold A8 at h
  by_cases hj:i=j
  .subst hj;cases hr:ρ[i]? with
   |none=>rw[hr]at h;cases h
   |some o=>
     rw[hr]at h;have h:o=some c:=h;subst h;have:i < ρ.length:=(List.getElem?_eq_some_iff.mp hr).1;rw[iP rfl,iP this]
  .rw[iN hj]
 have hb:As (By [none,none,some i] ρ) [none,none,some i] β2=ρ:=by
  rcases q1 with rfl|⟨y,rfl⟩
  .exact hset hi
  .exact hset hi
 have hin:inner [none,none,some i] 5=none:=by
  show List.findIdx? _ [none,none,some i]=none;simp[List.findIdx?_cons,hi5]
 have hbi:AR [none,none,some i] ρ=[none,none,sD M]:=by
  show[none,none,A8 ρ i]=_;rw[hi]
 rw[nil_append]at q2;have hd:Ad cf mt [T.var 5] ρ= .ok [.slot 5] ρ:=Cr h5;show(if IK.op.ok=true then(Ad cf mt [T.var 5] ρ).bind _ else _)=_;rw[hd,Res.A5];have hco:Am ρ [.slot 5]=some [.lst cs]:=by show((A8 ρ 5).bind _)=_;rw[h5];rfl
 unfold Dd;rw[hco]
 have hg:B8 [none,none,some i] [.slot 5] [.lst cs]=[]:=by
  show(([(5,C.lst cs)]:List (Nat×C)).filterMap λq=>(inner [none,none,some i] q.1).map λj=>(j,q.2))=[];rw[List.filterMap_cons_none (by show(inner [none,none,some i] 5).map _=none;rw[hin];rfl)];rfl
 have hbo:Br (.nm 1) [none,none,some i]=true:=by unfold Br;simp[Tg.slots]
 show(if(A9 [.slot 5] [.lst cs] && Br (.nm 1) [none,none,some i] && decide (cs.length<=big))=true then _ else _)=_;rw[hbo,decide_eq_true hl,hg,hbi,q2];show(if A9 [.slot 5] [.lst cs] && true && true=true then Res.ok (C.lst (cs.map (Bm M))) (As (By [none,none,some i] ρ) [none,none,some i] β2)else _)=_;rw[hb];rfl
variable{Sz:List (Iv.P×Iv.P)}{L:Iv.P->Iv.P}{Y:Iv.P}{oc:C}{y5 y6:Option C}
theorem Na{k:Nat}{d:List Iv.P}(hU:Gh U)(g:Gr U A L)(hYU:Y∈U)(ks:KS L d K)(hc:∀c∈ch L Y,c∈d)(hsz:∀X∈d,Ac Sz X=some (.int (pre (Bm K X)).length))(hl:d.length < 2000)(hsl:Sz.length<=d.length):
 ∃A',Gr U A' L/\execs (A0 fns mt A6 (k+2)) mt A6 S6 [some (Aj A),some oc,sD K,sD Sz,sP Y,y5,y6]=execs (A0 fns mt A6 (k+2)) mt A6 au [some (Aj A'),some oc,sD K,sD Sz,sP Y,sL (ch L Y),sP (.int (pre (Dv K L Y)).length)]:=by
 obtain⟨A',g1,g2,ep⟩:=K8 (k:=k) (i:=0) (j:=4) (F:=Y) (ρ:=[some (Aj A),some oc,sD K,sD Sz,sP Y,y5,y6]) g hU hYU rfl rfl;refine⟨A',g1,?_⟩;have hcU:=Mm g hU hYU;have hcl:=Ml (L:=L) hU hYU;have hkY:=hU.kd Y hYU;have hky:=hU.key Y hYU;have hbig:(ch L Y).length<=big:=by unfold big;lia
 have c3:=Nb (cf:=A0 fns mt A6 (k+2)) (i:=3) (M:=Sz) (cs:=ch L Y) (ρ:=[some (Aj A'),some oc,sD K,sD Sz,sP Y,sL (ch L Y),y6]) rfl rfl (by decide) (λc hcc=>⟨hU.key c (hcU c hcc),_,hsz c (hc c hcc)⟩) hbig
 have hmap:(ch L Y).map (Bm Sz)=((ch L Y).map (Bm K)).map λp=>Iv.P.int ((pre p).length:Nat):=by
  rw[map_map];refine map_congr_left λc hcc=>?_
  unfold Bm;rw[hsz c (hc c hcc)];rfl
 have hsum:=K6 ((ch L Y).map (Bm K));have hpre:=MV (K:=K) (L:=L) hkY
 have s2:ev (A0 fns mt A6 (k + 2)) mt cY [some (Aj A'),some oc,sD K,sD Sz,sP Y,sL (ch L Y),y6]= .ok (.p (.int (pre (Dv K L Y)).length)) [some (Aj A'),some oc,sD K,sD Sz,sP Y,sL (ch L Y),y6]:=by
  have hh:∀(v:Iv.Env->Res C) (ρ:Iv.Env),BG (YJ 3) v ρ=(v ρ).bind λc ρ=>.ok (.Bt c) ρ:=λ_ _=>rfl
  have hi:=Ij (λp=>((pre p).length:Int)) ((ch L Y).map (Bm K));rw[<-hmap]at hi;have hfin:(1:Int)+(((ch L Y).map (Bm K)).map λp=>((pre p).length:Int)).sum=((pre (Dv K L Y)).length:Int):=by rw[hsum,hpre];lia
  unfold cY;simp! [hh,c3,Ab,Sr,Of,hi,D1];rw[<-hfin,map_map]
 unfold S6;rw[AG ep];show execs _ _ _ _ [some (Aj A'),some oc,sD K,sD Sz,sP Y,sL (ch L Y),y6]=_;rw[AG s2];show execs _ _ _ _ [some (Aj A'),some oc,sD K,sD Sz,sP Y,sL (ch L Y),sP (.int (pre (Dv K L Y)).length)]=_;rfl
theorem U3{k:Nat}{d:List Iv.P}(hU:Gh U)(g:Gr U A L)(hYU:Y∈U)(ks:KS L d K)(hc:∀c∈ch L Y,c∈d)(hsz:∀X∈d,Ac Sz X=some (.int (pre (Bm K X)).length))(hl:d.length < 2000)(hsl:Sz.length<=d.length)(h60:(pre (Dv K L Y)).length<=60):
 ∃A',Gr U A' L/\execs (A0 fns mt A6 (k+2)) mt A6 S6 [some (Aj A),some oc,sD K,sD Sz,sP Y,y5,y6]= .ok .nx [some (Aj A'),some oc,sD (dput K Y (Dv K L Y)),sD (dput Sz Y (.int (pre (Dv K L Y)).length)),sP Y,sL (ch L Y),sP (.int (pre (Dv K L Y)).length)]:=by
 obtain⟨A',g1,e0⟩:=Na (k:=k) (oc:=oc) (y5:=y5) (y6:=y6) hU g hYU ks hc hsz hl hsl;refine⟨A',g1,?_⟩;rw[e0];have hcU:=Mm g hU hYU;have hcl:=Ml (L:=L) hU hYU;have hkY:=hU.kd Y hYU;have hky:=hU.key Y hYU;have hbig:(ch L Y).length<=big:=by unfold big;lia
 have hng:¬(60 < ((pre (Dv K L Y)).length:Int)):=by lia
 have hKl:K.length < big:=by have:=ks.len;unfold big;lia
 have hSl:Sz.length < big:=by unfold big;lia
 unfold au;rcases Gy hkY with⟨i,rfl⟩|⟨x,r,rfl,hr⟩
 .have hmk:Dv K L (.int i)= .int i:=rfl;rw[hmk]at hng ⊢;simp! [Ab,AA,JL,hng,AX,C3,Eb,BQ,E6,hKl,hSl,hky,Be]
 .have c2:=Nb (cf:=A0 fns mt A6 (k+2)) (i:=2) (M:=K) (cs:=ch L (.tup (.str x::r))) (ρ:=[some (Aj A'),some oc,sD K,sD (dput Sz (.tup (.str x::r)) (.int (pre (Dv K L (.tup (.str x::r)))).length)),sP (.tup (.str x::r)),sL (ch L (.tup (.str x::r))),sP (.int (pre (Dv K L (.tup (.str x::r)))).length)]) rfl rfl (by decide) (λc hcc=>⟨hU.key c (hcU c hcc),_,ks.YU c (hc c hcc)⟩) hbig;have hup:(ch L (.tup (.str x::r))).length+1<=big:=by unfold big;lia
  have em:ev (A0 fns mt A6 (k + 2)) mt cZ [some (Aj A'),some oc,sD K,sD (dput Sz (.tup (.str x::r)) (.int (pre (Dv K L (.tup (.str x::r)))).length)),sP (.tup (.str x::r)),sL (ch L (.tup (.str x::r))),sP (.int (pre (Dv K L (.tup (.str x::r)))).length)]= .ok (.p (Dv K L (.tup (.str x::r)))) [some (Aj A'),some oc,sD K,sD (dput Sz (.tup (.str x::r)) (.int (pre (Dv K L (.tup (.str x::r)))).length)),sP (.tup (.str x::r)),sL (ch L (.tup (.str x::r))),sP (.int (pre (Dv K L (.tup (.str x::r)))).length)]:=by
   have hh:∀(v:Iv.Env->Res C) (ρ:Iv.Env),BG (YJ 2) v ρ=(v ρ).bind λc ρ=>.ok (.Bt c) ρ:=λ_ _=>rfl
   unfold cZ;simp! [hh,c2,Ab,BB,Gs,DW,D1,Gi,hup];rw[DP]
  generalize hmv:Dv K L (.tup (.str x::r))=mv at *;simp! [Ab,AA,JL,hng,AX,C3,Eb,BQ,E6,hKl,hSl,hky,Be,em]
theorem Xv{k:Nat}{d:List Iv.P}(hU:Gh U)(g:Gr U A L)(hYU:Y∈U)(ks:KS L d K)(hc:∀c∈ch L Y,c∈d)(hsz:∀X∈d,Ac Sz X=some (.int (pre (Bm K X)).length))(hl:d.length < 2000)(hsl:Sz.length<=d.length)(h60:60 < (pre (Dv K L Y)).length):
 ∃A' ρ',execs (A0 fns mt A6 (k+2)) mt A6 S6 [some (Aj A),some oc,sD K,sD Sz,sP Y,y5,y6]= .ok (.er 1) (some (Aj A')::some oc::ρ'):=by
 obtain⟨A',g1,e0⟩:=Na (k:=k) (oc:=oc) (y5:=y5) (y6:=y6) hU g hYU ks hc hsz hl hsl;have hg:(60 < ((pre (Dv K L Y)).length:Int)):=by lia
 have:execs (A0 fns mt A6 (k + 2)) mt A6 au [some (Aj A'),some oc,sD K,sD Sz,sP Y,sL (ch L Y),sP (.int (pre (Dv K L Y)).length)]= .ok (.er 1) [some (Aj A'),some oc,sD K,sD Sz,sP Y,sL (ch L Y),sP (.int (pre (Dv K L Y)).length)]:=by
  unfold au;simp! [Ab,AA,JL,hg]
 exact⟨A',_,by rw[e0,this]⟩
theorem Qy{k:Nat}{ord roots:List Iv.P}(hU:Gh U)(g:Gr U A L)(ho:Ord L ord U roots)(hl:ord.length<=2000):
 (∃A' K,Gr U A' L/\KS L ord K/\(∀X∈ord,Ak (Bm K X)=true/\(pre (Bm K X)).length<=60)/\A0 fns mt A6 (k+3) 3 [Aj A,.lst ord]= .ok (.AB K) [some (Aj A'),sL ord])\/
 (∃A' K,KS L ord K/\(∃X∈ord,60 < (pre (Bm K X)).length)/\A0 fns mt A6 (k+3) 3 [Aj A,.lst ord]= .err 1 [some (Aj A'),sL ord]):=by
 let J:List Iv.P->Iv.Env->Prop:=λd ρ=>∃A' K Sz y4 y5 y6,Gr U A' L/\KS L d K/\(∀X∈d,Ak (Bm K X)=true/\(pre (Bm K X)).length<=60)/\(∀X∈d,Ac Sz X=some (.int (pre (Bm K X)).length))/\Sz.length<=d.length/\ρ=[some (Aj A'),sL ord,sD K,sD Sz,y4,y5,y6]
 let R:Iv.Env->Prop:=λρ=>∃A' K,KS L ord K/\(∃X∈ord,60 < (pre (Bm K X)).length)/\∃r,ρ=some (Aj A')::some (.lst ord)::r
 have turn:∀d x r,d++x::r=ord->∀ρ,J d ρ->∃ρ1 ρ2,Dp (.nm 4) x ρ=some ρ1/\((execs (A0 fns mt A6 (k + 2)) mt A6 S6 ρ1= .ok .nx ρ2/\J (d++[x]) ρ2)\/(execs (A0 fns mt A6 (k + 2)) mt A6 S6 ρ1= .ok (.er 1) ρ2/\R ρ2)):=by
  intro d Y r e ρ ⟨A',K,Sz,y4,y5,y6,j1,j2,j3,j4,j5,hρ⟩;subst hρ;obtain⟨hn,hc⟩:=X2 ho e;have hYU:Y∈U:=ho.F5 Y (by rw[<-e];simp);have hlen:d.length < 2000:=by rw[<-e,lA,lC]at hl;lia
  have hk:∀c∈d,Bm (dput K Y (Dv K L Y)) c=Bm K c:=λc hcd=>by
   unfold Bm;rw[Aq,iN (λz:c=Y=>hn (z▸hcd))]
  have hkY:Bm (dput K Y (Dv K L Y)) Y=Dv K L Y:=by
   unfold Bm;rw[Aq,iP rfl];rfl
  by_cases h60:(pre (Dv K L Y)).length<=60
  case neg=>
   obtain⟨A2,r2,et⟩:=Xv (k:=k) (oc:=.lst ord) (y5:=y5) (y6:=y6) hU j1 hYU j2 hc j4 hlen j5 (by lia);obtain⟨K',q1,q2⟩:=KS.ext ho (Y::r) d K e j2;refine⟨_,_,rfl,.inr ⟨et,A2,K',q1,⟨Y,by rw[<-e];simp,?_⟩,r2,rfl⟩⟩;have hY:Y∈ord:=by rw[<-e];simp
   have:Bm K' Y=Dv K L Y:=by
    unfold Bm;rw[q1.YU Y hY];exact FL λc hcc=>q2 c (hc c hcc)
   rw[this]
   lia
  obtain⟨A2,g2,et⟩:=U3 (k:=k) (oc:=.lst ord) (y5:=y5) (y6:=y6) hU j1 hYU j2 hc j4 hlen j5 h60;refine⟨_,_,rfl,.inl ⟨et,A2,_,_,_,_,_,g2,j2.step hn hc,λX hX=>?_,λX hX=>?_,?_,rfl⟩⟩
  .rcases mem_append.mp hX with z|z
   .rw[hk X z];exact j3 X z
   .rw[mE z,hkY];exact⟨Kq (hU.kd Y hYU) λc hcc=>(j3 c (hc c hcc)).1,h60⟩
  .rcases mem_append.mp hX with z|z
   .rw[hk X z,Aq,iN (λq:X=Y=>hn (q▸z))];exact j4 X z
   .rw[mE z,hkY,Aq,iP rfl]
  .have:=CU Sz Y (.int (pre (Dv K L Y)).length);rw[lA,lS]
   lia
 have hold:∀d ρ,J d ρ->holds [(1,.lst ord)] ρ=true:=by
  intro d ρ ⟨A',K,Sz,y4,y5,y6,j1,j2,j3,j4,j5,hρ⟩;subst hρ;unfold holds A8;simp
 have e0:∀ρ,ev (A0 fns mt A6 (k + 2)) mt (.AB [] []) ρ= .ok (.AB []) ρ:=λρ=>by
  show(den _ _ (.AB [] [])).v _=_;unfold den;rfl
 have has:Bu S6=[5,6]:=by decide
 rcases Nh (g:=.nm 4) (gs:=[(1,.lst ord)]) (c:=1) (R:=R) hold turn ord [] [some (Aj A),sL ord,sD [],sD [],none,none,none] rfl ⟨A,[],[],none,none,none,g,KS.nil L,λX h=>(by cases h),λX h=>(by cases h),lR,rfl⟩with⟨ρ',⟨A',K,Sz,y4,y5,y6,j1,j2,j3,j4,j5,hρ⟩,e⟩|⟨ρ',⟨A',K,j1,j2,r,hρ⟩,e⟩
 .subst hρ;refine .inl ⟨A',K,j1,j2,j3,?_⟩
  have e2:execs (A0 fns mt A6 (k + 2)) mt A6 [S.asg 2 (T.AB [] []),S.asg 3 (T.AB [] []),S.CB (Tg.nm 4) IK.op [T.var 1] S6,S.ret (T.var 2)] [some (Aj A),sL ord,none,none,none,none,none]= .ok (.ret (.AB K)) [some (Aj A'),sL ord,none,sD Sz,y4,y5,y6]:=by
   simp! [e0,BD,IK.ok,Dy,Ae,Dq,A9,guards,has,Tg.slots,e]
  rw[Ar f3 rfl e2];rfl
 .subst hρ;refine .inr ⟨A',K,j1,j2,?_⟩
  have e2:execs (A0 fns mt A6 (k + 2)) mt A6 [S.asg 2 (T.AB [] []),S.asg 3 (T.AB [] []),S.CB (Tg.nm 4) IK.op [T.var 1] S6,S.ret (T.var 2)] [some (Aj A),sL ord,none,none,none,none,none]= .ok (.er 1) (some (Aj A')::some (.lst ord)::r):=by
   simp! [e0,BD,IK.ok,Dy,Ae,Dq,A9,guards,has,Tg.slots,e]
  rw[NB f3 rfl e2];rfl
end Lk03
namespace Iv
open PySem
theorem Eu:∀{l I:List P},l.Nodup->(∀x∈l,x∈I)->l.length<=I.length
 |[],_,_,_=>Nat.zero_le _
 | a::l,I,h,hs=>by
   obtain⟨h1,h2⟩:=nodup_cons.mp h;have ha:=hs a mS;have:=Eu (l:=l) (I:=I.erase a) h2 λx hx=>(List.mem_erase_of_ne (λz:x=a=>h1 (z▸hx))).mpr (hs x (mC hx))
   have hl:=List.length_erase_of_mem ha;have:0 < I.length:=List.length_pos_of_mem ha;rw[lC]
   lia
theorem Dw :∀{l:List (P×P)},(Ac l k).isSome=true↔k∈l.map (·.1)
 |[]=>by simp[Ht]
 | q ::l=>by
   rw[BK,map_cons,mem_cons]
   by_cases h:q.1=k
   .rw[iP h];simp[h]
   .rw[iN h,Dw (l:=l)];constructor
    .exact .inr
    .rintro(z|z)
     .exact absurd z.symm h
     .exact z
theorem Md(l:List (P×P))(k v:P):(dput l k v).map (·.1)=if k∈l.map (·.1)then l.map (·.1)else l.map (·.1)++[k]:=by
 have hiff:(l.any λq=>decide (q.1=k))=true↔k∈l.map (·.1):=by
  rw[<-Dw];constructor
  .intro h;obtain⟨v,hv⟩:=HD h;rw[hv];rfl
  .intro h;obtain⟨v,hv⟩:=Option.isSome_iff_exists.mp h;exact Dj hv
 unfold dput
 by_cases h:k∈l.map (·.1)
 .rw[iP (hiff.mpr h),iP h,map_map];refine map_congr_left λq _=>?_
  show(if q.1=k then(q.1,v)else q).1=q.1;split<;>rfl
 .rw[iN (λz=>h (hiff.mp z)),iN h,map_append];rfl
theorem EL{l:List (P×P)}{x:P}:x∈(dput l k v).map (·.1)↔x∈l.map (·.1)\/x=k:=by
 rw[<-Dw,Aq,<-Dw]
 by_cases h:x=k
 .rw[iP h];simp[h]
 .rw[iN h];simp[h]
theorem Jw{l:List (P×P)}(h:(l.map (·.1)).Nodup):((dput l k v).map (·.1)).Nodup:=by
 rw[Md];split
 .exact h
 .rename_i hk;rw[nodup_append];refine⟨h,by simp,λa ha b hb=>?_⟩;rw[mE hb];exact λz=>hk (z▸ha)
theorem IC:∀(xs:List P) (d:List (P×P)) (x:P),x∈(xs.foldl JI d).map (·.1)↔x∈d.map (·.1)\/((∃i,x= .int i)/\x∈xs)
 |[],d,x=>by simp
 | q ::xs,d,x=>by
   rw[foldl_cons,IC xs (JI d q) x,mem_cons];cases q with
   |int i=>
     show x∈(dput d (.int i) (.bl true)).map (·.1)\/_↔_;rw[EL];constructor
     .rintro((h|h)|h)
      .exact .inl h
      .exact .inr ⟨⟨i,h⟩,.inl h⟩
      .exact .inr ⟨h.1,.inr h.2⟩
     .rintro(h|⟨h1,h|h⟩)
      .exact .inl (.inl h)
      .exact .inl (.inr h)
      .exact .inr ⟨h1,h⟩
   |_ =>
     show x∈d.map (·.1)\/_↔_;constructor
     .rintro(h|h)
      .exact .inl h
      .exact .inr ⟨h.1,.inr h.2⟩
     .rintro(h|⟨⟨i,h1⟩,h|h⟩)
      .exact .inl h
      .rw[h1]at h;cases h
      .exact .inr ⟨⟨i,h1⟩,h⟩
theorem He{x i:Int}:∀{l:List Int},x∈insI i l↔x=i\/x∈l
 |[]=>by unfold insI;simp
 | j ::l=>by
   unfold insI;split
   .simp
   .rw[mem_cons,He,mem_cons];constructor
    .rintro(h|h|h)
     .exact .inr (.inl h)
     .exact .inl h
     .exact .inr (.inr h)
    .rintro(h|h|h)
     .exact .inr (.inl h)
     .exact .inl h
     .exact .inr (.inr h)
theorem Ew{x:Int}:∀{l:List Int},x∈sortI l↔x∈l
 |[]=>by unfold sortI;simp
 |j::l=>by unfold sortI;rw[He,Ew,mem_cons]
theorem Kn :∀{l:List Int},(insI i l).length=l.length + 1
 |[]=>by unfold insI;rfl
 | j::l=>by
   unfold insI;split
   .rfl
   .rw[lC,Kn,lC]
theorem Ie:∀{l:List Int},(sortI l).length=l.length
 |[]=>by unfold sortI;rfl
 |j::l=>by unfold sortI;rw[Kn,Ie,lC]
theorem Nd{i:Int}:∀{l:List Int},l.Pairwise (· < ·)->i∉l->(insI i l).Pairwise (· < ·)
 |[],_,_=>by unfold insI;exact List.pairwise_singleton _ _
 | j ::l,h,hi=>by
   obtain⟨h1,h2⟩:=pairwise_cons.mp h;unfold insI;split
   .rename_i hij
    have hlt:i < j:=by
     have:i≠j:=λz=>hi (z▸mS)
     lia
    refine pairwise_cons.mpr ⟨λx hx=>?_,h⟩;rcases mK hx with z|z
    .rw[z];exact hlt
    .have:=h1 x z;lia
   .rename_i hij;refine pairwise_cons.mpr ⟨λx hx=>?_,Nd h2 λz=>hi (mC z)⟩;rcases He.mp hx with z|z
    .rw[z];lia
    .exact h1 x z
theorem JU:∀{l:List Int},l.Nodup->(sortI l).Pairwise (· < ·)
 |[],_=>by unfold sortI;exact List.Pairwise.nil
 | j::l,h=>by
   obtain⟨h1,h2⟩:=nodup_cons.mp h;unfold sortI;exact Nd (JU h2) λz=>h1 (Ew.mp z)
theorem Qo:∀{a b:List Int},a.Pairwise (· < ·)->b.Pairwise (· < ·)->(∀x,x∈a↔x∈b)->a=b
 |[],[],_,_,_=>rfl
 |[],y::b,_,_,h=>nomatch (h y).mpr mS
 |x::a,[],_,_,h=>nomatch (h x).mp mS
 | x ::a,y::b,ha,hb,h=>by
   obtain⟨a1,a2⟩:=pairwise_cons.mp ha;obtain⟨b1,b2⟩:=pairwise_cons.mp hb
   have e:x=y:=by
    rcases mK ((h x).mp mS)with z|z
    .exact z
    .rcases mK ((h y).mpr mS)with w|w
     .exact w.symm
     .have:=b1 x z;have:=a1 y w;lia
   subst e;rw[Qo a2 b2 λq=>?_];constructor
   .intro hq;rcases mK ((h q).mp (mC hq))with z|z
    .have:=a1 q hq;lia
    .exact z
   .intro hq;rcases mK ((h q).mpr (mC hq))with z|z
    .have:=b1 q hq;lia
    .exact z
theorem Jj:∀{l:List P},(∀x∈l,∃i,x= .int i)->∃ns:List Int,l=ns.map .int/\Fs l=some ns
 |[],_=>⟨[],rfl,rfl⟩
 | x::l,h=>by
   obtain⟨i,rfl⟩:=h x mS;obtain⟨ns,e1,e2⟩:=Jj (l:=l) λy hy=>h y (mC hy)
   refine⟨i::ns,by rw[e1];rfl,?_⟩;unfold Fs;rw[e2];rfl
theorem FT(i:Int):keyOk (.int i)=true:=rfl
structure OI(ks:List P)(O:List (P×P)):Prop where
 nd:(O.map (·.1)).Nodup
 mem:∀x,x∈O.map (·.1)↔(∃i,x= .int i)/\∃p∈ks,x∈pre p
end Iv
namespace Lk03
open Iv PySem
theorem H8{x:Iv.P}:x∈(E9 p).map (·.1)↔(∃i,x= .int i)/\x∈pre p:=by
 unfold E9;rw[IC];simp
def ZW:List S:=[S.E5 (T.var 1) (T.var 4) (T.cst (P.bl true))]
def YE:List S:=[S.CB (Tg.nm 4) IK.op [T.call 1 [T.var 3]] ZW]
def YD:List S:=[S.CB (Tg.nm 3) IK.op [T.var 2] YE]
theorem f4:fns[4]? =some ⟨1,5,[S.asg 1 (T.AB [] []),S.CB (Tg.nm 2) IK.op [T.var 0] YD,S.ret (T.prim O.sorted [T.var 1])]⟩:=by kernel_rfl
variable{cf:CF}
variable{pc:C}{y2:Option C}{I:List Iv.P}
theorem Q9{y3:Option C}{O:List (Iv.P×Iv.P)}{xs:List Iv.P}(hO:∀x∈O.map (·.1),x∈I)(hnd:(O.map (·.1)).Nodup)(hx:∀x∈xs,x∈I/\keyOk x=true)(hI:I.length < 64)(y:Option C):∃O' z,(O'.map (·.1)).Nodup/\(∀x,x∈O'.map (·.1)↔x∈O.map (·.1)\/x∈xs)/\forL (.nm 4) [] (execs cf mt A6 ZW) xs [some pc,sD O,y2,y3,y]= .ok .nx [some pc,sD O',y2,y3,z]:=by
 let J:List Iv.P->Iv.Env->Prop:=λd ρ=>∃O' z,(O'.map (·.1)).Nodup/\(∀x,x∈O'.map (·.1)↔x∈O.map (·.1)\/x∈d)/\ρ=[some pc,sD O',y2,y3,z]
 obtain⟨ρ',⟨O',z,j1,j2,hρ⟩,e⟩:=BC (g:=.nm 4) (gs:=[]) (b:=execs cf mt A6 ZW) (J:=J) (all:=xs) (λ_ _ _=>rfl) (λd x r e ρ ⟨O',z,j1,j2,hρ⟩=>by
  subst hρ;have hxm:x∈xs:=by rw[<-e];simp
  obtain⟨hxI,hxk⟩:=hx x hxm
  have hlen:O'.length < big:=by
   have:=Eu (I:=I) j1 λy hy=>by
    rcases(j2 y).mp hy with q|q
    .exact hO y q
    .exact(hx y (by rw[<-e];exact mL q)).1
   rw[lM]at this;unfold big
   lia
  refine⟨_,[some pc,sD (dput O' x (.bl true)),y2,y3,sP x],.nx,rfl,?_,.inl rfl,_,_,Jw j1,λw=>?_,rfl⟩
  .show execs cf mt A6 ZW [some pc,sD O',y2,y3,sP x]=_;unfold ZW;simp! [AX,C3,Eb,BQ,E6,hxk,hlen]
  .rw[EL,j2 w]
   simp[or_assoc]) xs [] [some pc,sD O,y2,y3,y] rfl ⟨O,y,hnd,λx=>by simp,rfl⟩
 subst hρ;exact⟨O',z,j1,j2,e⟩
structure V2(I:List Iv.P)(p:Iv.P):Prop where
 kd:Ak p=true
 len:(pre p).length<=1000
 aC:∀i,Iv.P.int i∈pre p->Iv.P.int i∈I
theorem Kf{k:Nat}{O:List (Iv.P×Iv.P)}{ks:List Iv.P}(hp:V2 I p)(hks:∀q∈ks,V2 I q)(hO:OI ks O)(hI:I.length < 64)(y:Option C):∃O' z,OI (ks++[p]) O'/\execs (A0 fns mt A6 (k + 2)) mt A6 YE [some pc,sD O,y2,sP p,y]= .ok .nx [some pc,sD O',y2,sP p,z]:=by
 obtain⟨O',z,q1,q2,e⟩:=Q9 (cf:=A0 fns mt A6 (k + 2)) (pc:=pc) (y2:=y2) (y3:=some (.p p)) (O:=O) (I:=I) (xs:=(E9 p).map (·.1)) (λx hx=>by
  obtain⟨⟨i,rfl⟩,q,hq,hm⟩:=(hO.mem x).mp hx;exact(hks q hq).aC i hm) hO.nd (λx hx=>by
  obtain⟨⟨i,rfl⟩,hm⟩:=H8.mp hx
  exact⟨hp.aC i hm,FT i⟩) hI y
 refine⟨O',z,⟨q1,λx=>?_⟩,?_⟩
 .rw[q2,hO.mem,H8];constructor
  .rintro(⟨h1,q,hq,hm⟩|⟨h1,hm⟩)
   .exact⟨h1,q,mL hq,hm⟩
   .exact⟨h1,p,by simp,hm⟩
  .rintro⟨h1,q,hq,hm⟩
   rcases mem_append.mp hq with z|z
   .exact .inl ⟨h1,q,z,hm⟩
   .rw[mE z]at hm;exact .inr ⟨h1,hm⟩
 .have hc:=Ke (k:=k) hp.kd (by have:=hp.len;unfold big;lia);have ec:AY (A0 fns mt A6 (k+2)) 1 [.slot 3] [some pc,sD O,y2,sP p,y]= .ok (.lst ((E9 p).map (·.1))) [some pc,sD O,y2,sP p,y]:=Cc rfl (λc hc=>by rw[mE hc];rfl) hc rfl;unfold YE;simp! [BD,IK.ok,Dy,Ae,Dq,A9,guards,AN,ec,e]
theorem Q8{k:Nat}{O:List (Iv.P×Iv.P)}{ks:List Iv.P}(ha:V2 I a)(hb:V2 I b)(hks:∀q∈ks,V2 I q)(hO:OI ks O)(hI:I.length < 64)(y3 y:Option C):∃O' z3 z,OI (ks++[a,b]) O'/\execs (A0 fns mt A6 (k + 2)) mt A6 YD [some pc,sD O,sP (enc (a,b)),y3,y]= .ok .nx [some pc,sD O',sP (enc (a,b)),z3,z]:=by
 obtain⟨O1,z1,h1,e1⟩:=Kf (k:=k) (pc:=pc) (y2:=some (.p (enc (a,b)))) ha hks hO hI y
 obtain⟨O2,z2,h2,e2⟩:=Kf (k:=k) (pc:=pc) (y2:=some (.p (enc (a,b)))) hb (ks:=ks++[a]) (λq hq=>by
  rcases mem_append.mp hq with z|z
  .exact hks q z
  .rw[mE z];exact ha) h1 hI z1
 refine⟨O2,sP b,z2,by rw[append_assoc]at h2;exact h2,?_⟩
 have ef:forL (.nm 3) [] (execs (A0 fns mt A6 (k + 2)) mt A6 YE) [a,b] [some pc,sD O,sP (enc (a,b)),y3,y]= .ok .nx [some pc,sD O2,sP (enc (a,b)),sP b,z2]:=by
  rw[Cn];show((execs _ mt A6 YE [some pc,sD O,sP (enc (a,b)),sP a,y]).bind _)=_;rw[e1,Res.A5];dsimp only;rw[Cn];show((execs _ mt A6 YE [some pc,sD O1,sP (enc (a,b)),sP b,z1]).bind _)=_;rw[e2,Res.A5];rfl
 unfold YD;unfold enc at ef ⊢;simp! [BD,IK.ok,Dy,Ae,Dq,A9,guards,ef]
theorem Fj{k:Nat}{prs:List (Iv.P×Iv.P)}(hp:∀pr∈prs,V2 I pr.1/\V2 I pr.2)(hI:I.length < 64):
 ∃os,(∃ss:List Int,os=ss.map .int/\ss.Pairwise (· < ·))/\(∀x,x∈os↔(∃i,x= .int i)/\∃pr∈prs,x∈pre pr.1\/x∈pre pr.2)/\os.length < 64/\A0 fns mt A6 (k+3) 4 [.lst (prs.map enc)]= .ok (.lst os) [sL (prs.map enc)]:=by
 let two:List Iv.P->List Iv.P:=λd=>d.flatMap λq=>match q with
  |.tup [a,b]=>[a,b]
  |_=>[]
 let J:List Iv.P->Iv.Env->Prop:=λd ρ=>∃O y2 y3 y4,OI (two d) O/\ρ=[sL (prs.map enc),sD O,y2,y3,y4]
 have two_mem:∀d,(∀q∈d,q∈prs.map enc)->∀p∈two d,V2 I p:=by
  intro d hd p hpm;obtain⟨q,hq,hm⟩:=mem_flatMap.mp hpm;obtain⟨pr,hpr,rfl⟩:=mem_map.mp (hd q hq);have hm:p∈[pr.1,pr.2]:=hm;rcases mK hm with z|z
  .rw[z];exact(hp pr hpr).1
  .rw[mE z];exact(hp pr hpr).2
 have turn:∀d x r,d++x::r=prs.map enc->∀ρ,J d ρ->∃ρ1 ρ2 fl,Dp (.nm 2) x ρ=some ρ1/\execs (A0 fns mt A6 (k + 2)) mt A6 YD ρ1= .ok fl ρ2/\(fl= .nx\/fl= .cnt)/\J (d++[x]) ρ2:=by
  intro d x r e ρ ⟨O,y2,y3,y4,hO,hρ⟩;subst hρ;have hx:x∈prs.map enc:=by rw[<-e];simp
  obtain⟨pr,hpr,rfl⟩:=mem_map.mp hx;obtain⟨O',z3,z4,h',et⟩:=Q8 (k:=k) (pc:=.lst (prs.map enc)) (hp pr hpr).1 (hp pr hpr).2 (two_mem d λq hq=>by rw[<-e];exact mL hq) hO hI y3 y4;refine⟨_,_,.nx,rfl,et,.inl rfl,O',sP (enc (pr.1,pr.2)),z3,z4,?_,rfl⟩
  have:two (d++[enc pr])=two d++[pr.1,pr.2]:=by
   show(d++[enc pr]).flatMap _=_;rw[List.flatMap_append];rfl
  rw[this];exact h'
 obtain⟨ρ',⟨O,y2,y3,y4,hO,hρ⟩,e⟩:=BC (g:=.nm 2) (gs:=[(0,.lst (prs.map enc))]) (J:=J) (λd ρ ⟨O,y2,y3,y4,hO,hρ⟩=>by
  subst hρ;unfold holds A8
  simp) turn (prs.map enc) [] [sL (prs.map enc),sD [],none,none,none] rfl ⟨[],none,none,none,⟨nodup_nil,λx=>by simp[two]⟩,rfl⟩
 subst hρ;obtain⟨ns,n1,n2⟩:=Jj (l:=O.map (·.1)) λx hx=>((hO.mem x).mp hx).1
 have hlen:ns.length < 64:=by
  have:=Eu (I:=I) hO.nd λx hx=>by
   obtain⟨⟨i,rfl⟩,p,hpm,hm⟩:=(hO.mem x).mp hx;exact(two_mem _ (λq hq=>hq) p hpm).aC i hm
  rw[n1,lM]at this
  lia
 refine⟨(sortI ns).map .int,⟨sortI ns,rfl,JU (List.Pairwise.of_map (f:=Iv.P.int) (S:=(·≠·)) (λa b h z=>h (by rw[z])) (n1▸hO.nd))⟩,λx=>?_,by rw[lM,Ie];exact hlen,?_⟩
 .have h1:x∈(sortI ns).map .int↔x∈O.map (·.1):=by
   rw[n1,mem_map,mem_map];constructor
   .rintro⟨i,hi,rfl⟩;exact⟨i,Ew.mp hi,rfl⟩
   .rintro⟨i,hi,rfl⟩;exact⟨i,Ew.mpr hi,rfl⟩
  rw[h1,hO.mem x];constructor
  .rintro⟨h,p,hpm,hm⟩
   refine⟨h,?_⟩;obtain⟨q,hq,hm2⟩:=mem_flatMap.mp hpm;obtain⟨pr,hpr,rfl⟩:=mem_map.mp hq;have hm2:p∈[pr.1,pr.2]:=hm2;refine⟨pr,hpr,?_⟩;rcases mK hm2 with z|z
   .rw[z]at hm;exact .inl hm
   .rw[mE z]at hm;exact .inr hm
  .rintro⟨h,pr,hpr,hm⟩
   refine⟨h,?_⟩;rcases hm with hm|hm
   .exact⟨pr.1,mem_flatMap.mpr ⟨enc pr,mem_map_of_mem hpr,by show pr.1∈[pr.1,pr.2];simp⟩,hm⟩
   .exact⟨pr.2,mem_flatMap.mpr ⟨enc pr,mem_map_of_mem hpr,by show pr.2∈[pr.1,pr.2];simp⟩,hm⟩
 .have e0:∀ρ,ev (A0 fns mt A6 (k + 2)) mt (.AB [] []) ρ= .ok (.AB []) ρ:=λρ=>by
   show(den _ _ (.AB [] [])).v _=_;unfold den;rfl
  have has:Bu YD=[3,4]:=by decide
  have e2:execs (A0 fns mt A6 (k + 2)) mt A6 [S.asg 1 (T.AB [] []),S.CB (Tg.nm 2) IK.op [T.var 0] YD,S.ret (T.prim .sorted [T.var 1])] [sL (prs.map enc),none,none,none,none]= .ok (.ret (.lst ((sortI ns).map .int))) [sL (prs.map enc),sD O,y2,y3,y4]:=by
   simp! [e0,BD,IK.ok,Dy,Ae,Dq,A9,guards,has,Tg.slots,e,Ab,Gw,Pm,n2,hlen]
  rw[Ar f4 rfl e2];rfl
end Lk03
namespace Iv
open PySem
variable{L:P->P}
theorem FU(k:KS L d K){X:P}(h:X∈d):Bm K X=Dv K L X:=by
 unfold Bm;rw[k.YU X h];rfl
def bS(L:P->P)(os:List P)(K σ:List (P×P)):Prop:=∀x,Ac σ x=if x∈os/\L x≠x then some (Bm K (L x))else none
def DJ(L:P->P)(os:List P)(K:List (P×P)):List (P×P):=(os.filter λx=>!decide (L x=x)).map λx=>(x,Bm K (L x))
theorem K0{d:List P}{x:P}:DJ L (d++[x]) K=DJ L d K++if L x=x then[]else[(x,Bm K (L x))]:=by
 unfold DJ;rw[filter_append,map_append]
 by_cases h:L x=x
 .rw[iP h,filter_cons_of_neg (by simp[h])];rfl
 .rw[iN h,filter_cons_of_pos (by simp[h])];rfl
theorem Ph{x:P}(h:x∈(DJ L d K).map (·.1)):x∈d:=by
 unfold DJ at h;rw[map_map]at h;obtain⟨y,hy,rfl⟩:=mem_map.mp h;exact(mem_filter.mp hy).1
theorem IT:∀{os:List P},os.Nodup->bS L os K (DJ L os K)
 |[],_,y=>rfl
 | x ::os,hn,y=>by
   obtain⟨h1,h2⟩:=nodup_cons.mp hn;have ih:=(IT h2:bS L os K (DJ L os K)) y
   have hc:DJ L (x::os) K=if L x=x then DJ L os K else(x,Bm K (L x))::DJ L os K:=by
    unfold DJ
    by_cases h:L x=x
    .rw[iP h,filter_cons_of_neg (by simp[h])]
    .rw[iN h,filter_cons_of_pos (by simp[h])];rfl
   rw[hc]
   by_cases h:L x=x
   .rw[iP h,ih]
    by_cases hyx:y=x
    .subst hyx;simp[h]
    .simp[hyx]
   .rw [iN h]
    by_cases hyx:y=x
    .subst hyx;unfold Ac;simp[h]
    .have:Ac ((x,Bm K (L x))::DJ L os K) y=Ac (DJ L os K) y:=by
      unfold Ac;rw[List.find?_cons_of_neg (by simpa using Ne.symm hyx)]
     rw[this,ih];simp[hyx]
variable{ord:List P}{prs:List (P×P)}
theorem JZ{os:List P}(hd:Done U prs A L)(ks:KS L ord K)(hU:Gh U)(hos:∀i,P.int i∈U->P.int i∈os)(hσ:bS L os K σ):
 ∀(n:Nat) (F:P),(pre F).length<=n->F∈U->L F∈ord->Ag σ F=Bm K (L F):=by
 intro n
 induction n with
 |zero=>intro F h;have:=D6 F;lia
 |succ n ih=>
   intro F hn hF hL;have hk:=hU.kd F hF;cases F with
   |int i=>
     rw[Dr,hσ]
     by_cases h:L (.int i)= .int i
     .rw[iN (λz=>z.2 h),h];rw[h]at hL;rw[FU ks hL];rfl
     .rw[iP ⟨hos i hF,h⟩];rfl
   |tup ps=>
     obtain⟨m,r,rfl,hr⟩:=AJ hk;obtain⟨r',e1,e2⟩:=hd.JA m r;rw[FU ks hL,e1];show Ag σ _= .tup (.str m::r'.map λp=>Bm K (L p))
     have e3:(r'.map λp=>Bm K (L p))=r.map λp=>Bm K (L p):=by
      have:=congrArg (List.map (Bm K)) e2;rw[map_map,map_map]at this;exact this.symm
     rw[e3,Bh,B1]
     congr 2
     refine map_congr_left λp hp=>?_
     have hpre:=Ci hp;rw[AE,lC]at hn;have hn:(AU r).length+1<=n+1:=hn;refine ih p (by lia) (hU.cl _ _ hF p hp) ?_;refine ks.cl _ hL _ ?_;rw[e1];show L p∈r'.map L;rw[<-e2];exact mem_map_of_mem hp
   |_=>unfold Ak at hk;cases hk
theorem SN{os:List P}(hd:Done U prs A L)(ks:KS L ord K)(ho:Ord L ord U (os.map L))(hU:Gh U)(hos:∀i,P.int i∈U->P.int i∈os)(hσ:bS L os K σ):
 ∀(n:Nat) (F G:P),(pre F).length<=n->F∈U->G∈U->L F=L G->Ag σ F=Ag σ G:=by
 have led:=λF=>JZ (F:=F) hd ks hU hos hσ (n:=(pre F).length) (prs:=prs) (lR)
 have lint:∀i,P.int i∈U->L (.int i)∈ord:=λi hi=>ho.MI _ (mem_map_of_mem (hos i hi))
 intro n
 induction n with
 |zero=>intro F G h;have:=D6 F;lia
 |succ n ih=>
   intro F G hn hF hG hL;have hkF:=hU.kd F hF;have hkG:=hU.kd G hG
   have way:L F∈ord->Ag σ F=Ag σ G:=λh=>by
    rw[led F hF h,led G hG (hL▸h),hL]
   cases F with
   |int i=>exact way (lint i hF)
   |tup ps=>
     obtain⟨m,r,rfl,hr⟩:=AJ hkF;cases G with
     |int j=>exact way (hL▸lint j hG)
     |tup qs=>
       obtain⟨m',s,rfl,hs⟩:=AJ hkG;obtain⟨r',e1,e2⟩:=hd.JA m r;obtain⟨s',e3,e4⟩:=hd.JA m' s;rw[e1,e3]at hL;injection hL with hL
       injection hL with hL1 hL2
       injection hL1 with hL1
       subst hL1 hL2;have hrs:r.map L=s.map L:=e2.trans e4.symm;rw[Bh,Bh,B1,B1]
       congr 2
       have clF:=hU.cl _ _ hF;have clG:=hU.cl _ _ hG;rw[AE,lC]at hn;replace hn:(AU r).length+1<=n+1:=hn;clear e1 e2 e3 e4 hF hG way hkF hkG hr hs
       induction r generalizing s with
       |nil=>
         cases s with
         |nil=>rfl
         |cons _ _=>cases hrs
       |cons a r ihr=>
         cases s with
         |nil=>cases hrs
         |cons b s=>
           rw[map_cons,map_cons]at hrs ⊢;injection hrs with h1 h2
           rw[Ap,lA]at hn;rw[ih a b (by lia) (clF a mS) (clG b mS) h1,ihr s h2 (λq hq=>clF q (mC hq)) (λq hq=>clG q (mC hq)) (by lia)]
     |_=>unfold Ak at hkG;cases hkG
   |_=>unfold Ak at hkF;cases hkF
variable{cf:CF}{mt:MT}
theorem Sl(m:Str)(o:Nat)(ts:List T)(ρ:Env):tv cf mt (.C5 m o ts) ρ=VS (ev cf mt (.C5 m o ts) ρ):=rfl
theorem II(f:Nat)(ts:List T)(ρ:Env):tv cf mt (.call f ts) ρ=VS (ev cf mt (.call f ts) ρ):=rfl
theorem Ek{f i j:Nat}{c1 c2:C}{ρ:Env}(h1:A8 ρ i=some c1)(h2:A8 ρ j=some c2)(k1:c1.cp=false)(k2:c2.cp=false)(hij:i≠j)(e:cf f [c1,c2]= .ok c [some c1',some c2']):AY cf f [.slot i,.slot j] ρ= .ok c ((((ρ.set i none).set j none).set i (some c1')).set j (some c2')):=by
 unfold AY
 have ec:Am ρ [.slot i,.slot j]=some [c1,c2]:=by
  show((A8 ρ i).bind λc=>((A8 ρ j).bind λd=>(some []).map (d::·)).map (c::·))=_;rw[h1,h2];rfl
 have hl:BY [.slot i,.slot j] [c1,c2]=[i,j]:=by
  rw[Bx,Bx,k1,k2];rfl
 have hg:A9 [.slot i,.slot j] [c1,c2]=true:=by
  unfold A9;simp
 rw[ec];dsimp only;rw[hl,hg,iP ⟨by simp[hij],rfl⟩,e];have hle:lend ρ [.slot i,.slot j] [c1,c2]=(ρ.set i none).set j none:=by unfold lend;rw[hl];rfl
 rw[hle];dsimp only
 have hb:back ((ρ.set i none).set j none) [.slot i,.slot j] [c1,c2] [some c1',some c2']=some ((((ρ.set i none).set j none).set i (some c1')).set j (some c2')):=by
  unfold back;rw[k1];show back _ [.slot j] [c2] [some c2']=_;unfold back;rw[k2];show back _ [] [] []=_;unfold back;rfl
 rw[hb];rfl
variable{hs:List Hd}
theorem L0{f i:Nat}{h:Option (Nat×P)}{ρ':Env}(e:AY cf f hs ρ= .ok c ρ'):EO cf i f h hs ρ= .ok .nx (ρ'.set i (some c)):=by
 unfold AY at e;unfold EO;cases ec:Am ρ hs with
 |none=>rw[ec]at e;cases e
 |some cs=>
   rw[ec]at e;dsimp only at e ⊢;split at e
   case isFalse=>cases e
   rename_i hg;rw[iP hg];cases ecf:cf f cs with
   |stuck=>rw[ecf]at e;cases e
   |err _ _=>rw[ecf]at e;cases e
   |ok d outs=>
     rw[ecf]at e;dsimp only at e ⊢;cases eb:back (lend ρ hs cs) hs cs outs with
     |none=>rw[eb]at e;cases e
     |some ρ2=>rw[eb]at e;cases e;rfl
theorem L1{cf':CF}{f i c:Nat}{h:Option (Nat×P)}(e:AY cf' f hs ρ= .ok d ρ')(hc:∀cs outs,cf' f cs= .ok d outs->cf f cs= .err c outs):EO cf i f h hs ρ=match h with
 |none=>.ok (.er c) ρ'
 |some (d,p)=>if c=d then .ok (.ret (.p p)) ρ' else .stuck:=by
 unfold AY at e;unfold EO;cases ec:Am ρ hs with
 |none=>rw[ec]at e;cases e
 |some cs=>
   rw[ec]at e;dsimp only at e ⊢;split at e
   case isFalse=>cases e
   rename_i hg;rw[iP hg];cases ecf:cf' f cs with
   |stuck=>rw[ecf]at e;cases e
   |err _ _=>rw[ecf]at e;cases e
   |ok d2 outs=>
     rw[ecf]at e;dsimp only at e;cases eb:back (lend ρ hs cs) hs cs outs with
     |none=>rw[eb]at e;cases e
     |some ρ2=>
       rw[eb]at e;cases e;rw[hc cs outs ecf];dsimp only;rw[eb];rfl
end Iv
namespace Lk03
open Iv PySem
def VW:List S:=[S.asg 7 (T.C5 "leader_of" 1 [T.var 6]),
    S.ifs (T.prim O.ne [T.var 7,T.var 6]) [S.E5 (T.var 5) (T.var 6) (T.prim O.idx [T.var 4,T.var 7])] []]
def YQ:List S:=[S.OM 4 3 [T.var 1,T.var 3] none,S.asg 5 (T.AB [] []),S.CB (Tg.nm 6) IK.op [T.var 2] VW,S.ret (T.var 5)]
def dq:List S:=S.asg 2 (T.call 4 [T.var 0])::S.asg 3 (T.call 2 [T.var 1,T.var 2])::
 S.ifs (T.prim O.is [T.var 3,T.cst P.AI]) [S.ret (T.cst P.AI)] []::YQ
def aK:T:=T.C5 {cps:=#[106,111,105,110,95,97,108,108]} 1 [T.var 0]
def Um:List S:=S.asg 1 (T.make 2)::S.ifs (T.not aK) [S.ret (T.cst P.AI)] []::dq
theorem f5:fns[5]? =some ⟨1,8,Um⟩:=by kernel_rfl
theorem Ul{k:Nat}{os:List Iv.P}{L:Iv.P->Iv.P}{pc:C}{y3:Option C}(hU:Gh U)(g:Gr U A L)(hos:∀o∈os,o∈U)(hK:∀o∈os,∃v,Ac K (L o)=some v)(hl:os.length < 64)(hn:os.Nodup):
 ∃A' z6 z7,Gr U A' L/\forL (.nm 6) [(2,.lst os)] (execs (A0 fns mt A6 (k+1)) mt A6 VW) os [some pc,some (Aj A),sL os,y3,sD K,sD [],none,none]= .ok .nx [some pc,some (Aj A'),sL os,y3,sD K,sD (DJ L os K),z6,z7]:=by
 let J:List Iv.P->Iv.Env->Prop:=λd ρ=>∃A' z6 z7,Gr U A' L/\ρ=[some pc,some (Aj A'),sL os,y3,sD K,sD (DJ L d K),z6,z7]
 have turn:∀d x r,d++x::r=os->∀ρ,J d ρ->∃ρ1 ρ2 fl,Dp (.nm 6) x ρ=some ρ1/\execs (A0 fns mt A6 (k + 1)) mt A6 VW ρ1= .ok fl ρ2/\(fl= .nx\/fl= .cnt)/\J (d++[x]) ρ2:=by
  intro d x r e ρ ⟨A1,z6,z7,g1,hρ⟩;subst hρ;have hxo:x∈os:=by rw[<-e];simp
  have hxU:=hos x hxo
  have hxd:x∉d:=λz=>by
   rw[<-e,nodup_append]at hn;exact hn.2.2 x z x mS rfl
  have BG:d.length < 64:=by rw[<-e,lA]at hl;lia
  have hsl:(DJ L d K).length<=d.length:=by unfold DJ;rw[lM];exact length_filter_le _ _
  obtain⟨A2,g2,_,hLU,el⟩:=Jg (k:=k) (i:=1) (j:=6) (F:=x) (ρ:=[some pc,some (Aj A1),sL os,y3,sD K,sD (DJ L d K),sP x,z7]) g1 hU hxU rfl rfl;have heq:Gz (L x) x=some (decide (L x=x)):=VY (hU.kd _ hLU) (hU.kd _ hxU) (by have:=hU.dp _ hLU;lia) (by have:=hU.dp _ hxU;lia);obtain⟨v,hv⟩:=hK x hxo;have hkx:=hU.key x hxU;have hkL:=hU.key _ hLU;have hsb:(DJ L d K).length < big:=by unfold big;lia
  have hkv:Bm K (L x)=v:=by unfold Bm;rw[hv];rfl
  by_cases h:L x=x
  .refine⟨_,[some pc,some (Aj A2),sL os,y3,sD K,sD (DJ L d K),sP x,sP (L x)],.nx,rfl,?_,.inl rfl,A2,sP x,sP (L x),g2,?_⟩
   .show execs _ mt A6 VW [some pc,some (Aj A1),sL os,y3,sD K,sD (DJ L d K),sP x,z7]=_;unfold VW;rw[AG el];rw[decide_eq_true h]at heq;simp! [Ab,AA,EK,heq]
   .rw[K0,iP h,append_nil]
  .have hput:dput (DJ L d K) x v=DJ L (d++[x]) K:=by
    rw[K0,iN h,hkv];unfold dput;rw[iN];intro z;obtain⟨q,hq,e2⟩:=any_eq_true.mp z;exact hxd (Ph (L:=L) (K:=K) (by rw[<-of_decide_eq_true e2];exact mem_map_of_mem hq))
   refine⟨_,[some pc,some (Aj A2),sL os,y3,sD K,sD (dput (DJ L d K) x v),sP x,sP (L x)],.nx,rfl,?_,.inl rfl,A2,sP x,sP (L x),g2,by rw[hput]⟩;show execs _ mt A6 VW [some pc,some (Aj A1),sL os,y3,sD K,sD (DJ L d K),sP x,z7]=_;unfold VW;rw[AG el];rw[dF h]at heq;simp! [Ab,AA,EK,heq,AX,C3,Eb,BQ,E6,hkx,hkL,hsb,BB,hv]
 obtain⟨ρ',⟨A',z6,z7,g',hρ⟩,e⟩:=BC (g:=.nm 6) (gs:=[(2,.lst os)]) (J:=J) (λd ρ ⟨A',z6,z7,_,hρ⟩=>by
  subst hρ;unfold holds A8
  simp) turn os [] [some pc,some (Aj A),sL os,y3,sD K,sD [],none,none] rfl ⟨A,none,none,g,rfl⟩
 subst hρ;exact⟨A',z6,z7,g',e⟩
end Lk03
namespace Iv
open PySem
theorem Qz{p:P}(h:Ak p=true)(hd:p.depth<=8):keyOk p=true:=by
 unfold keyOk flat;rw[h,decide_eq_true hd];rfl
theorem E7(p:P):p∈pre p:=by
 cases p with
 |tup ps=>rw[AE];exact mS
 |_=>unfold pre;exact mS
theorem BR{x:P}:∀{l:List P},x∈AU l↔∃p∈l,x∈pre p
 |[]=>by rw[Bi];simp
 |p::l=>by rw[Ap,mem_append,BR (l:=l)];simp
theorem DA(ps:List P):(P.tup ps).depth=P.Ao ps+1:=rfl
theorem BE(p:P)(l:List P):P.Ao (p::l)=max p.depth (P.Ao l):=rfl
theorem G1{n:Nat}:∀{l:List P},(∀p∈l,p.depth<=n)->P.Ao l<=n
 |[],_=>by unfold P.Ao;exact Nat.zero_le _
 | p::l,h=>by
   rw[BE];exact Nat.max_le.mpr ⟨h p mS,G1 λq hq=>h q (mC hq)⟩
theorem DS:∀{l:List P} {p:P},p∈l->p.depth<=P.Ao l
 |[],p,h=>by cases h
 | q::l,p,h=>by
   rw[BE];rcases mK h with z|z
   .rw[z];exact Nat.le_max_left _ _
   .exact Nat.le_trans (DS z) (Nat.le_max_right _ _)
theorem PH:∀(n:Nat) (p:P),(pre p).length<=n->∀q∈pre p,q.depth<=p.depth/\∀x r,q= .tup (x::r)->∀s∈r,s∈pre p:=by
 intro n
 induction n with
 |zero=>intro p h;have:=D6 p;lia
 |succ n ih=>
   intro p hn q hq;cases p with
   |tup ps=>
     rw[AE]at hq hn ⊢;rw[lC]at hn;rcases mK hq with z|z
     .rw[z];refine⟨lR,λx r e s hs=>?_⟩;injection e with e
      subst e;exact mC (BR.mpr ⟨s,hs,E7 s⟩)
     .obtain⟨t,ht,hm⟩:=BR.mp z;have hlt:=Ci ht;obtain⟨h1,h2⟩:=ih t (by lia) q hm;refine⟨?_,λx r e s hs=>mC (BR.mpr ⟨t,ht,h2 x r e s hs⟩)⟩;have:=DS (List.mem_of_mem_tail ht);rw[DA]
      lia
   |_=>
     unfold pre at hq;rw[mE hq];exact⟨lR,λx r e=>by cases e⟩
mutual
theorem DB:∀(p:P),Ak p=true->p.depth<=(pre p).length
 |.int _,_=>Nat.zero_le _
 |.AI,h=>by unfold Ak at h;cases h
 |.bl _,h=>by unfold Ak at h;cases h
 |.str _,h=>by unfold Ak at h;cases h
 | .tup ps,h=>by
   rw[DA,AE,lC];unfold Ak at h;have:=Mf ps h
   lia
theorem Mf:∀(ps:List P),DZ ps=true->P.Ao ps<=(AU ps.tail).length
 |[],h=>by unfold DZ at h;cases h
 | p ::r,h=>by
   cases p with
   |str x=>
     unfold DZ at h;rw[BE,List.tail_cons];have:=Hu r h;have h0:(P.str x).depth=0:=by unfold P.depth;rfl
     lia
   |_=>unfold DZ at h;cases h
theorem Hu:∀(ps:List P),D8 ps=true->P.Ao ps<=(AU ps).length
 |[],_=>by unfold P.Ao;exact Nat.zero_le _
 | p::r,h=>by
   rw[Cm,bA]at h;rw[BE,Ap,lA];have:=DB p h.1;have:=Hu r h.2
   lia
end
structure KG(I:List P)(p:P):Prop where
 kd:Ak p=true
 len:(pre p).length<=14
 dp:p.depth<=8
 ar:∀ps,P.tup ps∈pre p->ps.length<=10
 aC:∀i,P.int i∈pre p->P.int i∈I
def B9(prs:List (P×P)):List P:=prs.flatMap λpr=>pre pr.1++pre pr.2
variable{prs:List (P×P)}
theorem BA{X:P}:X∈B9 prs↔∃pr∈prs,X∈pre pr.1\/X∈pre pr.2:=by
 unfold B9;rw[mem_flatMap];simp only[mem_append]
theorem HE :∀{prs:List (P×P)},(∀pr∈prs,KG I pr.1/\KG I pr.2)->(B9 prs).length<=prs.length * 40
 |[],_=>Nat.zero_le _
 | pr::prs,h=>by
   have:=HE λq hq=>h q (mC hq)
   have h1:=(h pr mS).1.len;have h2:=(h pr mS).2.len;show(((pre pr.1++pre pr.2)++B9 prs)).length<=_;rw[lA,lA,lC]
   lia
theorem UT(h:∀pr∈prs,KG I pr.1/\KG I pr.2)(hl:prs.length<=50):Gh (B9 prs):=by
 have one:∀X∈B9 prs,∃p,KG I p/\X∈pre p/\∀Y∈pre p,Y∈B9 prs:=λX hX=>by
  obtain⟨pr,hpr,hm⟩:=BA.mp hX;rcases hm with hm|hm
  .exact⟨pr.1,(h pr hpr).1,hm,λY hY=>BA.mpr ⟨pr,hpr,.inl hY⟩⟩
  .exact⟨pr.2,(h pr hpr).2,hm,λY hY=>BA.mpr ⟨pr,hpr,.inr hY⟩⟩
 have dp:∀X∈B9 prs,X.depth<=8:=λX hX=>by
  obtain⟨p,kp,hm,_⟩:=one X hX;have:=(PH _ p (lR) X hm).1;have:=kp.dp
  lia
 have kd:∀X∈B9 prs,Ak X=true:=λX hX=>by
  obtain⟨p,kp,hm,_⟩:=one X hX;exact LA p kp.kd X hm
 refine⟨λX hX=>Qz (kd X hX) (dp X hX),kd,λx r hX q hq=>?_,λps hX=>?_,dp,?_⟩
 .obtain⟨p,kp,hm,hall⟩:=one _ hX;exact hall q ((PH _ p (lR) _ hm).2 x r rfl q hq)
 .obtain⟨p,kp,hm,_⟩:=one _ hX;exact kp.ar ps hm
 .have:=HE h
  lia
structure V1(prs:List (P×P))(σ:Sub):Prop where
 fit:Fits σ prs
 dW:∀θ,Fits θ prs->∀i,Ag θ (Ag σ (.int i))=Ag θ (.int i)
 dj:∀i j,P.int j∈pre (Ag σ (.int i))->Ag σ (.int j)= .int j
 mn:∀i j,Ag σ (.int i)= .int j->j<=i
 kd:∀i,Ak (Ag σ (.int i))=true
variable{τ:Sub}
theorem Qd(m1:∀i j,Ag σ (.int i)= .int j->j<=i)(m2:∀i j,Ag τ (.int i)= .int j->j<=i):∀(n:Nat) (a b:P),(pre a).length<=n->Ak a=true->Ak b=true->(∀j,P.int j∈pre a->Ag σ (.int j)= .int j)->(∀j,P.int j∈pre b->Ag τ (.int j)= .int j)->Ag τ a=b->Ag σ b=a->a=b:=by
 intro n
 induction n with
 |zero=>intro a b h;have:=D6 a;lia
 |succ n ih=>
   intro a b hn ka kb ha hb h1 h2;cases a with
   |int i=>
     cases b with
     |int j=>
       have:=m2 i j h1;have:=m1 j i h2;rw[show i=j by lia]
     |tup qs=>
       obtain⟨y,s,rfl,hs⟩:=AJ kb;rw[Bh]at h2;cases h2
     |_=>unfold Ak at kb;cases kb
   |tup ps=>
     obtain⟨x,r,rfl,hr⟩:=AJ ka;cases b with
     |int j=>
       rw[Bh]at h1;cases h1
     |tup qs=>
       obtain⟨y,s,rfl,hs⟩:=AJ kb;rw[Bh,B1]at h1 h2;injection h1 with h1
       injection h2 with h2
       injection h1 with e1 h1
       injection h2 with e2 h2
       rw[e2]
       congr 2
       rw[AE,lC]at hn;replace hn:(AU r).length+1<=n+1:=hn;replace ha:∀p∈r,∀j,P.int j∈pre p->Ag σ (.int j)= .int j:=λp hp j hj=>ha j (by rw[AE];exact mC (BR.mpr ⟨p,hp,hj⟩))
       replace hb:∀p∈s,∀j,P.int j∈pre p->Ag τ (.int j)= .int j:=λp hp j hj=>hb j (by rw[AE];exact mC (BR.mpr ⟨p,hp,hj⟩))
       have kr:=C4 hr;have ks:=C4 hs;clear e1 e2 ka kb hr hs
       induction r generalizing s with
       |nil=>rw[<-h1];rfl
       |cons p r ihr=>
         cases s with
         |nil=>cases h1
         |cons q s=>
           rw[map_cons]at h1 h2;injection h1 with g1 g2
           injection h2 with g3 g4
           rw[Ap,lA]at hn;rw[ih p q (by lia) (kr p mS) (ks q mS) (ha p mS) (hb q mS) g1 g3,ihr s g2 g4 (by lia) (λp hp=>ha p (mC hp)) (λp hp=>hb p (mC hp)) (λp hp=>kr p (mC hp)) (λp hp=>ks p (mC hp))]
     |_=>unfold Ak at kb;cases kb
   |_=>unfold Ak at ka;cases ka
theorem V1.same{prs':List (P×P)}(h:V1 prs σ)(h':V1 prs' τ)(hf:∀θ,Fits θ prs↔Fits θ prs')(i:Int):Ag σ (.int i)=Ag τ (.int i):=
 Qd h.mn h'.mn _ _ _ (lR) (h.kd i) (h'.kd i) (h.dj i) (h'.dj i) (h.dW τ ((hf τ).mpr h'.fit) i) (h'.dW σ ((hf σ).mp h.fit) i)
variable{ord:List P}{L:P->P}
theorem Xf{os:List P}(hU:Gh U)(hd:Done U prs A L)(ks:KS L ord K)(ho:Ord L ord U (os.map L))(hn:os.Nodup)(hin:∀pr∈prs,pr.1∈U/\pr.2∈U)(hos:∀i,P.int i∈U↔P.int i∈os)(hoi:∀o∈os,∃i,o= .int i):V1 prs (DJ L os K):=by
 have hσ:=IT (L:=L) (K:=K) hn
 have put:∀i,Ag (DJ L os K) (.int i)=if P.int i∈os then Bm K (L (.int i))else .int i:=λi=>by
  rw[Dr,hσ]
  by_cases h:P.int i∈os
  .by_cases hL:L (.int i)= .int i
   .rw[iN (λz=>z.2 hL),iP h,hL,FU ks (by have:=ho.MI _ (mem_map_of_mem (f:=L) h);rw[hL]at this;exact this)];rfl
   .rw[iP ⟨h,hL⟩,iP h];rfl
  .rw[iN (λz=>h z.1),iN h];rfl
 have ltop:∀F,L (L F)=L F:=λF=>(hd.gr.top F).1
 have chtop:∀X c,c∈ch L X->L c=c:=λX c hc=>by
  cases X with
  |tup ps=>
    cases ps with
    |nil=>cases hc
    |cons x r=>obtain⟨p,_,rfl⟩:=mem_map.mp (show c∈r.map L from hc);exact ltop p
  |_=>cases hc
 have inord:∀i,P.int i∈os->L (.int i)∈ord:=λi h=>ho.MI _ (mem_map_of_mem h)
 have kds:∀X∈ord,Ak (Bm K X)=true:=ks.ind (Q:=λX k=>Ak k=true) ho.ok λX hX h=>Kq (hU.kd X (ho.F5 X hX)) h
 have opens:∀X∈ord,L X=X->∀j,P.int j∈pre (Bm K X)->L (.int j)= .int j:=ks.ind (Q:=λX k=>L X=X->∀j,P.int j∈pre k->L (.int j)= .int j) ho.ok λX hX h hl j hj=>by
  have hkX:=hU.kd X (ho.F5 X hX);cases X with
  |int i=>
    have hj:P.int j∈pre (.int i):=hj;unfold pre at hj;rw[mE hj];exact hl
  |tup ps=>
    obtain⟨x,r,rfl,_⟩:=AJ hkX;rw[DP,AE]at hj;rcases mK hj with z|z
    .cases z
    .obtain⟨p,hp,hm⟩:=BR.mp (show P.int j∈AU ((ch L (.tup (.str x::r))).map (Bm K))from z);obtain⟨c,hc,rfl⟩:=mem_map.mp hp;exact h c hc (chtop _ c hc) j hm
  |_=>unfold Ak at hkX;cases hkX
 refine⟨λpr hpr=>SN hd ks ho hU (λi h=>(hos i).mp h) hσ _ pr.1 pr.2 (lR) (hin pr hpr).1 (hin pr hpr).2 (hd.one pr hpr),λθ hθ i=>?_,λi j hj=>?_,λi j e=>?_,λi=>?_⟩
 .have hu:=hd.Sk θ hθ;rw[put]
  by_cases h:P.int i∈os
  .rw[iP h];have:=ks.ind (Q:=λX k=>Ag θ k=Ag θ X) ho.ok (λX _ h=>T7 hu h) _ (inord i h);rw[this,hu]
  .rw[iN h]
 .rw[put]at hj
  by_cases h:P.int i∈os
  .rw[iP h]at hj;have hl:=opens _ (inord i h) (ltop _) j hj;rw[Dr,hσ,iN λz=>z.2 hl];rfl
  .rw[iN h]at hj;unfold pre at hj;rw[mE hj,put,iN h]
 .rw [put]at e
  by_cases h:P.int i∈os
  .rw[iP h,FU ks (inord i h)]at e;have hk:=hU.kd _ (ho.F5 _ (inord i h));cases hx:L (.int i)with
   |int a=>
     rw[hx]at e;have e:P.int a= .int j:=e;injection e with e
     rw[<-e];exact hd.mn i a hx
   |tup ps=>
     rw[hx]at e hk;obtain⟨x,r,rfl,_⟩:=AJ hk;rw[DP]at e;cases e
   |_=>rw[hx]at hk;unfold Ak at hk;cases hk
  .rw[iN h]at e;injection e with e
   lia
 .rw[put]
  by_cases h:P.int i∈os
  .rw[iP h];exact kds _ (inord i h)
  .rw[iN h];unfold Ak;rfl
def cn(p:Int->P)(ss:List Int):List (P×P):=(ss.filter λi=>!decide (p i= .int i)).map λi=>(P.int i,p i)
theorem VZ{K:List (P×P)}{f:Int->P}:∀{l:List Int},(∀i∈l,f i=Bm K (L (.int i))/\(L (.int i)= .int i↔Bm K (L (.int i))= .int i))->DJ L (l.map .int) K=cn f l
 |[],_=>rfl
 | i ::l,h=>by
   have ih:DJ L (l.map .int) K=cn f l:=VZ λj hj=>h j (mC hj)
   obtain⟨h1,h2⟩:=h i mS;unfold DJ cn at ih ⊢;rw[map_cons]
   by_cases hl:L (.int i)= .int i
   .rw[filter_cons_of_neg (by simp[hl]),filter_cons_of_neg (by rw[h1,h2.mp hl];simp)];exact ih
   .have hn:¬f i= .int i:=λz=>hl (h2.mpr (h1▸z))
    rw[filter_cons_of_pos (by simp[hl]),filter_cons_of_pos (by simp[hn]),map_cons,map_cons,h1,ih]
theorem Wt{os:List P}{ss:List Int}(hU:Gh U)(hd:Done U prs A L)(ks:KS L ord K)(ho:Ord L ord U (os.map L))(hn:os.Nodup)(e:os=ss.map .int):DJ L os K=cn (λi=>Ag (DJ L os K) (.int i)) ss:=by
 have hσ:=IT (L:=L) (K:=K) hn
 have put:∀i∈ss,Ag (DJ L os K) (.int i)=Bm K (L (.int i))/\(L (.int i)= .int i↔Bm K (L (.int i))= .int i):=λi hi=>by
  have h:P.int i∈os:=by rw[e];exact mem_map_of_mem hi
  have hL:=ho.MI _ (mem_map_of_mem (f:=L) h)
  have two:L (.int i)= .int i↔Bm K (L (.int i))= .int i:=by
   rw[FU ks hL];have hk:=hU.kd _ (ho.F5 _ hL);cases hx:L (.int i)with
   |int a=>exact⟨λz=>by rw[z];rfl,λz=>z⟩
   |tup ps=>
     rw[hx]at hk;obtain⟨x,r,rfl,_⟩:=AJ hk;rw[DP];exact⟨λz=>(by cases z),λz=>(by cases z)⟩
   |_=>rw[hx]at hk;unfold Ak at hk;cases hk
  refine⟨?_,two⟩;rw[Dr,hσ]
  by_cases hl:L (.int i)= .int i
  .rw[iN (λz=>z.2 hl),two.mp hl];rfl
  .rw[iP ⟨h,hl⟩];rfl
 have:=VZ (L:=L) (K:=K) (f:=λi=>Ag (DJ L os K) (.int i)) (l:=ss) put;rw[<-e]at this;exact this
theorem Pu{os:List P}(hU:Gh U)(ks:KS L ord K)(ho:Ord L ord U (os.map L))(h:Yi L (os.map L) X):∃o∈os,(pre (Bm K X)).length<=(pre (Bm K (L o))).length/\X∈ord:=by
 induction h with
 |root h=>
   obtain⟨o,h1,rfl⟩:=mem_map.mp h;exact⟨o,h1,lR,ho.MI _ h⟩
 |@part F c hF hc ih=>
   obtain⟨o,h1,h2,h3⟩:=ih;have hkF:=hU.kd F (ho.F5 F h3);refine⟨o,h1,?_,ks.cl F h3 c hc⟩;have hp:=MV (K:=K) (L:=L) hkF;rw[<-FU ks h3]at hp
   have:(pre (Bm K c)).length<=(AU ((ch L F).map (Bm K))).length:=by
    have hm:Bm K c∈(ch L F).map (Bm K):=mem_map_of_mem hc;generalize (ch L F).map (Bm K)=l at hm;clear hp h2
    induction l with
    |nil=>cases hm
    |cons p l ihl=>
      rw[Ap,lA];rcases mK hm with z|z
      .rw[z];lia
      .have:=ihl z;lia
   lia
def YT(cf:CF)(c:Nat):CF:=λf cs=>match cf f cs with
 |.err d outs=>if d=c then .ok (.p .AI) outs else .stuck
 |_=>.stuck
variable{cf:CF}{cs:List C}{outs:List (Option C)}
theorem R4{c f:Nat}(e:cf f cs= .err c outs):YT cf c f cs= .ok (.p .AI) outs:=by
 unfold YT;rw[e];exact iP rfl
theorem Nl{c f:Nat}(e:YT cf c f cs= .ok d outs):cf f cs= .err c outs:=by
 unfold YT at e;cases h:cf f cs with
 |err a o=>
   rw[h]at e;dsimp only at e;split at e
   .rename_i z;cases e;rw[z]
   .cases e
 |_=>rw[h]at e;cases e
end Iv
namespace Lk03
open Iv PySem
theorem Uk{k:Nat}(hz:O.ok (.list .zip)=true){prs:List (Iv.P×Iv.P)}{I:List Iv.P}(hp:∀pr∈prs,KG I pr.1/\KG I pr.2)(hl:prs.length<=50)(hI:I.length < 64):
 ((∀θ,¬Fits θ prs)/\A0 fns mt A6 (k+4) 5 [.lst (prs.map enc)]= .ok (.p .AI) [sL (prs.map enc)])\/
 (∃σ,V1 prs σ/\(∃i,Iv.P.int i∈B9 prs/\60 < (pre (Ag σ (.int i))).length)/\A0 fns mt A6 (k+4) 5 [.lst (prs.map enc)]= .err 1 [sL (prs.map enc)])\/
 (∃σ,∃ss:List Int,V1 prs σ/\ss.Pairwise (· < ·)/\(∀i,Iv.P.int i∈B9 prs↔i∈ss)/\ss.length < 64/\(∀i∈ss,(pre (Ag σ (.int i))).length<=60)/\σ=cn (λi=>Ag σ (.int i)) ss/\A0 fns mt A6 (k+4) 5 [.lst (prs.map enc)]= .ok (.AB σ) [sL (prs.map enc)]):=by
 have hU:=UT hp hl;have hin:∀pr∈prs,pr.1∈B9 prs/\pr.2∈B9 prs:=λpr hpr=>⟨BA.mpr ⟨pr,hpr,.inl (E7 _)⟩,BA.mpr ⟨pr,hpr,.inr (E7 _)⟩⟩
 have e0:∀ρ,ev (A0 fns mt A6 (k + 3)) mt (.AB [] []) ρ= .ok (.AB []) ρ:=λρ=>by
  show(den _ _ (.AB [] [])).v _=_;unfold den;rfl
 have em:ev (A0 fns mt A6 (k + 3)) mt (.make 2) [sL (prs.map enc),none,none,none,none,none,none,none]= .ok (Aj []) [sL (prs.map enc),none,none,none,none,none,none,none]:=by
  have hm:mt.m 2 (Str.ofString "__init__")=some 15:=by kernel_rfl
  show(match mt.m 2 (Str.ofString "__init__")with|some f=>Hf (A0 fns mt A6 (k+3)) f 2 _|none=>.stuck)=_;rw[hm];show Hf _ _ _ _=_;unfold Hf;rw[Uc (k:=k+2)]
 have tj:∀{b:Bool} {A:List (Iv.P×Iv.P)},A0 fns mt A6 (k + 3) 18 [Aj [],.lst (prs.map enc)]= .ok (.p (.bl b)) [some (Aj A),sL (prs.map enc)]->tv (A0 fns mt A6 (k + 3)) mt aK [sL (prs.map enc),some (Aj []),none,none,none,none,none,none]= .ok b [sL (prs.map enc),some (Aj A),none,none,none,none,none,none]:=λ{b A} ej=>by
  have ejj:ev (A0 fns mt A6 (k + 3)) mt aK [sL (prs.map enc),some (Aj []),none,none,none,none,none,none]= .ok (.p (.bl b)) [sL (prs.map enc),some (Aj A),none,none,none,none,none,none]:=by
   unfold aK;rw[M9 _ rfl,Cr rfl,Res.A5];exact Ek (i:=1) (j:=0) rfl rfl rfl rfl (by decide) ej
  exact(Sl _ _ _ _).trans (congrArg VS ejj)
 rcases Kp (k:=k+1) hz hU hin (by lia)with⟨A,L,hd,ej⟩|⟨A,hno,ej⟩
 case inr=>
  refine .inl ⟨hno,?_⟩;have t:=tj ej
  have e2:execs (A0 fns mt A6 (k + 3)) mt A6 Um [sL (prs.map enc),none,none,none,none,none,none,none]= .ok (.ret (.p .AI)) [sL (prs.map enc),some (Aj A),none,none,none,none,none,none]:=by
   unfold Um;rw[AG em];simp! [t]
  rw[Ar f5 rfl e2];rfl
 have hko:∀{p},KG I p->V2 I p:=λh=>⟨h.kd,by have:=h.len;lia,h.aC⟩
 obtain⟨os,⟨ss,hss,hlt⟩,o1,o2,eo⟩:=Fj (k:=k) (prs:=prs) (I:=I) (λpr hpr=>⟨hko (hp pr hpr).1,hko (hp pr hpr).2⟩) hI
 have hn:os.Nodup:=by
  rw[hss];exact List.Pairwise.map _ (λa b h z=>by injection z with z;lia) hlt
 have osU:∀o∈os,o∈B9 prs:=λo ho=>BA.mpr ((o1 o).mp ho).2
 have Uos:∀i,Iv.P.int i∈B9 prs↔Iv.P.int i∈os:=λi=>⟨λhi=>(o1 _).mpr ⟨⟨i,rfl⟩,BA.mp hi⟩,λh=>osU _ h⟩
 have hiss:∀i,Iv.P.int i∈os↔i∈ss:=λi=>by
  rw[hss,mem_map];exact⟨λ⟨j,hj,e⟩=>by injection e with e;exact e▸hj,λh=>⟨i,h,rfl⟩⟩
 have hoi:∀o∈os,∃i,o= .int i:=λo ho=>((o1 o).mp ho).1
 have eoo:ev (A0 fns mt A6 (k + 3)) mt (T.call 4 [T.var 0]) [sL (prs.map enc),some (Aj A),none,none,none,none,none,none]= .ok (.lst os) [sL (prs.map enc),some (Aj A),none,none,none,none,none,none]:=by
  rw[AN];show(Ad _ _ [T.var 0] _).bind _=_;rw[Cr rfl,Res.A5];exact CH (i:=0) rfl rfl rfl (λc hc=>by cases hc) eo rfl
 have s2:exec (A0 fns mt A6 (k + 3)) mt A6 (S.ifs (T.not aK) [S.ret (T.cst P.AI)] []) [sL (prs.map enc),some (Aj []),none,none,none,none,none,none]= .ok .nx [sL (prs.map enc),some (Aj A),none,none,none,none,none,none]:=by
  simp! [tj ej]
 have head:execs (A0 fns mt A6 (k + 3)) mt A6 Um [sL (prs.map enc),none,none,none,none,none,none,none]=execs (A0 fns mt A6 (k + 3)) mt A6 dq.tail [sL (prs.map enc),some (Aj A),sL os,none,none,none,none,none]:=by
  unfold Um;rw[AG em,set_cons_succ,set_cons_zero,CT s2];unfold dq;rw[AG eoo];rfl
 have ell:∀{c:C} {A2:List (Iv.P×Iv.P)},A0 fns mt A6 (k + 3) 2 [Aj A,.lst os]= .ok c [some (Aj A2),sL os]->ev (A0 fns mt A6 (k + 3)) mt (T.call 2 [T.var 1,T.var 2]) [sL (prs.map enc),some (Aj A),sL os,none,none,none,none,none]= .ok c [sL (prs.map enc),some (Aj A2),sL os,none,none,none,none,none]:=λ{c A2} el=>by
  rw[AN];show(Ad _ _ [T.var 1,T.var 2] _).bind _=_;have:Ad (A0 fns mt A6 (k+3)) mt [T.var 1,T.var 2] [sL (prs.map enc),some (Aj A),sL os,none,none,none,none,none]= .ok [.slot 1,.slot 2] [sL (prs.map enc),some (Aj A),sL os,none,none,none,none,none]:=by simp! []
  rw[this,Res.A5];exact Ek (i:=1) (j:=2) rfl rfl rfl rfl (by decide) el
 rcases LS (k:=k) hU hd.gr osU (by lia)with⟨A2,ord,g2,ho,el⟩|⟨A2,hno,el⟩
 case inr=>
  refine .inl ⟨λθ hθ=>hno θ (hd.Sk θ hθ),?_⟩
  have e2:execs (A0 fns mt A6 (k + 3)) mt A6 Um [sL (prs.map enc),none,none,none,none,none,none,none]= .ok (.ret (.p .AI)) [sL (prs.map enc),some (Aj A2),sL os,sP .AI,none,none,none,none]:=by
   rw[head];show execs _ _ _ (S.asg 3 (T.call 2 [T.var 1,T.var 2])::S.ifs (T.prim O.is [T.var 3,T.cst P.AI]) [S.ret (T.cst P.AI)] []::YQ) _=_;rw[AG (ell el)];simp! [Ab,AA]
  rw[Ar f5 rfl e2];rfl
 have hol:ord.length<=2000:=by
  have:=Eu ho.nd ho.F5;have:=hU.len
  lia
 have head2:execs (A0 fns mt A6 (k + 3)) mt A6 Um [sL (prs.map enc),none,none,none,none,none,none,none]=execs (A0 fns mt A6 (k + 3)) mt A6 YQ [sL (prs.map enc),some (Aj A2),sL os,sL ord,none,none,none,none]:=by
  rw[head];show execs _ _ _ (S.asg 3 (T.call 2 [T.var 1,T.var 2])::S.ifs (T.prim O.is [T.var 3,T.cst P.AI]) [S.ret (T.cst P.AI)] []::YQ) _=_;rw[AG (ell el)]
  have s5:exec (A0 fns mt A6 (k + 3)) mt A6 (S.ifs (T.prim O.is [T.var 3,T.cst P.AI]) [S.ret (T.cst P.AI)] []) [sL (prs.map enc),some (Aj A2),sL os,sL ord,none,none,none,none]= .ok .nx [sL (prs.map enc),some (Aj A2),sL os,sL ord,none,none,none,none]:=by
   simp! [Ab,AA]
  rw[set_cons_succ,set_cons_succ,set_cons_succ,set_cons_zero,CT s5]
 have Le:∀K,KS L ord K->V1 prs (DJ L os K):=λK ks=>Xf hU hd ks ho hn hin Uos hoi
 have putK:∀K,KS L ord K->∀i,Iv.P.int i∈os->Ag (DJ L os K) (.int i)=Bm K (L (.int i)):=λK ks i h=>JZ hd ks hU (λj hj=>(Uos j).mp hj) (IT hn) _ _ (lR) (osU _ h) (ho.MI _ (mem_map_of_mem h))
 have da:Ad (A0 fns mt A6 (k+3)) mt [T.var 1,T.var 3] [sL (prs.map enc),some (Aj A2),sL os,sL ord,none,none,none,none]= .ok [.slot 1,.slot 3] [sL (prs.map enc),some (Aj A2),sL os,sL ord,none,none,none,none]:=by simp! []
 rcases Qy (k:=k) hU g2 ho hol with⟨A3,K,g3,ks,hK,ek⟩|⟨A3,K,ks,⟨X,hX,h60⟩,ek⟩
 .have hKo:∀o∈os,∃v,Ac K (L o)=some v:=λo h=>⟨_,ks.YU _ (ho.MI _ (mem_map_of_mem h))⟩
  obtain⟨A4,z6,z7,g4,ef⟩:=Ul (k:=k+2) (pc:=.lst (prs.map enc)) (y3:=some (.lst ord)) hU g3 osU hKo o2 hn;refine .inr (.inr ⟨DJ L os K,ss,Le K ks,hlt,λi=>(Uos i).trans (hiss i),by rw[hss,lM]at o2;exact o2,λi hi=>?_,Wt hU hd ks ho hn hss,?_⟩)
  .rw[putK K ks i ((hiss i).mpr hi)];exact(hK _ (ho.MI _ (mem_map_of_mem ((hiss i).mpr hi)))).2
  .have has:Bu VW=[7]:=by decide
   have ec:=L0 (i:=4) (h:=none) (Ek (cf:=A0 fns mt A6 (k+3)) (f:=3) (i:=1) (j:=3) (ρ:=[sL (prs.map enc),some (Aj A2),sL os,sL ord,none,none,none,none]) rfl rfl rfl rfl (by decide) ek)
   have sc:exec (A0 fns mt A6 (k + 3)) mt A6 (S.OM 4 3 [T.var 1,T.var 3] none) [sL (prs.map enc),some (Aj A2),sL os,sL ord,none,none,none,none]= .ok .nx [sL (prs.map enc),some (Aj A3),sL os,sL ord,sD K,none,none,none]:=by
    rw[GF,da,GG,ec];rfl
   have e2:execs (A0 fns mt A6 (k + 3)) mt A6 Um [sL (prs.map enc),none,none,none,none,none,none,none]= .ok (.ret (.AB (DJ L os K))) [sL (prs.map enc),some (Aj A4),sL os,sL ord,sD K,none,z6,z7]:=by
    rw[head2];unfold YQ;rw[CT sc];simp! [e0,BD,IK.ok,Dy,Ae,Dq,A9,guards,has,Tg.slots,ef]
   rw[Ar f5 rfl e2];rfl
 .refine .inr (.inl ⟨DJ L os K,Le K ks,?_,?_⟩)
  .obtain⟨o,h1,h2,_⟩:=Pu hU ks ho (ho.fe X hX);obtain⟨i,rfl⟩:=hoi o h1;exact⟨i,(Uos i).mpr h1,by rw[putK K ks i h1];lia⟩
  .have ec:=L1 (cf:=A0 fns mt A6 (k+3)) (cf':=YT (A0 fns mt A6 (k+3)) 1) (i:=4) (c:=1) (h:=none) (Ek (f:=3) (i:=1) (j:=3) (c:=.p .AI) (ρ:=[sL (prs.map enc),some (Aj A2),sL os,sL ord,none,none,none,none]) rfl rfl rfl rfl (by decide) (R4 ek)) (λcs outs e=>Nl e)
   have sc:exec (A0 fns mt A6 (k + 3)) mt A6 (S.OM 4 3 [T.var 1,T.var 3] none) [sL (prs.map enc),some (Aj A2),sL os,sL ord,none,none,none,none]= .ok (.er 1) [sL (prs.map enc),some (Aj A3),sL os,sL ord,none,none,none,none]:=by
    rw[GF,da,GG,ec];rfl
   have e2:execs (A0 fns mt A6 (k + 3)) mt A6 Um [sL (prs.map enc),none,none,none,none,none,none,none]= .ok (.er 1) [sL (prs.map enc),some (Aj A3),sL os,sL ord,none,none,none,none]:=by
    rw[head2];unfold YQ;rw[Lb,sc];rfl
   rw[NB f5 rfl e2];rfl
end Lk03
namespace Iv
open PySem
variable{cf:CF}{mt:MT}
theorem JD{f:Nat}{hs:List Hd}{cs:List C}{outs:List (Option C)}{ρ':Env}(ec:Am ρ hs=some cs)(nd:(BY hs cs).Nodup)(hg:A9 hs cs=true)(e:cf f cs= .ok c outs)(eb:back (lend ρ hs cs) hs cs outs=some ρ'):AY cf f hs ρ= .ok c ρ':=by
 unfold AY;rw[ec];dsimp only;rw[iP ⟨nd,hg⟩,e];dsimp only;rw[eb];rfl
theorem Hy{gs:List (Nat×C)}{cond:Env->Res Bool}{elt:Env->Res C}{Q:P->Prop}{J:Env->Prop}(hg:∀β,J β->holds gs β=true):∀(xs acc:List P) (β:Env),(∀x∈xs,∀β,J β->∃β1 y β',Dp g x β=some β1/\cond β1= .ok true β1/\elt β1= .ok (.p y) β'/\Q y/\J β')->J β->∃ys β',J β'/\ys.length=xs.length/\(∀y∈ys,Q y)/\CW g gs cond elt xs acc β= .ok (acc++ys) β'
 | [],acc,β,_,h=>⟨[],β,h,rfl,λy hy=>(by cases hy),by
   show(if holds gs β then _ else _)=_
   rw[hg β h,append_nil];rfl⟩
 | x ::xs,acc,β,hs,h=>by
   obtain⟨β1,y,β',e1,e2,e3,hq,h'⟩:=hs x mS β h;obtain⟨ys,β2,q1,q2,q3,q4⟩:=Hy hg xs (acc++[y]) β' (λz hz=>hs z (mC hz)) h';refine⟨y::ys,β2,q1,by rw[lC,lC,q2],λz hz=>?_,?_⟩
   .rcases mK hz with w|w
    .rw[w];exact hq
    .exact q3 z w
   .rw[Fy (hg β h) e1 e2 e3];rw[q4,append_assoc];rfl
theorem G5(a b:Str):(a++b).length=a.length + b.length:=by
 show(a.cps++b.cps).size=_;simp[Str.length]
theorem Ud{x:Str}{i:Int}(hb:x.length<=big)(h0:0<=i)(h1:i < x.length):∃c,BB (.p (.str x)) (.p (.int i))=some (.p (sign c)):=by
 unfold BB C.nf;dsimp only;rw[iP hb];unfold Gs;rw[iP h0,iP h1];have hl:x.cps.toList.length=x.length:=by simp[Str.length]
 have:i.toNat < x.cps.toList.length:=by rw[hl];lia
 exact⟨x.cps.toList[i.toNat],by show(x.cps.toList[i.toNat]?).map _=_;rw[List.getElem?_eq_getElem this];rfl⟩
end Iv
namespace Lk03
open Iv PySem
def Ki:Str:={cps:=#[97,98,99,100,101,102,103,104,105,106,107,108,109,110,111,112,113,114,115,116,117,118,119,120,121,122]}
def bE:List S:=[S.asg 2 (T.prim O.add [T.var 2,T.prim O.idx [T.var 1,T.prim O.mod [T.prim O.fdiv [T.var 0,T.prim O.add [T.cst (P.int 8),T.prim O.mul [T.cst (P.int 3),T.var 3]]],T.cst (P.int 26)]]])]
def bD:T:=T.prim O.add [T.prim O.add [T.prim (O.Gn false true) [T.var 5,T.var 2],T.prim O.idx [T.var 4,T.prim O.mod [T.prim O.add [T.prim O.fdiv [T.var 3,T.cst (P.int 512)],T.var 1],T.cst (P.int 26)]]],T.prim (O.Gn true false) [T.var 5,T.var 2]]
def cR:T:=T.comp (Tg.nm 1) IK.Ff [T.cst (P.int 6)] [] bD [none,none,some 4,some 0,some 1,some 2]
noncomputable def cQ:List S:=[S.asg 1 (T.cst (P.str Ki)),S.asg 2 (T.cst (P.str {cps:=#[]})),
 S.CB (Tg.nm 3) IK.Ff [T.prim O.mod [T.var 0,T.cst (P.int 8)]] bE,
 S.asg 4 (T.prim O.mod [T.prim O.fdiv [T.var 0,T.cst (P.int 64)],T.prim O.add [T.prim O.len [T.var 2],T.cst (P.int 1)]]),
 S.ret cR]
theorem f7:fns[7]? =some ⟨1,5,cQ⟩:=by kernel_rfl
variable{cf:CF}
theorem Qg{i:Int}(h0:0<=i)(h1:i < 26):∃c,BB (.p (.str Ki)) (.p (.int i))=some (.p (sign c)):=Ud (by show 26<=big;unfold big;lia) h0 h1
theorem TC{j:Int}{x:Str}{y4:Option C}(h0:0<=j)(h1:j < 8)(hx:x.length<=100):∃s,s.length=x.length + 1/\execs cf mt A6 bE [sP (.int c),sP (.str Ki),sP (.str x),sP (.int j),y4]= .ok .nx [sP (.int c),sP (.str Ki),sP (.str s),sP (.int j),y4]:=by
 obtain⟨s,hs⟩:=Qg (i:=c/(8+3*j)%26) (Int.emod_nonneg _ (by lia)) (Int.emod_lt_of_pos _ (by lia));refine⟨x++⟨#[s]⟩,by rw[G5];rfl,?_⟩;have hm:Jb 3 j=some (3*j):=by unfold Jb;rw[iP (.inl (by lia))]
 have hd:Dz c (8+3*j)=some (c/(8+3*j)):=by unfold Dz;rw[iP (by lia)]
 have hl:x.length+(⟨#[s]⟩:Str).length<=big:=by show x.length+1<=big;unfold big;lia
 have hmm:mulC (.p (.int 3)) (.p (.int j))=some (.p (.int (3 * j))):=by
  unfold mulC;simp[Ca,hm]
 have hadd:D1 (.p (.str x)) (.p (sign s))=some (.p (.str (x++⟨#[s]⟩))):=by
  unfold sign;show(if x.length+(⟨#[s]⟩:Str).length<=big then _ else _)=_;rw[iP hl]
 have ha8:D1 (.p (.int 8)) (.p (.int (3*j)))=some (.p (.int (8+3*j))):=rfl;unfold bE;simp! [Ab,hmm,ha8,Ca,hd,CO,hs,hadd]
theorem XS{x:Str}{i:Int}(hb:x.length<=big)(h0:0<=i)(h1:i<=x.length):∃y,y.length<=x.length/\E4 (.p (.str x)) none (some i)=some (.p (.str y)):=by
 refine⟨⟨(x.cps.toList.take i.toNat).toArray⟩,by simp[Str.length];lia,?_⟩;unfold E4 C.nf IM;dsimp only;rw[iP ⟨h0,h1,hb⟩];rfl
theorem XT{x:Str}{i:Int}(hb:x.length<=big)(h0:0<=i)(h1:i<=x.length):∃y,y.length<=x.length/\E4 (.p (.str x)) (some i) none=some (.p (.str y)):=by
 refine⟨⟨(x.cps.toList.drop i.toNat).toArray⟩,by simp[Str.length],?_⟩;unfold E4 C.nf IM;dsimp only;rw[iP ⟨h0,h1,hb⟩];rfl
theorem add_str{x y:Str}(h:x.length + y.length<=1000):D1 (.p (.str x)) (.p (.str y))=some (.p (.str (x++y))):=by
 show(if x.length+y.length<=big then _ else _)=_;rw[iP (by unfold big;lia)]
def aA:Iv.P->Prop:=λp=>∃s:Str,p= .str s
theorem Qh{k:Nat} :∃ns,ns.length=6/\(∀p∈ns,aA p)/\A0 fns mt A6 (k + 1) 7 [.p (.int c)]= .ok (.lst ns) [sP (.int c)]:=by
 have hm8:0<=c%8/\c%8 < 8:=⟨Int.emod_nonneg _ (by lia),Int.emod_lt_of_pos _ (by lia)⟩
 let J:List Iv.P->Iv.Env->Prop:=λd ρ=>∃x y3,Str.length x=d.length/\ρ=[sP (.int c),sP (.str Ki),sP (.str x),y3,none]
 have hrl:(Av 0 (c%8)).length<=8:=by rw[Bb];lia
 obtain⟨ρ',⟨x,y3,hx,hρ⟩,e⟩:=BC (g:=.nm 3) (gs:=[]) (b:=execs (A0 fns mt A6 k) mt A6 bE) (J:=J) (all:=Av 0 (c % 8)) (λ_ _ _=>rfl) (λd q r e ρ ⟨x,y3,hx,hρ⟩=>by
  subst hρ;have hq:q∈Av 0 (c%8):=by rw[<-e];simp
  unfold Av at hq;obtain⟨j,hj,rfl⟩:=mem_map.mp hq;have hj:=mem_range.mp hj;have BG:d.length<=8:=by rw[<-e,lA]at hrl;lia
  obtain⟨s,hs,es⟩:=TC (cf:=A0 fns mt A6 k) (c:=c) (j:=0+(j:Int)) (x:=x) (y4:=none) (by lia) (by lia) (by lia)
  exact⟨_,_,.nx,rfl,es,.inl rfl,s,_,by rw[hs,hx,lA];rfl,rfl⟩) (Av 0 (c%8)) [] [sP (.int c),sP (.str Ki),sP (.str {cps:=#[]}),none,none] rfl ⟨{cps:=#[]},none,rfl,rfl⟩
 subst hρ;have hxl:Str.length x<=8:=by lia
 have hx1:(0:Int) < (x.length:Int)+1:=by lia
 obtain⟨y1,hy1,e1⟩:=XS (x:=x) (i:=c/64%((x.length:Int)+1)) (by unfold big;lia) (Int.emod_nonneg _ (by lia)) (by have:=Int.emod_lt_of_pos (c/64) hx1;lia);obtain⟨y2,hy2,e2⟩:=XT (x:=x) (i:=c/64%((x.length:Int)+1)) (by unfold big;lia) (Int.emod_nonneg _ (by lia)) (by have:=Int.emod_lt_of_pos (c/64) hx1;lia);generalize hat:c/64%((x.length:Int)+1)=at0 at *
 obtain⟨ns,β',⟨y,hβ⟩,n1,n2,n3⟩:=Hy (g:=.nm 1) (gs:=[]) (cond:=Eh (A0 fns mt A6 k) mt []) (elt:=ev (A0 fns mt A6 k) mt bD) (Q:=aA) (J:=λβ=>∃y,β=[none,y,sP (.int at0),sP (.int c),sP (.str Ki),sP (.str x)]) (λ_ _=>rfl) (Av 0 6) [] [none,none,sP (.int at0),sP (.int c),sP (.str Ki),sP (.str x)] (λq hq β ⟨y,hβ⟩=>by
  subst hβ;unfold Av at hq;obtain⟨j,hj,rfl⟩:=mem_map.mp hq;obtain⟨s,hs⟩:=Qg (i:=(c/512+(0+(j:Int)))%26) (Int.emod_nonneg _ (by lia)) (Int.emod_lt_of_pos _ (by lia));have a1:D1 (.p (.str y1)) (.p (sign s))=some (.p (.str (y1++⟨#[s]⟩))):=add_str (by show y1.length+1<=1000;lia);have a2:D1 (.p (.str (y1++⟨#[s]⟩))) (.p (.str y2))=some (.p (.str (y1++⟨#[s]⟩++y2))):=add_str (by rw[G5];show y1.length+1+y2.length<=1000;lia);refine⟨[none,sP (.int (0+(j:Int))),sP (.int at0),sP (.int c),sP (.str Ki),sP (.str x)],.str (y1++⟨#[s]⟩++y2),[none,sP (.int (0+(j:Int))),sP (.int at0),sP (.int c),sP (.str Ki),sP (.str x)],rfl,BF _,?_,⟨_,rfl⟩,_,rfl⟩
  .show ev (A0 fns mt A6 k) mt bD [none,sP (.int (0+(j:Int))),sP (.int at0),sP (.int c),sP (.str Ki),sP (.str x)]=_;have had:D1 (.p (.int (c/512))) (.p (.int (0+(j:Int))))=some (.p (.int (c/512+(0+(j:Int))))):=rfl;have hd:Dz c 512=some (c/512):=by unfold Dz;rw[iP (by lia)]
   generalize (0+(j:Int))=jj at *;unfold bD
   simp! [Ab,Du,e1,e2,Ca,hd,had,CO,hs,a1,a2]) ⟨none,rfl⟩
 subst hβ;have hrl6:(Av 0 6).length=6:=by rw[Bb];rfl
 refine⟨ns,by rw[n1,hrl6],n2,?_⟩;rw[nil_append]at n3
 have ec:ev (A0 fns mt A6 k) mt cR [sP (.int c),sP (.str Ki),sP (.str x),y3,sP (.int at0)]= .ok (.lst ns) [sP (.int c),sP (.str Ki),sP (.str x),y3,sP (.int at0)]:=by
  unfold cR;rw[Cb];have hb:As (By [none,none,some 4,some 0,some 1,some 2] [sP (.int c),sP (.str Ki),sP (.str x),y3,sP (.int at0)]) [none,none,some 4,some 0,some 1,some 2] [none,y,sP (.int at0),sP (.int c),sP (.str Ki),sP (.str x)]=[sP (.int c),sP (.str Ki),sP (.str x),y3,sP (.int at0)]:=rfl;have hbig:(Av 0 6).length<=big:=by rw[hrl6];unfold big;lia
  simp! [IK.ok,Dd,Ae,A9,Br,B8,guards,hbig,AR,n3,hb,Tg.slots]
 have e2':execs (A0 fns mt A6 k) mt A6 cQ [sP (.int c),none,none,none,none]= .ok (.ret (.lst ns)) [sP (.int c),sP (.str Ki),sP (.str x),y3,sP (.int at0)]:=by
  have hd:Dz c 64=some (c/64):=by unfold Dz;rw[iP (by lia)]
  have hmo:CO (c/64) ((x.length:Int)+1)=some at0:=by unfold CO;rw[iP hx1,hat]
  have hna:(c%8).natAbs < 2 ^ 61:=by lia
  have hna2:(c%8).natAbs < 2305843009213693952:=by lia
  have hm8':CO c 8=some (c%8):=by unfold CO;rw[iP (by lia)]
  have hxb:x.length<=big:=by unfold big;lia
  have had:D1 (.p (.int (x.length:Int))) (.p (.int 1))=some (.p (.int ((x.length:Int)+1))):=rfl;unfold cQ;simp! [BD,IK.ok,Dy,Ae,A9,guards,Ab,Ca,hm8',hna,hna2,e,hd,FO,hxb,had,hmo,ec]
 rw[Ar f7 rfl e2'];rfl
end Lk03
namespace Iv
open PySem
abbrev Tr:=List (Nat×Int)
def BO(q:Nat×Int):P:=.tup [.int (q.1:Nat),.int q.2]
def wt:Tr->Int
 |[]=>0
 |q::t=>1-(q.1:Int)+wt t
def NT:Tr->Int
 |[]=>0
 |q::t=>(q.1:Int)+NT t
theorem DH:∀(a b:Tr),wt (a++b)=wt a + wt b
 |[],b=>by show wt b=0+wt b;lia
 | q::a,b=>by
   show 1-(q.1:Int)+wt (a++b)=1-(q.1:Int)+wt a+wt b;rw[DH a b];lia
theorem Lj:∀(a:Tr),wt a=a.length - NT a
 |[]=>rfl
 | q::a=>by
   show 1-(q.1:Int)+wt a=_;rw[Lj a,lC];show _=((a.length+1:Nat):Int)-((q.1:Int)+NT a)
   lia
theorem ME:∀(a b:Tr),NT (a++b)=NT a + NT b
 |[],b=>by show NT b=0+NT b;lia
 | q::a,b=>by
   show(q.1:Int)+NT (a++b)=(q.1:Int)+NT a+NT b;rw[ME a b];lia
theorem Li:∀(a:Tr),wt a.reverse=wt a
 |[]=>rfl
 | q::a=>by
   rw[reverse_cons,DH,Li a];show wt a+(1-(q.1:Int)+0)=1-(q.1:Int)+wt a
   lia
structure TI(room:Int)(t:Tr)(l w:Int):Prop where
 l0:0<=l
 sum:NT t+l=room-1
 wv:w=1-wt t
 w0:0<=w
 pf:∀a b,t=a++b->b≠[]->wt a<=0
 m3:∀q∈t,q.1<=3
variable{room:Int}
theorem TI.nil(h:1<=room):TI room [] (room - 1) 1:=⟨by lia,by show 0 + (room - 1)=_;lia,rfl,by lia,λa b e hb=>by
 have:=List.append_eq_nil_iff.mp e.symm
 exact absurd this.2 hb,λq hq=>by cases hq⟩
theorem TI.step{m:Nat}{c:Int}(h:TI room t l w)(hw:0 < w)(hm:(m:Int)<=l)(h3:m<=3):TI room (t++[(m,c)]) (l - m) (w - 1 + m):=by
 refine⟨by lia,?_,?_,by lia,λa b e hb=>?_,λq hq=>?_⟩
 .rw[ME];have:=h.sum;show NT t+((m:Int)+0)+_=_;lia
 .rw[DH,h.wv];show _=1-(wt t+(1-(m:Int)+0));lia
 .rcases List.eq_nil_or_concat b with rfl|⟨b',z,rfl⟩
  .exact absurd rfl hb
  .rw[List.concat_eq_append,<-append_assoc]at e;have:=List.append_inj_left' e rfl
   by_cases hb':b'=[]
   .subst hb';rw[append_nil]at this;rw[<-this];have:=h.wv
    lia
   .exact h.pf a b' this hb'
 .rcases mem_append.mp hq with z|z
  .exact h.m3 q z
  .rw[mE z];exact h3
structure FI(t:Tr):Prop where
 sf:∀a b,t=a++b->b≠[]->1<=wt b
 one:wt t=1
theorem IG:∀{b:Tr},(∀q∈b,q.1=0)->wt b=b.length
 |[],_=>rfl
 | q::b,h=>by
   show 1-(q.1:Int)+wt b=_;rw[IG λq hq=>h q (mC hq),h q mS,lC]
   lia
theorem TI.full{v:Tr}(h:TI room t l w)(hv:∀q∈v,q.1=0)(hl:(v.length:Int)=w):FI (t++v)/\((t++v).length:Int)<=room:=by
 have hwv:=IG hv;refine⟨⟨λa b e hb=>?_,?_⟩,?_⟩
 .rcases List.append_eq_append_iff.mp e with⟨a',e1,e2⟩|⟨c,e1,e2⟩
  .rw[IG λq hq=>hv q (by rw[e2];exact mR hq)];have:=List.length_pos_iff.mpr hb
   lia
  .by_cases hc:c=[]
   .subst hc;rw[nil_append]at e2;rw[e2,hwv];rw[e2]at hb;have:=List.length_pos_iff.mpr hb
    lia
   .have h1:=h.pf a c e1 hc;have h2:=h.wv;rw[e1,DH]at h2;rw[e2,DH,hwv]
    lia
 .rw[DH,hwv,hl,h.wv];lia
 .rw[lA];have h1:=h.wv;have h2:=Lj t;have h3:=h.sum;have h4:=h.l0
  lia
structure KQ(p:P):Prop where
 kd:Ak p=true
 ar:∀ps,P.tup ps∈pre p->ps.length<=4
 op:∀i,P.int i∈pre p->0<=i/\i < 9
theorem KQ.int{i:Int}(h:0<=i/\i < 9):KQ (.int i):=⟨by unfold Ak;rfl,λps hm=>by unfold pre at hm;simp at hm,λj hm=>by
 unfold pre at hm;have:P.int j= .int i:=mE hm
 cases this;exact h⟩
theorem KQ.made{r:List P}(h:∀p∈r,KQ p)(hl:r.length<=3):KQ (.tup (.str x::r)):=by
 refine⟨FV (Fq λp hp=>(h p hp).kd),λps hm=>?_,λi hm=>?_⟩
 .rw[AE]at hm;rcases mK hm with z|z
  .cases z;rw[lC];lia
  .obtain⟨p,hp,hm⟩:=BR.mp z;exact(h p hp).ar ps hm
 .rw[AE]at hm;rcases mK hm with z|z
  .cases z
  .obtain⟨p,hp,hm⟩:=BR.mp z;exact(h p hp).op i hm
theorem Fh:∀l:List P,(AU l.reverse).length=(AU l).length
 |[]=>rfl
 | p::l=>by
   rw[reverse_cons,Bp,lA,Fh l,Ap,Ap,Bi,append_nil,lA]
   lia
end Iv
namespace Lk03
open Iv PySem
noncomputable def Xp:List S:=[S.ifs (T.prim O.gt [T.var 5,T.cst (P.int 0)])
 [S.asg 7 (T.prim O.min [T.var 4,T.prim O.mod [T.prim O.mod [T.var 6,T.cst (P.int 5)],T.cst (P.int 4)]]),
  S.ifs (T.prim O.eq [T.prim O.mod [T.var 6,T.cst (P.int 7)],T.cst (P.int 6)]) [S.asg 7 (T.cst (P.int 0))] [],
  S.expr (T.FK MO.append 3 [T.tup [T.var 7,T.var 6]]),
  S.asg 4 (T.prim O.sub [T.var 4,T.var 7]),
  S.asg 5 (T.prim O.add [T.prim O.sub [T.var 5,T.cst (P.int 1)],T.var 7])] []]
def bJ:T:=T.comp (Tg.nm 1) IK.Ff [T.var 5] [] (T.tup [T.cst (P.int 0),T.prim O.add [T.cst (P.int 6),T.prim O.mul [T.cst (P.int 42),T.var 1]]]) [none,none]
def cW:T:=T.comp (Tg.nm 1) IK.Ff [T.var 7] [] (T.FK MO.pop 2 []) [none,none,some 8]
def bI:T:=T.prim (O.tuple IK.op) [T.prim O.add [T.lst [T.prim O.idx [T.var 1,T.prim O.add [T.prim O.mod [T.prim O.fdiv [T.var 6,T.cst (P.int 35)],T.cst (P.int 2)],T.prim O.mul [T.cst (P.int 2),T.prim O.min [T.var 7,T.cst (P.int 2)]]]]],T.var 9]]
noncomputable def YI:List S:=[S.ifs (T.and (T.prim O.eq [T.var 7,T.cst (P.int 0)]) (T.prim O.gt [T.prim O.mod [T.var 6,T.cst (P.int 7)],T.cst (P.int 2)]))
 [S.expr (T.FK MO.append 8 [T.prim O.mod [T.prim O.fdiv [T.var 6,T.cst (P.int 7)],T.cst (P.int 9)]])]
 [S.asg 9 cW,S.expr (T.FK MO.append 8 [bI])]]
noncomputable def cV:List S:=[S.asg 3 (T.lst []),S.asg 4 (T.prim O.sub [T.var 2,T.cst (P.int 1)]),S.asg 5 (T.cst (P.int 1)),
 S.CB (Tg.nm 6) IK.op [T.var 0] Xp,S.asg 3 (T.prim O.add [T.var 3,bJ]),S.asg 8 (T.lst []),
 S.CB (Tg.tup [7,6]) IK.rev [T.var 3] YI,S.ret (T.prim O.idx [T.var 8,T.cst (P.int 0)])]
theorem f8:fns[8]? =some ⟨3,10,cV⟩:=by kernel_rfl
variable{cf:CF}
variable{cc rc:C}{room:Int}
theorem ki_turn{nc:C}{t:Tr}{y7:Option C}(h:TI room t l w)(hl:t.length < 1000):∃t' l' w' z7,TI room t' l' w'/\t'.length<=t.length + 1/\execs cf mt A6 Xp [some cc,some nc,some rc,sL (t.map BO),sP (.int l),sP (.int w),sP (.int c),y7,none,none]= .ok .nx [some cc,some nc,some rc,sL (t'.map BO),sP (.int l'),sP (.int w'),sP (.int c),z7,none,none]:=by
 have hlb:t.length < big:=by unfold big;lia
 by_cases hw:0 < w
 .have hm5:0<=c%5%4/\c%5%4 < 4:=⟨Int.emod_nonneg _ (by lia),Int.emod_lt_of_pos _ (by lia)⟩;have h0:=h.l0;have hmin:Qj l (c%5%4)=some (if c%5%4 < l then c%5%4 else l):=rfl;generalize hmv:(if c%5%4 < l then c%5%4 else l)=mv at hmin;have hmv0:0<=mv/\mv<=l/\mv<=3:=by rw[<-hmv];split<;>lia
  have hmo5:CO c 5=some (c%5):=by unfold CO;rw[iP (by lia)]
  have hmo4:CO (c%5) 4=some (c%5%4):=by unfold CO;rw[iP (by lia)]
  have hmo7:CO c 7=some (c%7):=by unfold CO;rw[iP (by lia)]
  have heq:=eq_int (c%7) 6
  by_cases h6:c%7=6
  .rw[decide_eq_true h6]at heq;have st:=h.step (m:=0) (c:=c) hw (by lia) (by lia);refine⟨_,_,_,sP (.int 0),st,by rw[lA];simp,?_⟩;unfold Xp;simp! [Ab,AA,JL,hw,Ca,hmo5,hmo4,hmin,hmo7,EK,heq,Cu,BJ,hlb,P6,D1,BO]
  .rw[dF h6]at heq;obtain⟨m,rfl⟩:=Int.eq_ofNat_of_zero_le hmv0.1;have st:=h.step (m:=m) (c:=c) hw (by lia) (by lia);refine⟨_,_,_,sP (.int m),st,by rw[lA];simp,?_⟩;unfold Xp;simp! [Ab,AA,JL,hw,Ca,hmo5,hmo4,hmin,hmo7,EK,heq,Cu,BJ,hlb,P6,D1,BO]
 .refine⟨t,l,w,y7,h,by lia,?_⟩;unfold Xp;simp! [Ab,AA,JL,hw]
theorem ZF:∀(xs H2 H1 acc:List Iv.P) (y:Option C),H2.length=xs.length->∃y',CW (.nm 1) [] (Eh cf mt []) (ev cf mt (T.FK MO.pop 2 [])) xs acc [none,y,sL (H1++H2)]= .ok (acc++H2.reverse) [none,y',sL H1]
 | [],H2,H1,acc,y,h=>by
   have:H2=[]:=length_eq_zero_iff.mp h;subst this;exact⟨y,by rw[append_nil,List.reverse_nil,append_nil];rfl⟩
 | x ::xs,H2,H1,acc,y,h=>by
   rcases List.eq_nil_or_concat H2 with rfl|⟨H,z,rfl⟩
   .cases h
   .rw[List.concat_eq_append]at h ⊢;rw[lA,lS,lC]at h;obtain⟨y',e⟩:=ZF xs H H1 (acc++[z]) (some (.p x)) (by lia);refine⟨y',?_⟩
    have ep:ev cf mt (T.FK MO.pop 2 []) [none,sP x,sL (H1++(H++[z]))]= .ok (.p z) [none,sP x,sL (H1++H)]:=by
     rw[<-append_assoc];simp! [Cu,Je]
    rw[Fy rfl rfl (BF _) ep];rw[e,append_assoc,List.reverse_append];rfl
structure HI(D:Tr)(H:List Iv.P):Prop where
 len:(H.length:Int)=wt D
 sz:(AU H).length=D.length
 kq:∀h∈H,KQ h
theorem QC{names:List Iv.P}{tr:Tr}{y4 y5:Option C}{D:Tr}{m:Nat}{c:Int}{y9:Option C}(hn:names.length=6)(hns:∀p∈names,aA p)(h:HI D H)(hw:1<=wt D + 1 - m)(h3:m<=3)(hD:D.length < 1000):
 ∃H' z9,HI (D++[(m,c)]) H'/\execs cf mt A6 YI [some cc,sL names,some rc,sL (tr.map BO),y4,y5,sP (.int c),sP (.int m),sL H,y9]= .ok .nx [some cc,sL names,some rc,sL (tr.map BO),y4,y5,sP (.int c),sP (.int m),sL H',z9]:=by
 have hHl:H.length<=D.length:=by have:=Ds H;have:=h.sz;lia
 have hHb:H.length < big:=by unfold big;lia
 have hmo7:CO c 7=some (c%7):=by unfold CO;rw[iP (by lia)]
 have hfd7:Dz c 7=some (c/7):=by unfold Dz;rw[iP (by lia)]
 have hmo9:CO (c/7) 9=some (c/7%9):=by unfold CO;rw[iP (by lia)]
 have heq:=eq_int m 0
 by_cases hc:m=0/\2 < c%7
 .obtain⟨rfl,h2⟩:=hc;refine⟨H++[.int (c/7%9)],y9,⟨?_,?_,λq hq=>?_⟩,?_⟩
  .rw[DH,lA,lS];have:=h.len;show _=wt D+(1-((0:Nat):Int)+0)
   lia
  .rw[Bp,lA,h.sz,lA,Ap,Bi,append_nil];unfold pre;rfl
  .rcases mem_append.mp hq with z|z
   .exact h.kq q z
   .rw[mE z];exact KQ.int ⟨Int.emod_nonneg _ (by lia),Int.emod_lt_of_pos _ (by lia)⟩
  .have h0:Gz (.int ((0:Nat):Int)) (.int 0)=some true:=by rw[eq_int];rfl
   have h0':Gz (.int 0) (.int 0)=some true:=by rw[eq_int];rfl
   unfold YI;simp! [Ab,AA,EK,h0,h0',Ca,hmo7,JL,h2,hfd7,hmo9,Cu,BJ,hHb]
 .have hml:m<=H.length:=by have:=h.len;lia
  let H1:=H.take (H.length-m)
  let H2:=H.drop (H.length-m)
  have hH:H=H1++H2:=(List.take_append_drop _ _).symm;have hH2:H2.length=m:=by show(H.drop _).length=m;rw[length_drop];lia
  have hH1:H1.length=H.length-m:=by show(H.take _).length=_;rw[length_take];lia
  have hi0:0<=c/35%2/\c/35%2 < 2:=⟨Int.emod_nonneg _ (by lia),Int.emod_lt_of_pos _ (by lia)⟩;have hmin:Qj (m:Int) 2=some (if(2:Int) < m then(2:Int)else(m:Int)):=rfl;generalize hmv:(if(2:Int) < m then 2 else(m:Int))=mv at hmin;have hmv0:0<=mv/\mv<=2:=by rw[<-hmv];split<;>lia
  have hix:∃j,(c / 35 % 2 + 2 * mv)=((j:Nat):Int)/\j < 6:=by
   obtain⟨j,hj⟩:=Int.eq_ofNat_of_zero_le (show 0<=c/35%2+2*mv by lia);exact⟨j,hj,by lia⟩
  obtain⟨j,hj,hj6⟩:=hix;obtain⟨nm,hnm⟩:=hns names[j] (getElem_mem (by lia))
  have hidx:BB (.lst names) (.p (.int (c / 35 % 2 + 2 * mv)))=some (.p (.str nm)):=by
   rw[hj];unfold BB C.nf;dsimp only;unfold Gs;rw[iP (by lia),iP (by lia)];show(names[((j:Nat):Int).toNat]?).map _=_;rw[show((j:Nat):Int).toNat=j by lia,List.getElem?_eq_getElem (by lia),hnm];rfl
  have hfd35:Dz c 35=some (c/35):=by unfold Dz;rw[iP (by lia)]
  have hmo2:CO (c/35) 2=some (c/35%2):=by unfold CO;rw[iP (by lia)]
  have hmul:mulC (.p (.int 2)) (.p (.int mv))=some (.p (.int (2 * mv))):=by
   have hm:Jb 2 mv=some (2*mv):=by unfold Jb;rw[iP (.inl (by lia))]
   unfold mulC;simp[Ca,hm]
  have hr:(Av 0 (m:Int)).length=m:=by rw[Bb];lia
  obtain⟨y',ep⟩:=ZF (cf:=cf) (Av 0 (m:Int)) H2 H1 [] none (by rw[hH2,hr]);rw[nil_append,<-hH]at ep
  have ec:ev cf mt cW [some cc,sL names,some rc,sL (tr.map BO),y4,y5,sP (.int c),sP (.int m),sL H,y9]= .ok (.lst H2.reverse) [some cc,sL names,some rc,sL (tr.map BO),y4,y5,sP (.int c),sP (.int m),sL H1,y9]:=by
   unfold cW;rw[Cb];have hb:As (By [none,none,some 8] [some cc,sL names,some rc,sL (tr.map BO),y4,y5,sP (.int c),sP (.int m),sL H,y9]) [none,none,some 8] [none,y',sL H1]=[some cc,sL names,some rc,sL (tr.map BO),y4,y5,sP (.int c),sP (.int m),sL H1,y9]:=rfl;have hbig:(Av 0 (m:Int)).length<=big:=by rw[hr];unfold big;lia
   have hna:m < 2305843009213693952:=by lia
   simp! [IK.ok,Dd,Ae,hna,A9,Br,B8,guards,hbig,AR,ep,hb,Tg.slots]
  have hup:H2.reverse.length+1<=big:=by rw[length_reverse,hH2];unfold big;lia
  have hup2:H2.length+1<=big:=by rw[hH2];unfold big;lia
  have em:ev cf mt bI [some cc,sL names,some rc,sL (tr.map BO),y4,y5,sP (.int c),sP (.int m),sL H1,sL H2.reverse]= .ok (.p (.tup (.str nm::H2.reverse))) [some cc,sL names,some rc,sL (tr.map BO),y4,y5,sP (.int c),sP (.int m),sL H1,sL H2.reverse]:=by
   have had:D1 (.p (.int (c/35%2))) (.p (.int (2*mv)))=some (.p (.int (c/35%2+2*mv))):=rfl
   have hal:D1 (.lst [.str nm]) (.lst H2.reverse)=some (.lst (.str nm::H2.reverse)):=by
    show(Gi _).map _=_;unfold Gi;rw[iP (by rw[lA,lS];lia)];rfl
   unfold bI;simp! [Ab,Ca,hfd35,hmo2,hmin,hmul,had,hidx,hal,DW]
  have hH1b:H1.length < big:=by lia
  refine⟨H1++[.tup (.str nm::H2.reverse)],sL H2.reverse,⟨?_,?_,λq hq=>?_⟩,?_⟩
  .rw[DH,lA,lS];have:=h.len;show _=wt D+(1-(m:Int)+0)
   lia
  .rw[Bp,lA,lA,Ap,Bi,append_nil,AE,lC];have h1:=h.sz;rw[hH,Bp,lA]at h1;show(AU H1).length+((AU H2.reverse).length+1)=_;rw[Fh];show _=D.length+1
   lia
  .rcases mem_append.mp hq with z|z
   .exact h.kq q (by rw[hH];exact mL z)
   .rw[mE z];exact KQ.made (λp hp=>h.kq p (by rw[hH];exact mR (mem_reverse.mp hp))) (by rw[length_reverse,hH2];exact h3)
  .have hh1:∀(v:Iv.Env->Res C) (ρ:Iv.Env),BG bI v ρ=(v ρ).bind λc ρ=>.ok (.Bt c) ρ:=λ_ _=>rfl
   unfold YI
   by_cases hm0:m=0
   .subst hm0;have h2:¬2 < c%7:=λz=>hc ⟨rfl,z⟩
    have h0':Gz (.int 0) (.int 0)=some true:=by rw[eq_int];rfl
    have h0:Gz (.int ((0:Nat):Int)) (.int 0)=some true:=by rw[eq_int];rfl
    simp only[Int.cast_ofNat_Int]at ec em ⊢;simp! [Ab,AA,EK,h0',h0,Ca,hmo7,JL,h2,ec,hh1,em,Cu,BJ,hH1b]
   .have h0:Gz (.int (m:Int)) (.int 0)=some false:=by rw[eq_int];exact congrArg some (dF (by lia))
    simp! [Ab,AA,EK,h0,ec,hh1,em,Cu,BJ,hH1b]
theorem Oh{k:Nat}(w:Nat)(h5:A8 ρ 5=some (.p (.int (w:Int))))(hw:w<=1000):∃v:Tr,(∀q∈v,q.1=0)/\v.length=w/\ev cf mt bJ ρ= .ok (.lst (v.map BO)) ρ:=by
 let F:Iv.P->Iv.P:=λq=>match q with
  |.int i=>.tup [.int 0,.int (6+42*i)]
  |q=>q
 have he:∀q∈Av 0 (w:Int),ev cf mt (T.tup [T.cst (P.int 0),T.prim O.add [T.cst (P.int 6),T.prim O.mul [T.cst (P.int 42),T.var 1]]]) [none,sP q]= .ok (.p (F q)) [none,sP q]:=λq hq=>by
  unfold Av at hq;obtain⟨j,hj,rfl⟩:=mem_map.mp hq;generalize (0+(j:Int))=i
  have hmul:mulC (.p (.int 42)) (.p (.int i))=some (.p (.int (42 * i))):=by
   have hm:Jb 42 i=some (42*i):=by unfold Jb;rw[iP (.inl (by lia))]
   unfold mulC;simp[Ca,hm]
  have had:D1 (.p (.int 6)) (.p (.int (42*i)))=some (.p (.int (6+42*i))):=rfl;show _=Res.ok (C.p (.tup [.int 0,.int (6+42*i)])) _;simp! [Ab,hmul,had]
 obtain⟨β2,q1,q2⟩:=DF (g:=.nm 1) (cond:=Eh cf mt []) (elt:=ev cf mt (T.tup [T.cst (P.int 0),T.prim O.add [T.cst (P.int 6),T.prim O.mul [T.cst (P.int 42),T.var 1]]])) (F:=F) (β:=λq=>[none,sP q]) (β0:=[none,none]) (λ_=>rfl) (λ_ _=>rfl) BF (Av 0 (w:Int)) [] he [none,none] (.inl rfl);have hr:(Av 0 (w:Int)).length=w:=by rw[Bb];lia
 refine⟨(List.range w).map λ(j:Nat)=>(0,6+42*(0+(j:Int))),λq hq=>?_,by simp,?_⟩
 .obtain⟨j,_,rfl⟩:=mem_map.mp hq;rfl
 .have hm:(Av 0 (w:Int)).map F=((List.range w).map λ(j:Nat)=>((0,6 + 42 * (0 + (j:Int))):Nat×Int)).map BO:=by
   unfold Av;rw[map_map,map_map,show((w:Int)-0).toNat=w by lia];rfl
  rw[nil_append,hm]at q2;have hbig:(Av 0 (w:Int)).length<=big:=by rw[hr];unfold big;lia
  have hb:As (By [none,none] ρ) [none,none] β2=ρ:=by
   rcases q1 with rfl|⟨y,rfl⟩<;>rfl
  have hna:w < 2305843009213693952:=by lia
  unfold bJ;rw[Cb];show(if IK.Ff.ok=true then(Ad cf mt [T.var 5] ρ).bind _ else _)=_;rw[Cr h5,Res.A5];have hco:Am ρ [.slot 5]=some [.p (.int (w:Int))]:=by show((A8 ρ 5).bind _)=_;rw[h5];rfl
  unfold Dd;rw[hco]
  have hseq:Ae .Ff [.p (.int (w:Int))]=some (Av 0 (w:Int)):=by
   show(if(w:Int).natAbs < 2 ^ 61 then _ else _)=_;rw[iP (by lia)]
  dsimp only;rw[hseq];dsimp only
  have hg:(A9 [.slot 5] [.p (.int (w:Int))] && Br (.nm 1) [none,none] && decide ((Av 0 (w:Int)).length<=big))=true:=by
   rw[decide_eq_true hbig];rfl
  rw[iP hg];have hbg:B8 [none,none] [.slot 5] [.p (.int (w:Int))]=[]:=rfl;have hbi:AR [none,none] ρ=[none,none]:=rfl;rw[hbg,hbi,q2];show(if IK.Ff.ok=true then Res.ok (C.lst _) (As (By [none,none] ρ) [none,none] β2)else _)=_;rw[hb];rfl
theorem N8{k:Nat}{cs:List Int}{names:List Iv.P}(hn:names.length=6)(hns:∀p∈names,aA p)(hr:1<=room)(hr2:room<=100)(hcs:cs.length<=100):
 ∃q,KQ q/\((pre q).length:Int)<=room/\A0 fns mt A6 (k+1) 8 [.lst (cs.map .int),.lst names,.p (.int room)]= .ok (.p q) [sL (cs.map .int),sL names,sP (.int room)]:=by
 let J:List Iv.P->Iv.Env->Prop:=λd ρ=>∃t l w y6 y7,TI room t l w/\t.length<=d.length/\ρ=[sL (cs.map .int),sL names,sP (.int room),sL (t.map BO),sP (.int l),sP (.int w),y6,y7,none,none]
 obtain⟨ρ',⟨t,l,w,y6,y7,ht,htl,hρ⟩,e⟩:=BC (g:=.nm 6) (gs:=[(0,.lst (cs.map .int))]) (b:=execs (A0 fns mt A6 k) mt A6 Xp) (J:=J) (all:=cs.map .int) (λd ρ ⟨t,l,w,y6,y7,_,_,hρ⟩=>by
  subst hρ;unfold holds A8;simp) (λd q r e ρ ⟨t,l,w,y6,y7,ht,htl,hρ⟩=>by
  subst hρ;have hq:q∈cs.map .int:=by rw[<-e];simp
  obtain⟨c,_,rfl⟩:=mem_map.mp hq
  have BG:d.length<=100:=by
   have:=congrArg List.length e;rw[lA,lM]at this
   lia
  obtain⟨t',l',w',z7,h1,h2,h3⟩:=ki_turn (cf:=A0 fns mt A6 k) (cc:=.lst (cs.map .int)) (nc:=.lst names) (rc:=.p (.int room)) (c:=c) (y7:=y7) ht (by lia)
  exact⟨_,_,.nx,rfl,h3,.inl rfl,t',l',w',_,_,h1,by rw[lA,lS];lia,rfl⟩) (cs.map .int) [] [sL (cs.map .int),sL names,sP (.int room),sL [],sP (.int (room-1)),sP (.int 1),none,none,none,none] rfl ⟨[],room-1,1,none,none,TI.nil hr,lR,rfl⟩
 subst hρ;obtain⟨wn,rfl⟩:=Int.eq_ofNat_of_zero_le ht.w0
 have hwn:wn<=1000:=by
  have h1:=ht.wv;have h2:=Lj t;have h3:=ht.sum;have h4:=ht.l0
  lia
 obtain⟨v,hv,hvl,ev1⟩:=Oh (k:=k) (cf:=A0 fns mt A6 k) wn (ρ:=[sL (cs.map .int),sL names,sP (.int room),sL (t.map BO),sP (.int l),sP (.int (wn:Int)),y6,y7,none,none]) rfl hwn;obtain⟨hf,hfl⟩:=ht.full hv (by lia)
 have hv3:∀q∈t++v,q.1<=3:=λq hq=>by
  rcases mem_append.mp hq with z|z
  .exact ht.m3 q z
  .rw[hv q z];lia
 generalize hfull:t++v=full at *
 let J2:List Iv.P->Iv.Env->Prop:=λd ρ=>∃D:Tr,∃H y6 y7 y9,d=D.map BO/\HI D H/\ρ=[sL (cs.map .int),sL names,sP (.int room),sL (full.map BO),sP (.int l),sP (.int (wn:Int)),y6,y7,sL H,y9]
 obtain ⟨ρ',⟨D,H,y6',y7',y9',hD,hH,hρ⟩,e'⟩:=BC (g:=.tup [7,6]) (gs:=[(3,.lst (full.map BO))]) (b:=execs (A0 fns mt A6 k) mt A6 YI) (J:=J2) (all:=(full.map BO).reverse) (λd ρ ⟨D,H,y6,y7,y9,_,_,hρ⟩=>by
  subst hρ;unfold holds A8;simp) (λd q r e ρ ⟨D,H,y6,y7,y9,hD,hH,hρ⟩=>by
  subst hρ;rw[<-map_reverse]at e
  have hsp:∃mc r',full.reverse=D++mc::r'/\q=BO mc:=by
   rw[hD]at e;have:=e.symm;obtain⟨a,b,e1,e2,e3⟩:=List.map_eq_append_iff.mp this;obtain⟨mc,r',e4,e5,e6⟩:=List.map_eq_cons_iff.mp e3
   have hinj:∀{x y:Tr},x.map BO=y.map BO->x=y:=by
    intro x
    induction x with
    |nil=>
      intro y h;cases y with
      |nil=>rfl
      |cons _ _=>cases h
    |cons a x ih=>
      intro y h;cases y with
      |nil=>cases h
      |cons b y=>
        rw[map_cons,map_cons]at h;injection h with h1 h2
        have h1:Iv.P.tup [.int (a.1:Nat),.int a.2]= .tup [.int (b.1:Nat),.int b.2]:=h1;injection h1 with h1
        injection h1 with h3 h4
        injection h3 with h3
        injection h4 with h4 _
        injection h4 with h4
        rw[ih h2,show a=b from Prod.ext (by lia) h4]
   exact⟨mc,r',by rw[e1,e4,hinj e2],e5.symm⟩
  obtain⟨⟨m,c⟩,r',e1,rfl⟩:=hsp
  have hsuf:full=r'.reverse++(D++[(m,c)]).reverse:=by
   have:=congrArg List.reverse e1;rw[reverse_reverse]at this;rw[this];simp
  have hw:=hf.sf _ _ hsuf (by simp);rw[Li,DH]at hw;have hw:1<=wt D+(1-(m:Int)+0):=hw;have hm3:=hv3 (m,c) (by rw[hsuf];simp)
  have hDl:D.length < 1000:=by
   have:=congrArg List.length hsuf;rw[lA,length_reverse,length_reverse,lA]at this
   lia
  obtain⟨H',z9,h1,h2⟩:=QC (cf:=A0 fns mt A6 k) (cc:=.lst (cs.map .int)) (rc:=.p (.int room)) (tr:=full) (y4:=some (.p (.int l))) (y5:=some (.p (.int (wn:Int)))) (c:=c) (y9:=y9) hn hns hH (by lia) hm3 hDl
  exact⟨_,_,.nx,rfl,h2,.inl rfl,D++[(m,c)],H',_,_,_,by rw[hD,map_append];rfl,h1,rfl⟩) (full.map BO).reverse [] [sL (cs.map .int),sL names,sP (.int room),sL (full.map BO),sP (.int l),sP (.int (wn:Int)),y6,y7,sL [],none] rfl ⟨[],[],y6,y7,none,rfl,⟨rfl,rfl,λh hh=>by cases hh⟩,rfl⟩
 subst hρ
 have hDw:wt D=1/\D.length=full.length:=by
  have h1:(full.map BO).reverse=D.map BO:=hD;have hl:=congrArg List.length h1;rw[length_reverse,lM,lM]at hl;refine⟨?_,hl.symm⟩;rw[<-map_reverse]at h1
  have hws:∀{x y:Tr},x.map BO=y.map BO->wt x=wt y:=by
   intro x
   induction x with
   |nil=>
     intro y h;cases y with
     |nil=>rfl
     |cons _ _=>cases h
   |cons a x ih=>
     intro y h;cases y with
     |nil=>cases h
     |cons b y=>
       rw[map_cons,map_cons]at h;injection h with h1 h2
       have h1:Iv.P.tup [.int (a.1:Nat),.int a.2]= .tup [.int (b.1:Nat),.int b.2]:=h1;injection h1 with h1
       injection h1 with h3 h4
       injection h3 with h3
       show 1-(a.1:Int)+wt x=1-(b.1:Int)+wt y;rw[ih h2]
       lia
  rw[<-hws h1,Li];exact hf.one
 have hH1:H.length=1:=by have:=hH.len;lia
 obtain⟨q,rfl⟩:=List.length_eq_one_iff.mp hH1;have hsz:=hH.sz;rw[Ap,Bi,append_nil]at hsz;refine⟨q,hH.kq q mS,by lia,?_⟩
 have hup:t.length + v.length<=big:=by
  have:=congrArg List.length hfull;rw[lA]at this;unfold big;lia
 have hadd:D1 (.lst (t.map BO)) (.lst (v.map BO))=some (.lst (full.map BO)):=by
  show(Gi _).map _=_;unfold Gi;rw[iP (by rw[lA,lM,lM];exact hup),<-map_append,hfull];rfl
 have hasA:Bu Xp=[7,7,4,5]:=by decide
 have hasB:Bu YI=[9]:=by decide
 have hh:∀(v:Iv.Env->Res C) (ρ:Iv.Env),BG bJ v ρ=(v ρ).bind λc ρ=>.ok (.Bt c) ρ:=λ_ _=>rfl
 have e2:execs (A0 fns mt A6 k) mt A6 cV [sL (cs.map .int),sL names,sP (.int room),none,none,none,none,none,none,none]= .ok (.ret (.p q)) [sL (cs.map .int),sL names,sP (.int room),sL (full.map BO),sP (.int l),sP (.int (wn:Int)),y6',y7',sL [q],y9']:=by
  unfold cV;simp! [Ab,Ca,P6,BD,IK.ok,Dy,Ae,Dq,A9,guards,hasA,hasB,Tg.slots,e,hh,ev1,hadd,e',BB,Gs]
 rw[Ar f8 rfl e2];rfl
end Lk03
namespace Iv
open PySem
theorem Ra{xs:List P}{i:Int}(h0:0<=i)(h1:i<=xs.length):cut xs none (some i)=xs.take i.toNat:=by
 unfold cut Mi;dsimp only;rw[iN (by lia)];show(xs.drop 0).take (min i.toNat xs.length-0)=_;rw[List.drop_zero,show min i.toNat xs.length-0=i.toNat by lia]
theorem Rb{xs:List P}{i:Int}(h0:0<=i)(h1:i<=xs.length):cut xs (some i) none=xs.drop i.toNat:=by
 unfold cut Mi;dsimp only;rw[iN (by lia)];show(xs.drop (min i.toNat xs.length)).take (xs.length-min i.toNat xs.length)=_;rw[show min i.toNat xs.length=i.toNat by lia,List.take_of_length_le (by rw[length_drop];lia)]
theorem Fv:∀(n:Nat) (p:P),(pre p).length<=n->n<=900->Ak p=true->Lk03.Eg p=true:=by
 intro n
 induction n with
 |zero=>intro p h;have:=D6 p;lia
 |succ n ih=>
   intro p hn h9 hk;cases p with
   |int i=>unfold Lk03.Eg;rfl
   |tup ps=>
     obtain⟨x,r,rfl,hr⟩:=AJ hk;rw[AE,lC]at hn;replace hn:(AU r).length+1<=n+1:=hn;have:=Ds r;unfold Lk03.Eg;rw[decide_eq_true (by rw[lC];lia),Lk03.Dc]
     have all:∀l:List P,(∀q∈l,q∈r)->Lk03.EZ l=true:=by
      intro l
      induction l with
      |nil=>intro _;unfold Lk03.EZ;rfl
      |cons q l ihl=>
        intro h;rw[Lk03.Dc,ihl λz hz=>h z (mC hz),ih q (by have:=Ci (h q mS);lia) (by lia) (C4 hr q (h q mS))];rfl
     rw[all r λq hq=>hq];unfold Lk03.Eg;rfl
   |_=>unfold Ak at hk;cases hk
theorem WG{m:Nat}:∀(n:Nat) (p:P),(pre p).length<=n->Ak p=true->(∀i,P.int i∈pre p->Ak (Ag θ (.int i))=true/\(pre (Ag θ (.int i))).length<=m)->Ak (Ag θ p)=true/\(pre (Ag θ p)).length<=(m + 1) * (pre p).length/\(Ag θ p).depth<=p.depth + m:=by
 intro n
 induction n with
 |zero=>intro p h;have:=D6 p;lia
 |succ n ih=>
   intro p hn hk ho;cases p with
   |int i=>
     have h1:(pre (.int i)).length=1:=by unfold pre;rfl
     have:=ho i (E7 _);have:=DB _ this.1;exact⟨(ho i (E7 _)).1,by rw[h1];lia,by lia⟩
   |tup ps=>
     obtain⟨x,r,rfl,hr⟩:=AJ hk;rw[Bh,B1];rw[AE,lC]at hn;replace hn:(AU r).length+1<=n+1:=hn;have all:∀q∈r,Ak (Ag θ q)=true/\(pre (Ag θ q)).length<=(m+1)*(pre q).length/\(Ag θ q).depth<=q.depth+m:=λq hq=>ih q (by have:=Ci hq;lia) (C4 hr q hq) λi hi=>ho i (by rw[AE];exact mC (BR.mpr ⟨q,hq,hi⟩))
     refine⟨FV (Fq λq hq=>?_),?_,?_⟩
     .obtain⟨q',hq',rfl⟩:=mem_map.mp hq;exact(all q' hq').1
     .rw [AE,AE,lC,lC];show(AU (r.map (Ag θ))).length+1<=(m+1)*((AU r).length+1)
      have key:∀l:List P,(∀q∈l,(pre (Ag θ q)).length<=(m + 1) * (pre q).length)->(AU (l.map (Ag θ))).length<=(m + 1) * (AU l).length:=by
       intro l
       induction l with
       |nil=>intro _;rw[map_nil,Bi];exact Nat.zero_le _
       |cons q l ihl=>
         intro h;rw[map_cons,Ap,Ap,lA,lA,Nat.mul_add];have:=h q mS;have:=ihl λz hz=>h z (mC hz)
         lia
      have:=key r λq hq=>(all q hq).2.1
      rw[Nat.mul_add]
      lia
     .rw[DA,DA,BE,BE]
      have:P.Ao (r.map (Ag θ))<=P.Ao r + m:=G1 λq hq=>by
       obtain⟨q',hq',rfl⟩:=mem_map.mp hq;have:=(all q' hq').2.2;have:=DS hq'
       lia
      lia
   |_=>unfold Ak at hk;cases hk
structure FD(prs:List (P×P))(σ:Sub):Prop where
 Le:V1 prs σ
 ss:∃ss:List Int,ss.Pairwise (· < ·)/\(∀i,P.int i∈B9 prs↔i∈ss)/\ss.length < 64/\(∀i∈ss,(pre (Ag σ (.int i))).length<=60)/\σ=cn (λi=>Ag σ (.int i)) ss
theorem XW{f:Int->P}{ss:List Int}{q:P×P}(h:q∈cn f ss):∃i∈ss,q=(.int i,f i)/\f i≠.int i:=by
 unfold cn at h;obtain⟨i,hi,rfl⟩:=mem_map.mp h;obtain⟨h1,h2⟩:=mem_filter.mp hi;exact⟨i,h1,rfl,by simpa using h2⟩
variable{prs:List (P×P)}
theorem FD.mem(h:FD prs σ){q:P×P}(hq:q∈σ):∃i,q=(.int i,Ag σ (.int i))/\Ag σ (.int i)≠.int i/\P.int i∈B9 prs/\(pre (Ag σ (.int i))).length<=60:=by
 obtain⟨ss,_,h2,_,h4,h5⟩:=h.ss;obtain⟨i,hi,e,n⟩:=XW (f:=λi=>Ag σ (.int i)) (ss:=ss) (q:=q) (by rw[<-h5];exact hq);exact⟨i,e,n,(h2 i).mpr hi,h4 i hi⟩
theorem FD.key{σ:Sub}(h:FD prs σ){x:P}(hx:x∈σ.map (·.1)):∃i,x= .int i/\Ag σ (.int i)≠.int i/\P.int i∈B9 prs/\(pre (Ag σ (.int i))).length<=60/\Ac σ x=some (Ag σ (.int i)):=by
 obtain⟨q,hq,rfl⟩:=mem_map.mp hx;obtain⟨i,e,n,h1,h2⟩:=h.mem hq;rw[e]at hx ⊢;obtain⟨v,hv⟩:=Option.isSome_iff_exists.mp (Dw.mpr hx);refine⟨i,rfl,n,h1,h2,?_⟩;rw[Dr];show Ac σ (.int i)=_;replace hv:Ac σ (.int i)=some v:=hv;rw[hv];rfl
theorem FD.fF(h:FD prs σ):KL σ=true:=by
 unfold KL;rw[all_eq_true];intro q hq;obtain⟨i,e,_,_,h2⟩:=h.mem hq;have hk:=h.Le.kd i;have:=DB _ hk;rw[e];show(true && Co (Ag σ (.int i)) (Ag σ (.int i)) && decide ((Ag σ (.int i)).depth<=60))=true;rw[(Ea _ hk).2 _ hk,decide_eq_true (by lia)];rfl
def great:P:=.str {cps:=#[103,114,101,97,116]}
inductive FR(prs:List (P×P)):C->Prop where
 |none:(∀θ,¬Fits θ prs)->FR prs (.p .AI)
 |great {σ:Sub} {i:Int}:V1 prs σ->P.int i∈B9 prs->60 < (pre (Ag σ (.int i))).length->FR prs (.p great)
 |AB {σ:Sub}:FD prs σ->FR prs (.AB σ)
theorem FR.uniq{prs':List (P×P)}(h:FR prs c)(h':FR prs' c')(hf:∀θ,Fits θ prs↔Fits θ prs')(ho:∀i,P.int i∈B9 prs↔P.int i∈B9 prs'):c=c':=by
 cases h with
 |none h=>
   cases h' with
   |none _=>rfl
   |great n=>exact absurd ((hf _).mpr n.fit) (h _)
   |AB n=>exact absurd ((hf _).mpr n.Le.fit) (h _)
 |@great σ i n hi hl=>
   cases h' with
   |none h=>exact absurd ((hf _).mp n.fit) (h _)
   |great=>rfl
   |AB n'=>
     obtain⟨ss,_,h2,_,h4,_⟩:=n'.ss;have:=h4 i ((h2 i).mp ((ho i).mp hi));rw[n.same n'.Le hf i]at hl
     lia
 |AB n=>
   cases h' with
   |none h=>exact absurd ((hf _).mp n.Le.fit) (h _)
   |@great τ i n' hi hl=>
     obtain⟨ss,_,h2,_,h4,_⟩:=n.ss;have:=h4 i ((h2 i).mp ((ho i).mpr hi));rw[n.Le.same n' hf i]at this
     lia
   |AB n'=>
     obtain⟨ss,h1,h2,_,_,h5⟩:=n.ss;obtain⟨ss',h1',h2',_,_,h5'⟩:=n'.ss;have e:ss=ss':=Qo h1 h1' λi=>by rw[<-h2,ho,h2']
     rw[h5,h5',e,show(λi=>Ag _ (.int i))=λi=>Ag _ (.int i)from funext λi=>n.Le.same n'.Le hf i]
end Iv
namespace Lk03
open Iv PySem
def ao:List S:=[S.asg 1 (T.cst P.AI),S.OM 1 5 [T.var 0] (some (1,great)),S.ret (T.var 1)]
theorem aO:fns[12]? =some ⟨1,2,ao⟩:=by kernel_rfl
theorem Qt{k:Nat}(hz:O.ok (.list .zip)=true){prs:List (Iv.P×Iv.P)}{I:List Iv.P}(hp:∀pr∈prs,KG I pr.1/\KG I pr.2)(hl:prs.length<=50)(hI:I.length < 64):
 ∃c,FR prs c/\A0 fns mt A6 (k+5) 12 [.lst (prs.map enc)]= .ok c [sL (prs.map enc)]:=by
 have da:Ad (A0 fns mt A6 (k+4)) mt [T.var 0] [sL (prs.map enc),sP .AI]= .ok [.slot 0] [sL (prs.map enc),sP .AI]:=Cr rfl
 have fin:∀{c y},A0 fns mt A6 (k + 4) 5 [.lst (prs.map enc)]= .ok c [sL (prs.map enc)]->execs (A0 fns mt A6 (k + 4)) mt A6 [S.ret (T.var 1)] [sL (prs.map enc),some c]= .ok (.ret c) [sL (prs.map enc),y]->A0 fns mt A6 (k + 5) 12 [.lst (prs.map enc)]= .ok c [sL (prs.map enc)]:=λ{c y} e h=>by
  have ec:=L0 (i:=1) (h:=some (1,great)) (CH (cf:=A0 fns mt A6 (k+4)) (f:=5) (i:=0) (hs:=[]) (ρ:=[sL (prs.map enc),sP .AI]) rfl rfl rfl (λc hc=>by cases hc) e rfl)
  have s1:exec (A0 fns mt A6 (k + 4)) mt A6 (S.OM 1 5 [T.var 0] (some (1,great))) [sL (prs.map enc),sP .AI]= .ok .nx [sL (prs.map enc),some c]:=by
   rw[GF,da,GG,ec];rfl
  have e2:execs (A0 fns mt A6 (k + 4)) mt A6 ao [sL (prs.map enc),none]= .ok (.ret c) [sL (prs.map enc),y]:=by
   unfold ao;rw[AG (NF _ _)];exact(CT s1).trans h
  rw[Ar aO rfl e2];rfl
 rcases Uk (k:=k) hz hp hl hI with⟨h,e⟩|⟨σ,h1,⟨i,h2,h3⟩,e⟩|⟨σ,ss,h1,h2,h3,h4,h5,h6,e⟩
 .exact⟨_,.none h,fin (y:=some (.p .AI)) e (by simp! [])⟩
 .refine⟨_,.great h1 h2 h3,?_⟩;have ec:=L1 (cf:=A0 fns mt A6 (k+4)) (i:=1) (c:=1) (h:=some (1,great)) (CH (cf:=YT (A0 fns mt A6 (k+4)) 1) (f:=5) (i:=0) (hs:=[]) (ρ:=[sL (prs.map enc),sP .AI]) rfl rfl rfl (λc hc=>by cases hc) (R4 e) rfl) (λcs outs e=>Nl e)
  have e2:execs (A0 fns mt A6 (k + 4)) mt A6 ao [sL (prs.map enc),none]= .ok (.ret (.p great)) [sL (prs.map enc),sP .AI]:=by
   unfold ao;simp! [da,ec]
  rw[Ar aO rfl e2];rfl
 .exact⟨_,.AB ⟨h1,ss,h2,h3,h4,h5,h6⟩,fin (y:=none) e (by simp! [])⟩
end Lk03
namespace Iv
open PySem
def CA(l:List P):List P:=l.filter Dg
theorem N2{l:List P}{x:P}:x∈CA l↔x∈l/\∃i,x= .int i:=by
 unfold CA;rw[mem_filter];refine and_congr_right λ_=>?_
 cases x with
 |int i=>exact⟨λ_=>⟨i,rfl⟩,λ_=>rfl⟩
 |_=>exact⟨λh=>(by cases h),λ⟨i,h⟩=>(by cases h)⟩
theorem Ql{l:List P}(h:∀x∈l,∃i,x=P.int i)(i:Int):memC (.int i) (.lst l)=some (decide (P.int i∈l)):=by
 have:(l.all λq=>Co q (.int i) && decide (q.depth<=60))=true:=by
  rw[all_eq_true];intro x hx;obtain⟨j,rfl⟩:=h x hx;rfl
 show(if(l.all λq=>Co q (.int i) && decide (q.depth<=60))=true then some (l.contains (.int i))else none)=_;rw[iP this,List.contains_eq_mem]
end Iv
namespace Lk03
open Iv PySem
variable{cf:CF}
def Qx:List S:=[S.asg 1 (T.prim O.add [T.var 1,T.call 11 [T.var 2]])]
def Qw:List S:=[S.ifs (T.not (T.prim (O.FC Ty.tuple) [T.var 0])) [S.ret (T.lst [T.var 0])] [],S.asg 1 (T.lst []),S.CB (Tg.nm 2) IK.op [T.prim (O.Gn true false) [T.var 0,T.cst (P.int 1)]] Qx,S.ret (T.var 1)]
theorem aP:fns[11]? =some ⟨1,3,Qw⟩:=by kernel_rfl
theorem Rg{n f i:Nat}(h:A8 ρ i=some (.p p))(e:A0 fns mt A6 n f [.p p]= .ok c [sP p]):ev (A0 fns mt A6 n) mt (T.call f [T.var i]) ρ= .ok c ρ:=by
 rw[AN];show(Ad _ _ [T.var i] ρ).bind _=_;rw[Cr h,Res.A5];exact Cc (cs:=[.p p]) (by show((A8 ρ i).bind _)=_;rw[h];rfl) (λc hc=>by rw[mE hc];rfl) e rfl
theorem JH{a b:List Iv.P}(h:a.length + b.length<=big):D1 (.lst a) (.lst b)=some (.lst (a++b)):=by
 show(Gi _).map _=_;unfold Gi;rw[iP (by rw[lA];exact h)];rfl
theorem N5:∀(n:Nat) (p:Iv.P),Ak p=true->(pre p).length<=900->p.depth < n->A0 fns mt A6 n 11 [.p p]= .ok (.lst (CA (pre p))) [sP p]
 |0,p,_,_,h=>by lia
 | n + 1, p,hk,hl,hd=>by
   cases p with
   |int i=>
     have e2:execs (A0 fns mt A6 n) mt A6 Qw [sP (.int i),none,none]= .ok (.ret (.lst (CA (pre (.int i))))) [sP (.int i),none,none]:=by
      have:CA (pre (.int i))=[.int i]:=rfl;rw[this];unfold Qw;simp! [Ab,Be]
     rw[Ar aP rfl e2];rfl
   |tup ps=>
     obtain⟨x,r,rfl,hr⟩:=AJ hk;rw[DA,BE]at hd;have hpt:pre (.tup (.str x::r))= .tup (.str x::r)::AU r:=AE _;rw[hpt,lC]at hl;have ih:∀q∈r,A0 fns mt A6 n 11 [.p q]= .ok (.lst (CA (pre q))) [sP q]:=λq hq=>N5 n q (C4 hr q hq) (by have:=Ci hq;lia) (by have:=DS hq;lia)
     have loop:∀(l acc:List Iv.P) (y:Option C),(∀q∈l,q∈r)->acc.length + (AU l).length<=900->∃z,forL (.nm 2) [] (execs (A0 fns mt A6 n) mt A6 Qx) l [sP (.tup (.str x::r)),sL acc,y]= .ok .nx [sP (.tup (.str x::r)),sL (acc++CA (AU l)),z]:=by
      intro l
      induction l with
      |nil=>intro acc y _ _;exact⟨y,by rw[Bi,QT];unfold CA;rw[List.filter_nil,append_nil]⟩
      |cons q l ihl=>
        intro acc y hq ha;rw[Ap,lA]at ha;have hle:(CA (pre q)).length<=(pre q).length:=length_filter_le _ _;obtain⟨z,e⟩:=ihl (acc++CA (pre q)) (some (.p q)) (λa h=>hq a (mC h)) (by rw[lA];lia);refine⟨z,?_⟩;have e1:=Rg (i:=2) (ρ:=[sP (.tup (.str x::r)),sL acc,sP q]) rfl (ih q (hq q mS));have hadd:=JH (a:=acc) (b:=CA (pre q)) (by unfold big;lia)
        have e2:execs (A0 fns mt A6 n) mt A6 Qx [sP (.tup (.str x::r)),sL acc,sP q]= .ok .nx [sP (.tup (.str x::r)),sL (acc++CA (pre q)),sP q]:=by
         unfold Qx;simp! [e1,Ab,hadd]
        rw[Cn];show(execs (A0 fns mt A6 n) mt A6 Qx [sP (.tup (.str x::r)),sL acc,sP q]).bind _=_;rw[e2,Res.A5];show forL _ _ _ _ _=_;rw[e,Ap];unfold CA;rw[filter_append,append_assoc]
     obtain⟨z,el⟩:=loop r [] none (λ_ h=>h) (by rw[length_nil];lia);have hcut:cut (Iv.P.str x::r) (some 1) none=r:=Cy _
     have e2:execs (A0 fns mt A6 n) mt A6 Qw [sP (.tup (.str x::r)),none,none]= .ok (.ret (.lst (CA (pre (.tup (.str x::r)))))) [sP (.tup (.str x::r)),none,z]:=by
      have:CA (pre (.tup (.str x::r)))=CA (AU r):=by rw[hpt];rfl
      rw[this];rw[nil_append]at el;unfold Qw;simp! [Ab,Be,BD,IK.ok,Du,E4,hcut,Dy,Ae,Dq,A9,guards,el]
     rw[Ar aP rfl e2];rfl
   |_=>unfold Ak at hk;cases hk
def bz:List S:=[S.ifs (T.prim O.M0 [T.var 3,T.var 0]) [S.ret (T.cst (P.bl false))] []]
noncomputable def Z6:List S:=[S.ifs (T.or (T.prim (O.FC Ty.bool) [T.var 2]) (T.or (T.not (T.prim (O.FC Ty.int) [T.var 2])) (T.prim O.ai [T.var 2,T.var 1]))) [S.ret (T.cst (P.bl false))] [],
 S.ifs (T.not (T.call 9 [T.prim O.idx [T.var 0,T.var 2],T.prim O.idx [T.var 0,T.var 2]])) [S.ret (T.cst (P.bl false))] [],
 S.ifs (T.and (T.not (T.prim (O.FC Ty.tuple) [T.prim O.idx [T.var 0,T.var 2]])) (T.prim O.ge [T.prim O.idx [T.var 0,T.var 2],T.var 2])) [S.ret (T.cst (P.bl false))] [],
 S.CB (Tg.nm 3) IK.op [T.call 11 [T.prim O.idx [T.var 0,T.var 2]]] bz]
def bX:List S:=[S.CB (Tg.nm 2) IK.op [T.var 0] Z6,S.ret (T.cst (P.bl true))]
theorem bP:fns[13]? =some ⟨2,4,bX⟩:=by kernel_rfl
theorem Z5{k:Nat}{c1 c3:Option C}{v:Iv.P}(hv:Ac σ (.int i)=some v):ev (A0 fns mt A6 k) mt (T.prim O.idx [T.var 0,T.var 2]) [sD σ,c1,sP (.int i),c3]= .ok (.p v) [sD σ,c1,sP (.int i),c3]:=by
 have hky:=FT i;simp! [Ab,BB,hky,hv]
variable{prs:List (Iv.P×Iv.P)}
theorem Sq{k:Nat}(hk:60 < k){σ:Sub}{os:List Iv.P}{y:Option C}(h:FD prs σ)(hi:Iv.P.int i∈σ.map (·.1))(hos:∀x∈os,∃j,x=Iv.P.int j)(hin:Iv.P.int i∈os):
 ∃z,execs (A0 fns mt A6 k) mt A6 Z6 [sD σ,sL os,sP (.int i),y]= .ok .nx [sD σ,sL os,sP (.int i),z]:=by
 obtain⟨j,e,hne,hU,hsz,hv⟩:=h.key hi;cases e;have hkd:=h.Le.kd i;generalize hvv:Ag σ (.int i)=v at *;have hdp:=DB v hkd;have e0:=Z5 (k:=k) (c1:=some (.lst os)) (c3:=y) hv;have hm:=Ql hos i;rw[decide_eq_true hin]at hm;have es:=IU k v v (Fp hkd) (Fp hkd) (Fv _ v (lR) (by lia) hkd) (by lia);rw[decide_eq_true rfl]at es;have eo:=N5 k v hkd (by lia) (by lia);have hh:∀(u:Iv.Env->Res C) (ρ:Iv.Env),BG (T.prim O.idx [T.var 0,T.var 2]) u ρ=(u ρ).bind λc ρ=>.ok (.Bt c) ρ:=λ_ _=>rfl
 generalize ht:T.prim O.idx [T.var 0,T.var 2]=tt at *;have d1:Ad (A0 fns mt A6 k) mt [tt] [sD σ,sL os,sP (.int i),y]= .ok [.Bt (.p v)] [sD σ,sL os,sP (.int i),y]:=by simp! [hh,e0]
 have d2:Ad (A0 fns mt A6 k) mt [tt,tt] [sD σ,sL os,sP (.int i),y]= .ok [.Bt (.p v),.Bt (.p v)] [sD σ,sL os,sP (.int i),y]:=by simp! [hh,e0]
 have t2:tv (A0 fns mt A6 k) mt (T.call 9 [tt,tt]) [sD σ,sL os,sP (.int i),y]= .ok true [sD σ,sL os,sP (.int i),y]:=by
  rw[II,AN];show VS ((Ad _ _ [tt,tt] _).bind _)=_
  rw[d2,Res.A5,Cc (cs:=[.p v,.p v]) rfl (λc hc=>by
    rcases mK hc with z|z
    .rw[z];rfl
    .rw[mE z];rfl) es rfl]
  rfl
 have e11:ev (A0 fns mt A6 k) mt (T.call 11 [tt]) [sD σ,sL os,sP (.int i),y]= .ok (.lst (CA (pre v))) [sD σ,sL os,sP (.int i),y]:=by
  rw[AN];show(Ad _ _ [tt] _).bind _=_;rw[d1,Res.A5];exact Cc (cs:=[.p v]) rfl (λc hc=>by rw[mE hc];rfl) eo rfl
 obtain⟨ρ',⟨z,hρ⟩,el⟩:=BC (g:=.nm 3) (gs:=[]) (b:=execs (A0 fns mt A6 k) mt A6 bz) (J:=λ_ ρ=>∃z,ρ=[sD σ,sL os,sP (.int i),z]) (all:=CA (pre v)) (λ_ _ _=>rfl) (λd x r e ρ ⟨z,hρ⟩=>by
  subst hρ;obtain⟨hx,j,rfl⟩:=N2.mp (show x∈CA (pre v)by rw[<-e];simp);refine⟨_,_,.nx,rfl,?_,.inl rfl,sP (.int j),rfl⟩;show execs _ mt A6 bz [sD σ,sL os,sP (.int i),sP (.int j)]=_
  have hno:Ac σ (.int j)=none:=by
   cases hd:Ac σ (.int j)with
   |none=>rfl
   |some w=>
     obtain⟨j',e',hne',_⟩:=h.key (Dw.mp (by rw[hd];rfl):Iv.P.int j∈σ.map (·.1));cases e';exact absurd (h.Le.dj i j (by rw[hvv];exact hx)) hne'
  have hky:=FT j;unfold bz
  simp! [Ab,AA,memC,hky,hno]) (CA (pre v)) [] [sD σ,sL os,sP (.int i),y] rfl ⟨y,rfl⟩
 subst hρ;refine⟨z,?_⟩
 have t3:tv (A0 fns mt A6 k) mt (T.and (T.not (T.prim (O.FC Ty.tuple) [tt])) (T.prim O.ge [tt,T.var 2])) [sD σ,sL os,sP (.int i),y]= .ok false [sD σ,sL os,sP (.int i),y]:=by
  cases v with
  |int a=>
    have:=h.Le.mn i a hvv;have hlt:¬i<=a:=λz=>hne (by rw[show a=i by lia])
    simp! [hh,e0,Ab,Be,AA,hlt]
  |tup ps=>simp! [hh,e0,Ab,Be]
  |_=>unfold Ak at hkd;cases hkd
 unfold Z6;rw[ht];simp! [Ab,Be,AA,hm,t2,t3,BD,IK.ok,e11,Dy,Ae,Dq,A9,guards,el]
theorem So{k:Nat}(hk:60 < k){os:List Iv.P}(h:FD prs σ)(hos:∀x,x∈os↔x∈B9 prs/\∃j,x=Iv.P.int j):A0 fns mt A6 (k + 1) 13 [.AB σ,.lst os]= .ok (.p (.bl true)) [sD σ,sL os]:=by
 obtain⟨ρ',⟨y2,y3,hρ⟩,e⟩:=BC (g:=.nm 2) (gs:=[(0,.AB σ)]) (b:=execs (A0 fns mt A6 k) mt A6 Z6) (J:=λ_ ρ=>∃y2 y3,ρ=[sD σ,sL os,y2,y3]) (all:=σ.map (·.1)) (λ_ ρ ⟨y2,y3,hρ⟩=>by subst hρ;unfold holds A8;simp) (λd x r e ρ ⟨y2,y3,hρ⟩=>by
  subst hρ;have hx:x∈σ.map (·.1):=by rw[<-e];simp
  obtain⟨i,rfl,_,hU,_⟩:=h.key hx;obtain⟨z,e2⟩:=Sq (k:=k) hk (y:=y3) h hx (λx hx=>((hos x).mp hx).2) ((hos _).mpr ⟨hU,i,rfl⟩)
  exact⟨_,_,.nx,rfl,e2,.inl rfl,_,_,rfl⟩) (σ.map (·.1)) [] [sD σ,sL os,none,none] rfl ⟨none,none,rfl⟩
 subst hρ;have has:Bu Z6=[3]:=by decide
 have e2:execs (A0 fns mt A6 k) mt A6 bX [sD σ,sL os,none,none]= .ok (.ret (.p (.bl true))) [sD σ,sL os,y2,y3]:=by
  unfold bX;simp! [BD,IK.ok,Dy,Ae,Dq,A9,guards,has,Tg.slots,e]
 rw[Ar bP rfl e2];rfl
end Lk03
namespace Iv
open PySem
def I9:List P:=Av 0 9
theorem Mw:I9.length=9:=by unfold I9;rw[Bb];rfl
def GP(prs:List (P×P)):Prop:=∀pr∈prs,KG I9 pr.1/\KG I9 pr.2
theorem KQ.kg(h:KQ p)(hl:((pre p).length:Int)<=7):KG I9 p:=⟨h.kd,by lia,by have:=DB p h.kd;lia,λps hm=>by have:=h.ar ps hm;lia,λi hm=>by
 have:=h.op i hm;unfold I9 Av;refine mem_map.mpr ⟨i.toNat,mem_range.mpr (by lia),?_⟩;show P.int (0+(i.toNat:Int))= .int i
 rw[show(0:Int)+(i.toNat:Int)=i by lia]⟩
end Iv
namespace Lk03
open Iv PySem
def cG:T:=T.comp (Tg.nm 1) IK.Ff [T.cst (P.int 8)] [] (T.call 6 [T.var 3,T.prim O.add [T.var 2,T.var 1]]) [none,none,some 3,some 0]
def X0:T:=T.call 8 [T.prim (O.Gn false true) [T.var 4,T.cst (P.int 4)],T.var 1,T.cst (P.int 7)]
def WZ:T:=T.call 8 [T.prim (O.Gn true false) [T.var 4,T.cst (P.int 4)],T.var 1,T.cst (P.int 7)]
def ZO:List S:=[S.asg 4 cG,S.expr (T.FK MO.append 2 [T.tup [X0,WZ]])]
def ZN:List T:=[T.cst (P.int 1),T.prim O.add [T.cst (P.int 2),T.prim O.min [T.prim O.len [T.var 0],T.cst (P.int 56)]],T.cst (P.int 8)]
def Lk:T:=T.comp (Tg.tup [1,2]) IK.rev [T.var 2] [] (T.tup [T.var 2,T.var 1]) [none,none,none]
def YH:List S:=[S.asg 10 (T.prim O.add [T.prim O.add [T.var 10,T.call 11 [T.var 7]],T.call 11 [T.var 8]]),S.ifs (T.not (T.call 9 [T.call 10 [T.var 7,T.var 6],T.call 10 [T.var 8,T.var 6]])) [S.ret (T.cst (P.bl false))] []]
def dY:List S:=[S.ifs (T.not (T.call 13 [T.var 6,T.var 10])) [S.ret (T.cst (P.bl false))] [],S.aT 6,S.ret (T.prim O.eq [T.call 12 [T.var 2],T.var 9])]
def bH:List S:=S.asg 10 (T.lst [])::S.CB (Tg.tup [7,8]) IK.op [T.var 2] YH::dY
noncomputable def dX:List S:=S.ifs (T.or (T.prim O.ne [T.var 5,T.var 2]) (T.prim O.ne [T.var 6,T.var 9])) [S.ret (T.cst (P.bl false))] []::
 S.ifs (T.not (T.prim (O.FC Ty.dict) [T.var 6])) [S.ret (T.or (T.prim O.is [T.var 6,T.cst P.AI]) (T.prim O.eq [T.var 6,T.cst great]))] []::bH
def bG:List S:=S.asg 5 (T.prim (O.list IK.op) [T.var 2])::S.asg 6 (T.call 12 [T.var 5])::S.asg 9 (T.call 12 [Lk])::dX
def cU:List S:=S.asg 1 (T.call 7 [T.call 6 [T.var 0,T.cst (P.int 0)]])::S.asg 2 (T.lst [])::S.CB (Tg.nm 3) IK.Ff ZN ZO::bG
theorem aN:fns[14]? =some ⟨1,11,cU⟩:=by kernel_rfl
variable{ns:List Int}
theorem Ny{k i j:Nat}{t:T}(h:A8 ρ i=some (.b (.ro (ns.map .int))))(ht:Ad (A0 fns mt A6 (k + 1)) mt [t] ρ= .ok [.Bt (.p (.int (j:Int)))] ρ):ev (A0 fns mt A6 (k + 1)) mt (T.call 6 [T.var i,t]) ρ= .ok (.p (.int (cellAt ns j))) ρ:=by
 rw[AN];show(Ad _ _ (T.var i::[t]) ρ).bind _=_
 have hd:Ad (A0 fns mt A6 (k + 1)) mt [T.var i,t] ρ= .ok [.slot i,.Bt (.p (.int (j:Int)))] ρ:=by
  rw[BL,Jp,h,Option.isSome_some,iP rfl,Res.A5];dsimp only;rw[ht];rfl
 rw[hd,Res.A5]
 exact Cc (cs:=[.b (.ro (ns.map .int)),.p (.int (j:Int))]) (by show((A8 ρ i).bind _)=_;rw[h];rfl) (λc hc=>by
  rcases mK hc with z|z
  .rw[z];rfl
  .rw[mE z];rfl) Mn rfl
theorem Q4{k a:Nat}{c1 c2 c4:Option C}{r:Iv.Env}:∃cs:List Int,cs.length=8/\ev (A0 fns mt A6 (k + 1)) mt cG (some (.b (.ro (ns.map .int)))::c1::c2::some (.p (.int (a:Int)))::c4::r)= .ok (.lst (cs.map .int)) (some (.b (.ro (ns.map .int)))::c1::c2::some (.p (.int (a:Int)))::c4::r):=by
 have hr8:(Av 0 8).length=8:=by rw[Bb];rfl
 obtain⟨ys,β',⟨y,hβ⟩,n1,n2,n3⟩:=Hy (g:=.nm 1) (gs:=[]) (cond:=Eh (A0 fns mt A6 (k + 1)) mt []) (elt:=ev (A0 fns mt A6 (k + 1)) mt (T.call 6 [T.var 3,T.prim O.add [T.var 2,T.var 1]])) (Q:=λp=>∃i,p=Iv.P.int i) (J:=λβ=>∃y,β=[none,y,sP (.int (a:Int)),some (.b (.ro (ns.map .int)))]) (λ_ _=>rfl) (Av 0 8) [] [none,none,sP (.int (a:Int)),some (.b (.ro (ns.map .int)))] (λq hq β ⟨y,hβ⟩=>by
  subst hβ;unfold Av at hq;obtain⟨j,hj,rfl⟩:=mem_map.mp hq;have hz:(0:Int)+(j:Int)=(j:Int):=by lia
  rw[hz]
  have:=Ny (k:=k) (i:=3) (j:=a + j) (ns:=ns) (t:=T.prim O.add [T.var 2,T.var 1]) (ρ:=[none,sP (.int (j:Int)),sP (.int (a:Int)),some (.b (.ro (ns.map .int)))]) rfl (by
   have had:D1 (.p (.int (a:Int))) (.p (.int (j:Int)))=some (.p (.int ((a+j:Nat):Int))):=rfl
   simp! [Ab,had])
  exact⟨_,_,_,rfl,BF _,this,⟨_,rfl⟩,_,rfl⟩) ⟨none,rfl⟩
 subst hβ;obtain⟨cs,e1,_⟩:=Jj n2;subst e1;rw[lM,hr8]at n1;rw[nil_append]at n3;refine⟨cs,n1,?_⟩;unfold cG;rw[Cb];have hb:As (By [none,none,some 3,some 0] (some (.b (.ro (ns.map .int)))::c1::c2::some (.p (.int (a:Int)))::c4::r)) [none,none,some 3,some 0] [none,y,sP (.int (a:Int)),some (.b (.ro (ns.map .int)))]=(some (.b (.ro (ns.map .int)))::c1::c2::some (.p (.int (a:Int)))::c4::r):=rfl;have hbig:(Av 0 8).length<=big:=by rw[hr8];unfold big;lia
 simp! [IK.ok,Dd,Ae,A9,Br,B8,guards,hbig,AR,n3,hb,Tg.slots]
theorem Tu{k a:Nat}{names:List Iv.P}{prs:List (Iv.P×Iv.P)}{y4:Option C}{r:Iv.Env}(hn:names.length=6)(hns:∀p∈names,aA p)(hp:GP prs)(hpl:prs.length<=50):
 ∃pr z4,GP (prs++[pr])/\execs (A0 fns mt A6 (k+1)) mt A6 ZO (some (.b (.ro (ns.map .int)))::some (.lst names)::some (.lst (prs.map enc))::some (.p (.int (a:Int)))::y4::r)= .ok .nx (some (.b (.ro (ns.map .int)))::some (.lst names)::some (.lst ((prs++[pr]).map enc))::some (.p (.int (a:Int)))::z4::r):=by
 obtain⟨cs,hcl,ec⟩:=Q4 (k:=k) (a:=a) (ns:=ns) (c1:=some (.lst names)) (c2:=some (.lst (prs.map enc))) (c4:=y4) (r:=r);obtain⟨p,hp1,hpl1,ek1⟩:=N8 (k:=k) (cs:=cs.take 4) (names:=names) (room:=7) hn hns (by lia) (by lia) (by rw[length_take];lia);obtain⟨q,hq1,hql1,ek2⟩:=N8 (k:=k) (cs:=cs.drop 4) (names:=names) (room:=7) hn hns (by lia) (by lia) (by rw[length_drop];lia)
 have hcu:cut (cs.map Iv.P.int) none (some 4)=(cs.take 4).map .int:=by
  rw[Ra (by lia) (by rw[lM];lia),List.map_take];rfl
 have hcu2:cut (cs.map Iv.P.int) (some 4) none=(cs.drop 4).map .int:=by
  rw[Rb (by lia) (by rw[lM];lia),List.map_drop];rfl
 generalize hρ:(some (.b (.ro (ns.map .int)))::some (.lst names)::some (.lst (prs.map enc))::some (.p (.int (a:Int)))::some (.lst (cs.map .int))::r:Iv.Env)=ρ;have g1:A8 ρ 1=some (.lst names):=by rw[<-hρ];rfl
 have g4:A8 ρ 4=some (.lst (cs.map .int)):=by rw[<-hρ];rfl
 have k1:ev (A0 fns mt A6 (k + 1)) mt X0 ρ= .ok (.p p) ρ:=by
  unfold X0;rw[AN];show(Ad _ _ [T.prim (O.Gn false true) [T.var 4,T.cst (P.int 4)],T.var 1,T.cst (P.int 7)] _).bind _=_
  have hd:Ad (A0 fns mt A6 (k + 1)) mt [T.prim (O.Gn false true) [T.var 4,T.cst (P.int 4)],T.var 1,T.cst (P.int 7)] ρ= .ok [.Bt (.lst ((cs.take 4).map .int)),.slot 1,.Bt (.p (.int 7))] ρ:=by
   simp! [g1,g4,Ab,Du,E4,hcu]
  rw[hd,Res.A5];subst hρ;exact JD (cs:=[.lst ((cs.take 4).map .int),.lst names,.p (.int 7)]) rfl (by show[1].Nodup;simp) rfl ek1 rfl
 have k2:ev (A0 fns mt A6 (k + 1)) mt WZ ρ= .ok (.p q) ρ:=by
  unfold WZ;rw[AN];show(Ad _ _ [T.prim (O.Gn true false) [T.var 4,T.cst (P.int 4)],T.var 1,T.cst (P.int 7)] _).bind _=_
  have hd:Ad (A0 fns mt A6 (k + 1)) mt [T.prim (O.Gn true false) [T.var 4,T.cst (P.int 4)],T.var 1,T.cst (P.int 7)] ρ= .ok [.Bt (.lst ((cs.drop 4).map .int)),.slot 1,.Bt (.p (.int 7))] ρ:=by
   simp! [g1,g4,Ab,Du,E4,hcu2]
  rw[hd,Res.A5];subst hρ;exact JD (cs:=[.lst ((cs.drop 4).map .int),.lst names,.p (.int 7)]) rfl (by show[1].Nodup;simp) rfl ek2 rfl
 subst hρ;refine⟨(p,q),sL (cs.map .int),λpr h=>?_,?_⟩
 .rcases mem_append.mp h with z|z
  .exact hp pr z
  .rw[mE z];exact⟨hp1.kg hpl1,hq1.kg hql1⟩
 .have hlb:prs.length < big:=by unfold big;lia
  unfold ZO;rw[AG ec];show execs _ _ _ _ (some (.b (.ro (ns.map .int)))::some (.lst names)::some (.lst (prs.map enc))::some (.p (.int (a:Int)))::some (.lst (cs.map .int))::r)=_;simp! [k1,k2,Cu,BJ,hlb,enc]
theorem Q3{k:Nat}{r:Iv.Env}:∃prs c1 y3 y4,GP prs/\prs.length<=8/\execs (A0 fns mt A6 (k + 1)) mt A6 cU (some (.b (.ro (ns.map .int)))::none::none::none::none::r)=execs (A0 fns mt A6 (k + 1)) mt A6 bG (some (.b (.ro (ns.map .int)))::c1::some (.lst (prs.map enc))::y3::y4::r):=by
 obtain⟨names,n1,n2,en⟩:=Qh (k:=k) (c:=cellAt ns 0);have c0:=Ny (k:=k) (i:=0) (j:=0) (ns:=ns) (t:=T.cst (P.int 0)) (ρ:=some (.b (.ro (ns.map .int)))::none::none::none::none::r) rfl (by simp! [])
 have e1:ev (A0 fns mt A6 (k + 1)) mt (T.call 7 [T.call 6 [T.var 0,T.cst (P.int 0)]]) (some (.b (.ro (ns.map .int)))::none::none::none::none::r)= .ok (.lst names) (some (.b (.ro (ns.map .int)))::none::none::none::none::r):=by
  rw[AN];show(Ad _ _ [T.call 6 [T.var 0,T.cst (P.int 0)]] _).bind _=_
  have:Ad (A0 fns mt A6 (k + 1)) mt [T.call 6 [T.var 0,T.cst (P.int 0)]] (some (.b (.ro (ns.map .int)))::none::none::none::none::r)= .ok [.Bt (.p (.int (cellAt ns 0)))] (some (.b (.ro (ns.map .int)))::none::none::none::none::r):=by
   simp! [c0]
  rw[this,Res.A5];exact Cc (cs:=[.p (.int (cellAt ns 0))]) rfl (λc hc=>by rw[mE hc];rfl) en rfl
 have hmin:Qj (ns.length:Int) 56=some (if(56:Int) < ns.length then(56:Int)else(ns.length:Int)):=rfl;generalize hmv:(if(56:Int) < ns.length then(56:Int)else(ns.length:Int))=mv at hmin;have hmv0:0<=mv/\mv<=56:=by rw[<-hmv];split<;>lia
 have hcnt:((2+mv-1+8-1)/8).toNat<=8:=by lia
 have hsq:Ae .Ff [.p (.int 1),.p (.int (2 + mv)),.p (.int 8)]=some ((List.range ((2 + mv - 1 + 8 - 1) / 8).toNat).map λ(k:Nat)=>Iv.P.int (1 + 8 * (k:Int))):=by
  show(if(0:Int) < 8/\(8:Int) < 1000000/\(1:Int).natAbs < 2 ^ 61/\(2+mv).natAbs < 2 ^ 61 then _ else _)=_;rw[iP ⟨by lia,by lia,by lia,by lia⟩]
 generalize hxs:(List.range ((2+mv-1+8-1)/8).toNat).map (λ(k:Nat)=>Iv.P.int (1+8*(k:Int)))=xs at hsq;have hxl:xs.length<=8:=by rw[<-hxs,lM,length_range];exact hcnt
 have hxi:∀x∈xs,∃a:Nat,x= .int (a:Int):=λx hx=>by
  rw[<-hxs]at hx;obtain⟨j,_,rfl⟩:=mem_map.mp hx;exact⟨1+8*j,rfl⟩
 obtain⟨ρ',⟨prs,y3,y4,j2,j4,hρ⟩,e⟩:=BC (g:=.nm 3) (gs:=[]) (b:=execs (A0 fns mt A6 (k + 1)) mt A6 ZO) (J:=λd ρ=>∃prs y3 y4,GP prs/\prs.length=d.length/\ρ=some (.b (.ro (ns.map .int)))::some (.lst names)::some (.lst (prs.map enc))::y3::y4::r) (all:=xs) (λ_ _ _=>rfl) (λd x l e ρ ⟨prs,y3,y4,j2,j4,hρ⟩=>by
  subst hρ;obtain⟨a,rfl⟩:=hxi x (by rw[<-e];simp);have BG:d.length<=8:=by rw[<-e,lA]at hxl;lia
  obtain⟨pr,z4,h1,h5⟩:=Tu (k:=k) (a:=a) (ns:=ns) (y4:=y4) (r:=r) n1 n2 j2 (by lia)
  exact⟨_,_,.nx,rfl,h5,.inl rfl,prs++[pr],_,_,h1,by rw[lA,lA,j4];rfl,rfl⟩) xs [] (some (.b (.ro (ns.map .int)))::some (.lst names)::some (.lst [])::none::none::r) rfl ⟨[],none,none,λpr hp=>(by cases hp),rfl,rfl⟩
 subst hρ;refine⟨prs,sL names,y3,y4,j2,by lia,?_⟩;have had:D1 (.p (.int 2)) (.p (.int mv))=some (.p (.int (2+mv))):=rfl
 have hd:Ad (A0 fns mt A6 (k + 1)) mt ZN (some (.b (.ro (ns.map .int)))::some (.lst names)::some (.lst [])::none::none::r)= .ok [.Bt (.p (.int 1)),.Bt (.p (.int (2 + mv))),.Bt (.p (.int 8))] (some (.b (.ro (ns.map .int)))::some (.lst names)::some (.lst [])::none::none::r):=by
  unfold ZN;simp! [Ab,FO,Ca,hmin,had]
 have hfor:exec (A0 fns mt A6 (k + 1)) mt A6 (S.CB (Tg.nm 3) IK.Ff ZN ZO) (some (.b (.ro (ns.map .int)))::some (.lst names)::some (.lst [])::none::none::r)= .ok .nx (some (.b (.ro (ns.map .int)))::some (.lst names)::some (.lst (prs.map enc))::y3::y4::r):=by
  rw[BD];show(if IK.Ff.ok=true then(Ad _ _ ZN _).bind _ else _)=_;rw[hd,Res.A5];unfold Dy;have hco:Am (some (.b (.ro (ns.map .int)))::some (.lst names)::some (.lst [])::none::none::r) [.Bt (.p (.int 1)),.Bt (.p (.int (2+mv))),.Bt (.p (.int 8))]=some [.p (.int 1),.p (.int (2+mv)),.p (.int 8)]:=rfl;rw[hco];dsimp only;rw[hsq];exact e
 unfold cU;rw[AG e1];show execs _ _ _ _ (some (.b (.ro (ns.map .int)))::some (.lst names)::none::none::none::r)=_;rw[AG (HF _)];exact CT hfor
end Lk03
namespace Iv
open PySem
theorem aH{a b c d e f g h i j k:Option C}{r:Env}:A8 (a::b::c::d::e::f::g::h::i::j::k::r) 10=k:=rfl
theorem Vb{cf:CF}{mt:MT}{σ:List (P×P)}{a b c d e f:Option C}{r:Env}(h:(σ.all λq=>Dg q.1)=true):exec cf mt A6 (S.aT 6) (a::b::c::d::e::f::some (.AB σ)::r)= .ok .nx (a::b::c::d::e::f::none::r):=iP h
theorem VX{p:P}(h:Co p p=true)(hd:p.depth=0):Gz p p=some true:=by
 unfold Gz;rw[h,hd,decide_eq_true (p:=p=p) rfl];rfl
variable{prs:List (P×P)}
theorem FR.eq(h:FR prs c):EK c c=some true:=by
 cases h with
 |none _=>exact VX rfl rfl
 |great=>exact VX rfl rfl
 |AB h=>exact iP ⟨rfl,h.fF⟩
def P5(q:P×P):P×P:=(q.2,q.1)
def dO:P->P
 |.tup [a,b]=>.tup [b,a]
 |p=>p
theorem GP.eq(h:GP prs):R5 (prs.map enc) (prs.map enc)=some true:=by
 have h1:∀l:List (P×P),(∀q∈l,q∈prs)->De (l.map enc) (l.map enc)=true:=by
  intro l
  induction l with
  |nil=>intro _;rfl
  |cons q l ih=>
    intro hl;obtain⟨ha,hb⟩:=h q (hl q mS);show((Co q.1 q.1 && (Co q.2 q.2 && true)) && De (l.map enc) (l.map enc))=true;rw[ih λz hz=>hl z (mC hz),(Ea _ ha.kd).2 _ ha.kd,(Ea _ hb.kd).2 _ hb.kd];rfl
 have h2:P.Ao (prs.map enc)<=60:=G1 λp hp=>by
  obtain⟨q,hq,rfl⟩:=mem_map.mp hp;have:=(h q hq).1.dp;have:=(h q hq).2.dp;show max q.1.depth (max q.2.depth 0)+1<=60
  lia
 unfold R5;rw[h1 prs λ_ h=>h,decide_eq_true h2,decide_eq_true rfl];rfl
theorem GP.P5(h:GP prs):GP (prs.reverse.map P5):=λpr hp=>by
 obtain⟨q,hq,rfl⟩:=mem_map.mp hp;exact⟨(h q (mem_reverse.mp hq)).2,(h q (mem_reverse.mp hq)).1⟩
theorem QV:Fits θ prs↔Fits θ (prs.reverse.map P5):=⟨λh pr hp=>by
 obtain⟨q,hq,rfl⟩:=mem_map.mp hp
 exact(h q (mem_reverse.mp hq)).symm,λh pr hp=>(h (P5 pr) (mem_map_of_mem (mem_reverse.mpr hp))).symm⟩
theorem Rp{x:P}:x∈B9 prs↔x∈B9 (prs.reverse.map P5):=by
 rw[BA,BA]
 exact⟨λ⟨q,hq,h⟩=>⟨P5 q,mem_map_of_mem (mem_reverse.mpr hq),h.symm⟩,λ⟨q,hq,h⟩=>by
  obtain⟨r,hr,rfl⟩:=mem_map.mp hq
  exact⟨r,mem_reverse.mp hr,h.symm⟩⟩
end Iv
namespace Lk03
open Iv PySem
variable{cf:CF}{c0 c1 c3 c4:Option C}
variable{prs:List (Iv.P×Iv.P)}
theorem W7(hl:prs.length<=50){r:Iv.Env}:ev cf mt Lk (c0::c1::some (.lst (prs.map enc))::r)= .ok (.lst ((prs.reverse.map P5).map enc)) (c0::c1::some (.lst (prs.map enc))::r):=by
 obtain⟨β2,⟨y1,y2,hβ⟩,q2⟩:=EB (g:=.tup [1,2]) (cond:=Eh cf mt []) (elt:=ev cf mt (T.tup [T.var 2,T.var 1])) (F:=dO) (J:=λβ=>∃y1 y2,β=[none,y1,y2]) (prs.reverse.map enc) [] [none,none,none] (λx hx β ⟨y1,y2,hβ⟩=>by
  subst hβ;obtain⟨q,_,rfl⟩:=mem_map.mp hx;refine⟨[none,sP q.1,sP q.2],[none,sP q.1,sP q.2],rfl,BF _,?_,_,_,rfl⟩;show _=Res.ok (C.p (.tup [q.2,q.1])) _
  simp! []) ⟨none,none,rfl⟩
 subst hβ
 have hm:(prs.reverse.map enc).map dO=(prs.reverse.map P5).map enc:=by
  rw[map_map,map_map];rfl
 rw[nil_append,hm]at q2;unfold Lk;rw[Cb];have hb:As (By [none,none,none] (c0::c1::some (.lst (prs.map enc))::r)) [none,none,none] [none,y1,y2]=c0::c1::some (.lst (prs.map enc))::r:=rfl;have hbig:prs.length<=big:=by unfold big;lia
 rw[map_reverse]at q2;have hi:inner [none,none,none] 2=none:=rfl;generalize (prs.reverse.map P5).map enc=W at *;generalize T.tup [T.var 2,T.var 1]=tE at *;simp! [IK.ok,Dd,Ae,A9,Br,B8,guards,hbig,AR,q2,hb,hi,Tg.slots]
variable{c2 c5 c7 c8 c9:Option C}
theorem TZ{n:Nat}(hn:80<=n){os:List Iv.P}{pr:Iv.P×Iv.P}(h:FD prs σ)(hp:GP prs)(hm:pr∈prs)(ho:os.length<=5000):
 execs (A0 fns mt A6 n) mt A6 YH [c0,c1,c2,c3,c4,c5,sD σ,sP pr.1,sP pr.2,c9,sL os]= .ok .nx [c0,c1,c2,c3,c4,c5,sD σ,sP pr.1,sP pr.2,c9,sL (os++CA (pre pr.1)++CA (pre pr.2))]:=by
 obtain⟨h1,h2⟩:=hp pr hm;obtain⟨ss,_,s2,_,s4,_⟩:=h.Le |> λ_=>h.ss
 have pk:∀p,KG I9 p->(∀i,Iv.P.int i∈pre p->Iv.P.int i∈B9 prs)->Ak (Ag σ p)=true/\(pre (Ag σ p)).length<=61*(pre p).length/\(Ag σ p).depth<=p.depth+60:=λp hk hi=>WG (m:=60) _ p (lR) hk.kd λi h'=>⟨h.Le.kd i,s4 i ((s2 i).mp (hi i h'))⟩
 have p1:=pk pr.1 h1 λi hi=>BA.mpr ⟨pr,hm,.inl hi⟩
 have p2:=pk pr.2 h2 λi hi=>BA.mpr ⟨pr,hm,.inr hi⟩
 have d1:=h1.len;have d2:=h2.len;have e1:=h1.dp;have e2:=h2.dp;have o1:=Rg (i:=7) (ρ:=[c0,c1,c2,c3,c4,c5,sD σ,sP pr.1,sP pr.2,c9,sL os]) rfl (N5 n pr.1 h1.kd (by lia) (by lia));have o2:=Rg (i:=8) (ρ:=[c0,c1,c2,c3,c4,c5,sD σ,sP pr.1,sP pr.2,c9,sL os]) rfl (N5 n pr.2 h2.kd (by lia) (by lia));have l1:(CA (pre pr.1)).length<=(pre pr.1).length:=length_filter_le _ _;have l2:(CA (pre pr.2)).length<=(pre pr.2).length:=length_filter_le _ _;have a1:=JH (a:=os) (b:=CA (pre pr.1)) (by unfold big;lia);have a2:=JH (a:=os++CA (pre pr.1)) (b:=CA (pre pr.2)) (by rw[lA];unfold big;lia)
 have s1:ev (A0 fns mt A6 n) mt (T.prim O.add [T.prim O.add [T.var 10,T.call 11 [T.var 7]],T.call 11 [T.var 8]]) [c0,c1,c2,c3,c4,c5,sD σ,sP pr.1,sP pr.2,c9,sL os]= .ok (.lst (os++CA (pre pr.1)++CA (pre pr.2))) [c0,c1,c2,c3,c4,c5,sD σ,sP pr.1,sP pr.2,c9,sL os]:=by
  simp! [o1,o2,aH,Ab,a1,a2]
 generalize os++CA (pre pr.1)++CA (pre pr.2)=W at *
 have q1:ev (A0 fns mt A6 n) mt (T.call 10 [T.var 7,T.var 6]) [c0,c1,c2,c3,c4,c5,sD σ,sP pr.1,sP pr.2,c9,sL W]= .ok (.p (Ag σ pr.1)) [c0,c1,c2,c3,c4,c5,sD σ,sP pr.1,sP pr.2,c9,sL W]:=by
  rw[AN];show(Ad _ _ [T.var 7,T.var 6] _).bind _=_;have:Ad (A0 fns mt A6 n) mt [T.var 7,T.var 6] [c0,c1,c2,c3,c4,c5,sD σ,sP pr.1,sP pr.2,c9,sL W]= .ok [.slot 7,.slot 6] [c0,c1,c2,c3,c4,c5,sD σ,sP pr.1,sP pr.2,c9,sL W]:=by simp! []
  rw[this,Res.A5];exact JE (i:=7) (j:=6) rfl rfl rfl rfl (Lz (d:=σ) n pr.1 h1.kd (Fv _ _ (lR) (by lia) h1.kd) (by lia))
 have q2:ev (A0 fns mt A6 n) mt (T.call 10 [T.var 8,T.var 6]) [c0,c1,c2,c3,c4,c5,sD σ,sP pr.1,sP pr.2,c9,sL W]= .ok (.p (Ag σ pr.2)) [c0,c1,c2,c3,c4,c5,sD σ,sP pr.1,sP pr.2,c9,sL W]:=by
  rw[AN];show(Ad _ _ [T.var 8,T.var 6] _).bind _=_;have:Ad (A0 fns mt A6 n) mt [T.var 8,T.var 6] [c0,c1,c2,c3,c4,c5,sD σ,sP pr.1,sP pr.2,c9,sL W]= .ok [.slot 8,.slot 6] [c0,c1,c2,c3,c4,c5,sD σ,sP pr.1,sP pr.2,c9,sL W]:=by simp! []
  rw[this,Res.A5];exact JE (i:=8) (j:=6) rfl rfl rfl rfl (Lz (d:=σ) n pr.2 h2.kd (Fv _ _ (lR) (by lia) h2.kd) (by lia))
 have es:=IU n (Ag σ pr.1) (Ag σ pr.2) (Fp p1.1) (Fp p2.1) (Fv _ _ (lR) (by lia) p2.1) (by lia);rw[decide_eq_true (h.Le.fit pr hm)]at es
 have t:tv (A0 fns mt A6 n) mt (T.call 9 [T.call 10 [T.var 7,T.var 6],T.call 10 [T.var 8,T.var 6]]) [c0,c1,c2,c3,c4,c5,sD σ,sP pr.1,sP pr.2,c9,sL W]= .ok true [c0,c1,c2,c3,c4,c5,sD σ,sP pr.1,sP pr.2,c9,sL W]:=by
  rw[II,AN];show VS ((Ad _ _ [T.call 10 [T.var 7,T.var 6],T.call 10 [T.var 8,T.var 6]] _).bind _)=_;have:Ad (A0 fns mt A6 n) mt [T.call 10 [T.var 7,T.var 6],T.call 10 [T.var 8,T.var 6]] [c0,c1,c2,c3,c4,c5,sD σ,sP pr.1,sP pr.2,c9,sL W]= .ok [.Bt (.p (Ag σ pr.1)),.Bt (.p (Ag σ pr.2))] [c0,c1,c2,c3,c4,c5,sD σ,sP pr.1,sP pr.2,c9,sL W]:=by simp! [q1,q2]
  rw[this,Res.A5,Cc (cs:=[.p (Ag σ pr.1),.p (Ag σ pr.2)]) rfl (λc hc=>by
    rcases mK hc with z|z
    .rw[z];rfl
    .rw[mE z];rfl) es rfl]
  rfl
 unfold YH;rw[AG s1];show execs _ _ _ _ [c0,c1,c2,c3,c4,c5,sD σ,sP pr.1,sP pr.2,c9,sL W]=_;simp! [t]
theorem U1{k:Nat}(hk:80<=k)(hz:O.ok (.list .zip)=true)(h:FD prs σ)(hp:GP prs)(hl:prs.length<=8):∃ρ,execs (A0 fns mt A6 (k + 5)) mt A6 bH [c0,c1,sL (prs.map enc),c3,c4,c5,sD σ,none,none,sD σ,none]= .ok (.ret (.p (.bl true))) ρ:=by
 obtain⟨ρ',⟨dn,y7,y8,hd,hρ⟩,e⟩:=BC (g:=.tup [7,8]) (gs:=[(2,.lst (prs.map enc))]) (b:=execs (A0 fns mt A6 (k + 5)) mt A6 YH) (J:=λd ρ=>∃dn y7 y8,d=dn.map enc/\ρ=[c0,c1,sL (prs.map enc),c3,c4,c5,sD σ,y7,y8,sD σ,sL (CA (B9 dn))]) (all:=prs.map enc) (λd ρ ⟨dn,y7,y8,_,hρ⟩=>by subst hρ;unfold holds A8;simp) (λd x r e ρ ⟨dn,y7,y8,hd,hρ⟩=>by
  subst hρ;subst hd;obtain⟨pr,hpr,rfl⟩:=mem_map.mp (show x∈prs.map enc by rw[<-e];simp)
  have hinj:∀q∈dn,q∈prs:=λq hq=>by
   have:enc q∈prs.map enc:=by rw[<-e];exact mL (mem_map_of_mem hq)
   obtain⟨q',h1,h2⟩:=mem_map.mp this;unfold enc at h2;injection h2 with h2
   injection h2 with h2 h3
   injection h3 with h3
   rw[show q=q' from Prod.ext h2.symm h3.symm];exact h1
  have BG:dn.length<=8:=by
   have:=congrArg List.length e;rw[lA,lM,lM]at this
   lia
  have hal:=HE (prs:=dn) λq hq=>hp q (hinj q hq)
  have hol:(CA (B9 dn)).length<=(B9 dn).length:=length_filter_le _ _;have t:=TZ (n:=k+5) (c0:=c0) (c1:=c1) (c2:=some (.lst (prs.map enc))) (c3:=c3) (c4:=c4) (c5:=c5) (c9:=some (.AB σ)) (os:=CA (B9 dn)) (by lia) h hp hpr (by lia);refine⟨_,_,.nx,rfl,t,.inl rfl,dn++[pr],sP pr.1,sP pr.2,by rw[map_append];rfl,?_⟩
  have:CA (B9 (dn++[pr]))=CA (B9 dn)++CA (pre pr.1)++CA (pre pr.2):=by
   unfold B9 CA;rw[List.flatMap_append,filter_append,append_assoc];simp
  rw[this]) (prs.map enc) [] [c0,c1,sL (prs.map enc),c3,c4,c5,sD σ,none,none,sD σ,sL []] rfl ⟨[],none,none,rfl,rfl⟩
 subst hρ
 have hdp:dn=prs:=by
  have inj:∀{a b:List (Iv.P×Iv.P)},a.map enc=b.map enc->a=b:=λ{a}=>by
   induction a with
   |nil=>intro b h;cases b with|nil=>rfl|cons _ _=>cases h
   |cons x a ih=>
     intro b h;cases b with
     |nil=>cases h
     |cons y b=>
       rw[map_cons,map_cons]at h;injection h with h1 h2
       unfold enc at h1;injection h1 with h1
       injection h1 with h1 h3
       injection h3 with h3
       rw[ih h2,show x=y from Prod.ext h1 h3]
  exact(inj hd).symm
 subst hdp;have has:Bu YH=[10]:=by decide
 have hfor:exec (A0 fns mt A6 (k + 5)) mt A6 (S.CB (Tg.tup [7,8]) IK.op [T.var 2] YH) [c0,c1,sL (dn.map enc),c3,c4,c5,sD σ,none,none,sD σ,sL []]= .ok .nx [c0,c1,sL (dn.map enc),c3,c4,c5,sD σ,y7,y8,sD σ,sL (CA (B9 dn))]:=by
  simp! [BD,IK.ok,Dy,Ae,Dq,A9,guards,has,Tg.slots,e]
 have et:=So (k:=k+4) (by lia) h (os:=CA (B9 dn)) λx=>N2
 have t:tv (A0 fns mt A6 (k + 5)) mt (T.call 13 [T.var 6,T.var 10]) [c0,c1,sL (dn.map enc),c3,c4,c5,sD σ,y7,y8,sD σ,sL (CA (B9 dn))]= .ok true [c0,c1,sL (dn.map enc),c3,c4,c5,sD σ,y7,y8,sD σ,sL (CA (B9 dn))]:=by
  rw[II,AN];show VS ((Ad _ _ [T.var 6,T.var 10] _).bind _)=_;have:Ad (A0 fns mt A6 (k+5)) mt [T.var 6,T.var 10] [c0,c1,sL (dn.map enc),c3,c4,c5,sD σ,y7,y8,sD σ,sL (CA (B9 dn))]= .ok [.slot 6,.slot 10] [c0,c1,sL (dn.map enc),c3,c4,c5,sD σ,y7,y8,sD σ,sL (CA (B9 dn))]:=by simp! [aH]
  rw[this,Res.A5,Ek (i:=6) (j:=10) rfl rfl rfl rfl (by decide) et];rfl
 have hcl:=Vb (cf:=A0 fns mt A6 (k + 5)) (mt:=mt) (σ:=σ) (a:=c0) (b:=c1) (c:=some (.lst (dn.map enc))) (d:=c3) (e:=c4) (f:=c5) (r:=[y7,y8,sD σ,sL (CA (B9 dn))]) (by
  rw[all_eq_true];intro q hq;obtain⟨i,e,_⟩:=h.mem hq;rw[e]
  rfl)
 obtain⟨c,hc,ec⟩:=Qt (k:=k) hz hp (by lia) (by rw[Mw];lia);have:=hc.uniq (.AB h) (λ_=>Iff.rfl) λ_=>Iff.rfl
 subst this
 have e12:ev (A0 fns mt A6 (k + 5)) mt (T.call 12 [T.var 2]) [c0,c1,sL (dn.map enc),c3,c4,c5,none,y7,y8,sD σ,sL (CA (B9 dn))]= .ok (.AB σ) [c0,c1,sL (dn.map enc),c3,c4,c5,none,y7,y8,sD σ,sL (CA (B9 dn))]:=by
  rw[AN];show(Ad _ _ [T.var 2] _).bind _=_;rw[Cr rfl,Res.A5];exact CH (i:=2) (hs:=[]) rfl rfl rfl (λc hc=>by cases hc) ec rfl
 have heq:=hc.eq
 have s1:exec (A0 fns mt A6 (k + 5)) mt A6 (S.ifs (T.not (T.call 13 [T.var 6,T.var 10])) [S.ret (T.cst (P.bl false))] []) [c0,c1,sL (dn.map enc),c3,c4,c5,sD σ,y7,y8,sD σ,sL (CA (B9 dn))]= .ok .nx [c0,c1,sL (dn.map enc),c3,c4,c5,sD σ,y7,y8,sD σ,sL (CA (B9 dn))]:=by
  simp! [t]
 refine⟨[c0,c1,sL (dn.map enc),c3,c4,c5,none,y7,y8,sD σ,sL (CA (B9 dn))],?_⟩;unfold bH;rw[AG (HF _)];refine(CT hfor).trans ?_;unfold dY;rw[CT s1,CT hcl];simp! [e12,Ab,AA,heq]
theorem U0{k:Nat}(hk:80<=k)(hz:O.ok (.list .zip)=true)(hp:GP prs)(hl:prs.length<=8):∃ρ,execs (A0 fns mt A6 (k + 5)) mt A6 bG [c0,c1,sL (prs.map enc),c3,c4,none,none,none,none,none,none]= .ok (.ret (.p (.bl true))) ρ:=by
 obtain⟨c,hc,ec⟩:=Qt (k:=k) hz hp (by lia) (by rw[Mw];lia);obtain⟨d,hd,ed⟩:=Qt (k:=k) hz hp.P5 (by rw[lM,length_reverse];lia) (by rw[Mw];lia);have:=hc.uniq hd (λ_=>QV) λ_=>Rp
 subst this
 have e5:ev (A0 fns mt A6 (k + 5)) mt (T.prim (O.list IK.op) [T.var 2]) [c0,c1,sL (prs.map enc),c3,c4,none,none,none,none,none,none]= .ok (.lst (prs.map enc)) [c0,c1,sL (prs.map enc),c3,c4,none,none,none,none,none,none]:=by
  simp! [Ab,Lr]
 have e6:ev (A0 fns mt A6 (k + 5)) mt (T.call 12 [T.var 5]) [c0,c1,sL (prs.map enc),c3,c4,sL (prs.map enc),none,none,none,none,none]= .ok c [c0,c1,sL (prs.map enc),c3,c4,sL (prs.map enc),none,none,none,none,none]:=by
  rw[AN];show(Ad _ _ [T.var 5] _).bind _=_;rw[Cr rfl,Res.A5];exact CH (i:=5) (hs:=[]) rfl rfl rfl (λc hc=>by cases hc) ec rfl
 have e9:ev (A0 fns mt A6 (k + 5)) mt (T.call 12 [Lk]) [c0,c1,sL (prs.map enc),c3,c4,sL (prs.map enc),some c,none,none,none,none]= .ok c [c0,c1,sL (prs.map enc),c3,c4,sL (prs.map enc),some c,none,none,none,none]:=by
  rw[AN];show(Ad _ _ [Lk] _).bind _=_;have hw:=W7 (cf:=A0 fns mt A6 (k+5)) (c0:=c0) (c1:=c1) (prs:=prs) (by lia) (r:=[c3,c4,sL (prs.map enc),some c,none,none,none,none]);have hh:∀(v:Iv.Env->Res C) (ρ:Iv.Env),BG Lk v ρ=(v ρ).bind λc ρ=>.ok (.Bt c) ρ:=λ_ _=>rfl
  generalize (prs.reverse.map P5).map enc=W at *;have:Ad (A0 fns mt A6 (k+5)) mt [Lk] [c0,c1,sL (prs.map enc),c3,c4,sL (prs.map enc),some c,none,none,none,none]= .ok [.Bt (.lst W)] [c0,c1,sL (prs.map enc),c3,c4,sL (prs.map enc),some c,none,none,none,none]:=by simp! [hh,hw]
  rw[this,Res.A5];exact JD (cs:=[.lst W]) rfl (by show[].Nodup;simp) rfl ed rfl
 have heq:=hc.eq;have hle:=hp.eq
 have z1:exec (A0 fns mt A6 (k + 5)) mt A6 (S.ifs (T.or (T.prim O.ne [T.var 5,T.var 2]) (T.prim O.ne [T.var 6,T.var 9])) [S.ret (T.cst (P.bl false))] []) [c0,c1,sL (prs.map enc),c3,c4,sL (prs.map enc),some c,none,none,some c,none]= .ok .nx [c0,c1,sL (prs.map enc),c3,c4,sL (prs.map enc),some c,none,none,some c,none]:=by
  have hll:EK (.lst (prs.map enc)) (.lst (prs.map enc))=some true:=hle;generalize prs.map enc=W at *;simp! [Ab,AA,hll,heq]
 have hdD:=λ(σ:Sub) (h:FD prs σ)=>U1 (k:=k) (c0:=c0) (c1:=c1) (c3:=c3) (c4:=c4) (c5:=some (.lst (prs.map enc))) hk hz h hp hl
 have goal:∃ρ,execs (A0 fns mt A6 (k + 5)) mt A6 (S.ifs (T.not (T.prim (O.FC Ty.dict) [T.var 6])) [S.ret (T.or (T.prim O.is [T.var 6,T.cst P.AI]) (T.prim O.eq [T.var 6,T.cst great]))] []::bH) [c0,c1,sL (prs.map enc),c3,c4,sL (prs.map enc),some c,none,none,some c,none]= .ok (.ret (.p (.bl true))) ρ:=by
  cases hc with
  |none _=>exact⟨[c0,c1,sL (prs.map enc),c3,c4,sL (prs.map enc),sP .AI,none,none,sP .AI,none],by simp! [Ab,Be,AA]⟩
  |great=>
    have h1:Be .dict (.p great)=some false:=rfl;have h2:decide (great= .AI)=false:=dF λz=>by cases z
    exact⟨[c0,c1,sL (prs.map enc),c3,c4,sL (prs.map enc),sP great,none,none,sP great,none],by simp! [Ab,h1,AA,h2,heq]⟩
  |AB h=>
    obtain⟨ρ,e⟩:=hdD _ h;exact⟨ρ,by simp! [Ab,Be,e]⟩
 obtain⟨ρ,e⟩:=goal;refine⟨ρ,?_⟩;unfold bG;rw[AG e5];refine(AG e6).trans ((AG e9).trans ?_);unfold dX;exact(CT z1).trans e
theorem Xo{k:Nat}(hk:80<=k)(hz:O.ok (.list .zip)=true)(ns:List Int):∃outs,A0 fns mt A6 (k + 6) 14 [.b (.ro (ns.map .int))]= .ok (.p (.bl true)) outs:=by
 obtain⟨prs,c1,y3,y4,hp,hl,e⟩:=Q3 (k:=k+4) (ns:=ns) (r:=[none,none,none,none,none,none]);obtain⟨ρ,e2⟩:=U0 (k:=k) (c0:=some (.b (.ro (ns.map .int)))) (c1:=c1) (c3:=y3) (c4:=y4) hk hz hp hl;exact⟨_,Ar (args:=[.b (.ro (ns.map .int))]) aN rfl (e.trans e2)⟩
theorem TX(ns:List Int)(h:ns.length<=63):∃outs,A0 fns mt A6 98 14 [.b (.ro (ns.map .int))]= .ok (.p (.bl true)) outs:=Xo (k:=92) (by decide) rfl ns
end Lk03
open PySem PySem.W PyProof.Rows
set_option maxRecDepth 100000 in
set_option maxHeartbeats 0 in
theorem PySem.Challenge.cw_kinddeeds_k03_fitted_fits_holds : PySem.Challenge.rw_kinddeeds_k03_fitted_fits.Holds := by
  w_on; o_law; k_head; (case hw => w_witness2)
  k_fill
  refine Iv.walk (l := PySem.Challenge.rw_kinddeeds_k03_fitted_fits) 63 200 rfl (by decide) rfl ⟨rfl, by decide, by decide⟩ (fun w h Y => PySem.W.kIn_of Y) ?F
  case F =>
    intro w mg fa h KX G hmg
    refine' Lk03.all_mk Lk03.TX KX G hmg ?_ ?_ ?_ ?_ ?_ ?_ ?_ ?_ ?_ ?_ ?_ ?_ ?_ ?_ ?_ ?_ ?_ ?_ ?_ ?_ ?_ ?_ ?_ ?_ ?_ ?_ ?_ ?_ ?_ ?_ ?_ ?_ ?_ ?_ ?_ ?_ ?_ ?_ ?_ ?_ ?_ ?_ ?_ ?_ ?_ ?_ ?_ ?_ ?_ ?_ ?_ ?_ ?_ ?_ ?_ ?_ ?_ ?_ ?_ ?_ ?_ ?_ ?_
    all_goals first
      | k_is
      | exact ⟨⟨_, _, _, _, _, _, _, _, _, rfl, by k_is, by k_is⟩, by k_is⟩
      | exact ⟨by k_is, by k_is, by k_is, by k_is⟩
      | rfl
      | (repeat first | exact Iv.Each.nil | refine Iv.Each.cons (by k_is) ?_)
