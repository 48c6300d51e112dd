import PyProof.Rows.All
import Wide.All
import OpenK.AllK
import Wide.FinOn
import PyProof.DictFindH
import PyProof.DictRoadsH
import Lean
import PyProof.EqAt
import PyProof.EqKinds
import PyProof.TupleCall
import KE.KStateDown
import PyProof.NeKinds
import PyProof.ListRange
import PyProof.TupleOfSeq
import KE.KSortTup
import PyProof.TupleKey
import PyProof.Rows.SetFrom
import PyProof.SetRoads
import KE.KDictList
import KE.KSortKey
import KE.KDictOf
import PyProof.AttrMiss
import PyProof.IsiH_list
import PyProof.AutoListH
import PySem.Challenge.RW_noughtways_k08_whole_products_hold_toget
set_option Elab.async false
set_option linter.all false
set_option maxRecDepth 100000
set_option compiler.extract_closed false
set_option bootstrap.genMatcherCode false
open List (all_cons all_eq_true all_nil any_cons any_eq_true append_assoc append_nil drop_zero filter_cons foldl_cons getD_eq_getElem?_getD getElem?_cons_succ getElem?_cons_zero getElem?_eq_getElem getElem?_eq_none getElem?_map getElem?_replicate getElem_mem length_append length_cons length_drop length_map length_nil length_range length_replicate length_set length_singleton length_take map_append map_congr_left map_cons map_id map_map map_nil map_set map_take mem_append mem_append_left mem_append_right mem_cons mem_cons_of_mem mem_cons_self mem_filter mem_map mem_map_of_mem mem_of_getElem? mem_of_mem_take mem_range mem_singleton nodup_cons not_mem_nil replicate_succ size_toArray take_of_length_le)
namespace L2
open PySem
section
variable {prog:Program} {w:World} {K:Type} [DecidableEq K] {knd:HeapKind prog w K} {A:Around} {E:Value→Shared→Prop} {s:Shared}
end
open PySem PySem.Spec PyProof.Rows
noncomputable abbrev Key:=Sum Int Str
noncomputable def Q6c:Key→Value→Bool
 | .inl k,v=>Value.isInt k v
 | .inr x,v=>Value.isStrOf x v
noncomputable def keyH (w:World):Key→Int
 | .inl k=>hashInt k
 | .inr x=>hashStr w x
theorem Qbs:∀ {k:Key} {v:Value},Q6c k v=true→(∃ i t,k=Sum.inl i∧v=Value.int i t)∨(∃ x t,k=Sum.inr x∧v=Value.str x t)
 | .inl i,v,h=>by
  obtain ⟨t,e⟩:=Value.isInt_shape (k:=i) (v:=v) h
  exact .inl ⟨i,t,rfl,e⟩
 | .inr x,v,h=>by
  obtain ⟨t,e⟩:=Value.isStrOf_shape (x:=x) (v:=v) h
  exact .inr ⟨x,t,rfl,e⟩
theorem Q7s (a b:Int):decide ((Sum.inl a:Key)=Sum.inl b)=(a==b):=by
 by_cases e:a=b
 ·subst e;simp
 ·have h:¬ (Sum.inl a:Key)=Sum.inl b:=fun q=>e (Sum.inl.inj q)
  rw [decide_eq_false h]
  exact (beq_eq_false_iff_ne.mpr e).symm
theorem Q7t (a b:Str):decide ((Sum.inr a:Key)=Sum.inr b)=decide (a=b):=by
 by_cases e:a=b
 ·subst e;simp
 ·have h:¬ (Sum.inr a:Key)=Sum.inr b:=fun q=>e (Sum.inr.inj q)
  rw [decide_eq_false h,decide_eq_false e]
theorem Q7u (a:Int) (b:Str):decide ((Sum.inl a:Key)=Sum.inr b)=false:=decide_eq_false (fun q=>nomatch q)
theorem Q7v (a:Str) (b:Int):decide ((Sum.inr a:Key)=Sum.inl b)=false:=decide_eq_false (fun q=>nomatch q)
noncomputable def Qvr (prog:Program) (w:World):PySem.KeyKind prog w Key where
 is:=Q6c
 hash:=keyH w
 inj:=fun v a b ha hb=>by
  rcases Qbs ha with ⟨i,t,rfl,rfl⟩ | ⟨x,t,rfl,rfl⟩
  ·rcases Qbs hb with ⟨j,u,rfl,e⟩ | ⟨y,u,rfl,e⟩
   ·injection e with e1 _;rw [e1]
   ·exact nomatch e
  ·rcases Qbs hb with ⟨j,u,rfl,e⟩ | ⟨y,u,rfl,e⟩
   ·exact nomatch e
   ·injection e with e1 _;rw [e1]
 byValue:=fun k v h=>by
  rcases Qbs h with ⟨i,t,rfl,rfl⟩ | ⟨x,t,rfl,rfl⟩ <;> rfl
 pyHash:=fun hv h=>by
  rcases Qbs hv with ⟨i,t,rfl,rfl⟩ | ⟨x,t,rfl,rfl⟩
  ·exact wpAny_pyHash_int h
  ·exact wpAny_pyHash_str h
 eqBool:=fun hu hv h=>by
  rcases Qbs hu with ⟨i,t,rfl,rfl⟩ | ⟨x,t,rfl,rfl⟩
  ·rcases Qbs hv with ⟨j,u,rfl,rfl⟩ | ⟨y,u,rfl,rfl⟩
   ·rw [Q7s] at h;exact wpAny_eqBool_int h
   ·rw [Q7u] at h;exact SeqAt.EqAt.int_str i t y u _ _ _ _ h
  ·rcases Qbs hv with ⟨j,u,rfl,rfl⟩ | ⟨y,u,rfl,rfl⟩
   ·rw [Q7v] at h;exact SeqAt.EqAt.str_int x t j u _ _ _ _ h
   ·rw [Q7t] at h;exact wpAny_eqBool_str h
 «strs»:=fun k x t v h=>by
  rcases Qbs h with ⟨i,u,rfl,e⟩ | ⟨y,u,rfl,e⟩
  ·exact nomatch e
  ·injection e with e1 _
   subst e1
   cases v <;> rfl
inductive V where
 | non | bl (b:Bool) | int (i:Int) | str (x:Str) | byt (b:Array UInt8) | flt (b:UInt64) | ref (a:Addr) | ty (n:String)
 deriving DecidableEq
noncomputable def RelV:V→Value→Prop
 | .non,u=>u=Value.none
 | .bl b,u=>u=Value.bool b
 | .int i,u=>∃ t,u=Value.int i t
 | .str x,u=>∃ t,u=Value.str x t
 | .byt b,u=>∃ t,u=Value.bytes b t
 | .flt b,u=>∃ t,u=Value.float b t
 | .ref a,u=>u=Value.ref a
 | .ty n,u=>u=Value.type n
noncomputable abbrev Vals:List V→List Value→Prop:=Paired RelV
theorem Vals.length {xs:List V} {us:List Value} (r:Vals xs us):xs.length=us.length:=Paired.length r
theorem Vals.get:∀ {xs:List V} {us:List Value} {i:Nat} {x:V},Vals xs us→xs[i]?=some x→∃ u,us[i]?=some u∧RelV x u
 | _,_,_,_,.nil,e=>by simp at e
 | _,_,0,_,.cons r _,e=>by simp at e;subst e;exact ⟨_,rfl,r⟩
 | _,_,i+1,x,.cons _ t,e=>by
  obtain ⟨u,h1,h2⟩:=Vals.get (i:=i) (x:=x) t (by simpa using e)
  exact ⟨u,by simpa using h1,h2⟩
theorem Vals.set {x:V} {u:Value} (r:RelV x u):∀ {xs:List V} {us:List Value} (i:Nat),Vals xs us→Vals (xs.set i x) (us.set i u)
 | _,_,_,.nil=>.nil
 | _,_,0,.cons _ t=>.cons r t
 | _,_,i+1,.cons q t=>.cons q (Vals.set r i t)
theorem Vals.append:∀ {xs ys:List V} {us ws:List Value},Vals xs us→Vals ys ws→Vals (xs++ys) (us++ws)
 | _,_,_,_,.nil,s=>s
 | _,_,_,_,.cons r t,s=>.cons r (Vals.append t s)
theorem Vals.take:∀ {xs:List V} {us:List Value} (n:Nat),Vals xs us→Vals (xs.take n) (us.take n)
 | _,_,0,_=>.nil
 | _,_,_+1,.nil=>.nil
 | _,_,n+1,.cons r t=>.cons r (Vals.take n t)
theorem Vals.drop:∀ {xs:List V} {us:List Value} (n:Nat),Vals xs us→Vals (xs.drop n) (us.drop n)
 | _,_,0,r=>r
 | _,_,_+1,.nil=>.nil
 | _,_,n+1,.cons _ t=>Vals.drop n t
noncomputable def Q7w:Option V→Option Value→Prop
 | some v,some u=>RelV v u
 | none,none=>True
 | _,_=>False
noncomputable def KV {κ:Type}:List (κ×V)→List (κ×Value)→Prop:=Paired fun (p:κ×V) (q:κ×Value)=>p.1=q.1∧RelV p.2 q.2
noncomputable def kV:Key→V
 | .inl i=>.int i
 | .inr x=>.str x
inductive HO where
  | lst (xs:List V)
  | tup (xs:List V)
  | dK (kvs:List (Key×V)) | dT (kvs:List (List Key×V))
  | set (S:Int→Bool) (n:Nat)
  | ins (C dx:Addr) (fs:List (Str×V))
  | own (x:Addr)
  | xd (fs:List (Str×V))
  | met (f x:Addr)
  | rng (lo hi:Int)
  | frz (o:Obj) (u:HO)
  | tbl (q:Str)
 | cod (q:Str)
  | ext (φ:Heap→Prop)
noncomputable abbrev Hp:=Addr→Option HO
noncomputable def upd (H:Hp) (a:Addr) (o:HO):Hp:=fun b=>if b=a then some o else H b
theorem Q6 {H:Hp} {a:Addr} {o:HO}:upd H a o a=some o:=by unfold upd;rw [if_pos rfl]
theorem Qab {H:Hp} {a b:Addr} {o:HO} (h:b≠a):upd H a o b=H b:=by unfold upd;rw [if_neg h]
theorem Qcq {H:Hp} {a b:Addr} {o:HO} (h:H a=some o) (h':H b=none):a≠b:=by
 intro e;subst e;rw [h] at h';cases h'
noncomputable def IsTupD (h:Heap) (a:Addr) (its:Array Value):Prop:=∃ o,h.get? a=some o∧o.cls=.type "tuple" ∧ ∃ n,o.data=.seq its n∧o.dict=none
theorem IsTupD.tup {h:Heap} {a:Addr} {its:Array Value} (x:IsTupD h a its):IsTup h a its:=let ⟨o,e,c,n,d,_⟩:=x;⟨o,e,c,n,d⟩
theorem IsTupD.new (h:Heap) (its:Array Value):IsTupD (h.push { cls:=.type "tuple",data:=.seq its }) h.objs.size its:=⟨_,Heap.get?_push_size _ rfl,rfl,_,rfl,rfl⟩
section
variable (P:Program) (w:World)
noncomputable def ObjOk (H:Hp) (h:Heap) (a:Addr):HO→Prop
 | .lst xs=>xs.length≤sizeLine∧∃ (its:List Value) (n:Nat),Vals xs its∧h.get? a=some { cls:=.type "list",data:=.seq its.toArray n }
 | .tup xs=>xs.length≤sizeLine∧∃ its:List Value,Vals xs its∧IsTupD h a its.toArray
 | .dK kvs=>kvs.length≤sizeLine∧(a==sysModules)=false∧∃ vs,KV kvs vs∧h.DictOf (Qvr P w) a vs
 | .dT kvs=>kvs.length≤sizeLine∧(a==sysModules)=false∧∃ xs:List (List Key×Addr×Value),
   Paired (fun (p:List Key×V) (q:List Key×Addr×Value)=>p.1=q.1∧H q.2.1=some (.tup (p.1.map kV))∧RelV p.2 q.2.2) kvs xs ∧
   ∃ o es ep,h.get? a=some o∧o.ExactDict∧o.data=.dict es ep∧es.toList=xs.map (entryOfKey (tupleKind (Qvr P w)))∧(xs.map (·.1)).Nodup∧ep=es.size
 | .set S n=>h.SetOf (intKind P w) a S n
 | .ins C dx fs=>H dx=some (.own a)∧fs.length≤1000∧dx≠a∧h.get? a=some (PySem.W.instObj C dx) ∧
   ∃ mA,h.Ns1 dx mA∧(∀ f,Q7w (fs.lookup f) (mA f))∧PySem.Within mA (fs.map (·.1))
 | .own _=>∃ o,h.get? a=some o
 | .xd fs=>∃ mA,h.Ns1 a mA∧∀ f,Q7w (fs.lookup f) (mA f)
 | .rng lo hi=>∃ t u v,h.get? a=some { cls:=.type "range",data:=.fields #[.int lo t,.int hi u,.int 1 v] }
 | .frz o u=>h.get? a=some o∧ObjOk H h a u
 | .tbl q=>∃ ps:Array Value,h.get? a=some { cls:=.none,data:=.fields ps }∧TriplesOk ps.toList∧∀ pos cv,codeAmong pos ps.toList=some cv→∃ c,cv=.ref c∧H c=some (.cod q)
 | .cod q=>h.CodeRec (.ref a) q
 | .met f x=>h.get? a=some (PySem.W.methodObj (.ref f) (.ref x))
 | .ext φ=>φ h∧(∃ o,h.get? a=some o)∧∀ h1 h2:Heap,φ h1→(∀ o,h1.get? a=some o→h2.get? a=some o)→φ h2
noncomputable def HOk (H:Hp) (h:Heap):Prop:=∀ a o,H a=some o→ObjOk P w H h a o
end
section
variable {P:Program} {w:World} {H H':Hp} {h h':Heap} {a:Addr} {o:HO}
theorem ObjOk.lt (x:ObjOk P w H h a o):a<h.objs.size:=by
 cases o with
 | lst xs=>obtain ⟨_,_,_,_,e⟩:=x;exact Heap.lt_size e
 | tup xs=>obtain ⟨_,_,_,p⟩:=x;exact p.tup.lt
 | dK kvs=>obtain ⟨_,_,_,_,o,_,_,e,_⟩:=x;exact Heap.lt_size e
 | dT kvs=>obtain ⟨_,_,_,_,o,_,_,e,_⟩:=x;exact Heap.lt_size e
 | set S n=>obtain ⟨o,_,_,_,e,_⟩:=x;exact Heap.lt_size e
 | ins C dx fs=>obtain ⟨_,_,_,e,_⟩:=x;exact Heap.lt_size e
 | own y=>obtain ⟨_,e⟩:=x;exact Heap.lt_size e
 | xd fs=>obtain ⟨_,⟨_,_,_,e,_⟩,_⟩:=x;exact Heap.lt_size e
 | rng lo hi=>obtain ⟨_,_,_,e⟩:=x;exact Heap.lt_size e
 | frz ob u=>obtain ⟨e,_⟩:=x;exact Heap.lt_size e
 | tbl q=>obtain ⟨_,e,_⟩:=x;exact Heap.lt_size e
 | cod q=>obtain ⟨_,_,_,_,e,e1,_⟩:=x;cases e;exact Heap.lt_size e1
 | met f y=>exact Heap.lt_size (show h.get? a=some _ from x)
 | ext φ=>obtain ⟨_,⟨_,e⟩,_⟩:=x;exact Heap.lt_size e
theorem Paired.mapP {α β:Type} {F G:α→β→Prop}:∀ {l₁:List α} {l₂:List β},Paired F l₁ l₂→(∀ a b,F a b→G a b)→Paired G l₁ l₂
 | _,_,.nil,_=>.nil
 | _,_,.cons r t,f=>.cons (f _ _ r) (Paired.mapP t f)
theorem ObjOk.stay (x:ObjOk P w H h a o) (k:∀ b u,(b=a∨H b=some (.own a))→h.get? b=some u→h'.get? b=some u)
  (ho:∀ b,H b=some (.own a)→H' b=some (.own a)) (ht:∀ b xs,H b=some (.tup xs)→H' b=some (.tup xs)) (hcod:∀ b q,H b=some (.cod q)→H' b=some (.cod q):=by exact fun _ _ q=>q):ObjOk P w H' h' a o:=by
 induction o with
 | lst xs=>obtain ⟨z,its,n,r,e⟩:=x;exact ⟨z,its,n,r,k _ _ (.inl rfl) e⟩
 | tup xs=>obtain ⟨z,its,r,ob,e,c⟩:=x;exact ⟨z,its,r,ob,k _ _ (.inl rfl) e,c⟩
 | dK kvs=>obtain ⟨z,y,vs,r,ob,es,ep,e,c⟩:=x;exact ⟨z,y,vs,r,ob,es,ep,k _ _ (.inl rfl) e,c⟩
 | dT kvs =>
  obtain ⟨z,y,xs,r,ob,es,ep,e,c⟩:=x
  exact ⟨z,y,xs,Paired.mapP r fun p q z=>⟨z.1,ht _ _ z.2.1,z.2.2⟩,ob,es,ep,k _ _ (.inl rfl) e,c⟩
 | set S n=>obtain ⟨ob,es,ep,t,e,c⟩:=x;exact ⟨ob,es,ep,t,k _ _ (.inl rfl) e,c⟩
 | ins C dx fs =>
  obtain ⟨d,z,ne,e,mA,⟨od,es,ep,e2,c⟩,r⟩:=x
  exact ⟨ho _ d,z,ne,k _ _ (.inl rfl) e,mA,⟨od,es,ep,k _ _ (.inr d) e2,c⟩,r⟩
 | own y=>obtain ⟨ob,e⟩:=x;exact ⟨ob,k _ _ (.inl rfl) e⟩
 | xd fs=>obtain ⟨mA,⟨od,es,ep,e,c⟩,r⟩:=x;exact ⟨mA,⟨od,es,ep,k _ _ (.inl rfl) e,c⟩,r⟩
 | rng lo hi=>obtain ⟨t,u,v,e⟩:=x;exact ⟨t,u,v,k _ _ (.inl rfl) e⟩
 | frz ob u ih=>obtain ⟨e,q⟩:=x;exact ⟨k _ _ (.inl rfl) e,ih q⟩
 | tbl q =>
  obtain ⟨ps,e,tr,al⟩:=x
  refine ⟨ps,k _ _ (.inl rfl) e,tr,fun pos cv hc=>?_⟩
  obtain ⟨c,ec,hH⟩:=al pos cv hc
  exact ⟨c,ec,hcod _ _ hH⟩
 | cod q =>
  obtain ⟨c,o,vs,t,e,e1,r⟩:=x
  cases e
  exact ⟨_,o,vs,t,rfl,k _ _ (.inl rfl) e1,r⟩
 | met f y =>
  have e:h.get? a=some (PySem.W.methodObj (.ref f) (.ref y)):=x
  show h'.get? a=some (PySem.W.methodObj (.ref f) (.ref y))
  exact k a _ (.inl rfl) e
 | ext φ=>obtain ⟨p,⟨o,e⟩,st⟩:=x;exact ⟨st _ _ p fun o q=>k _ _ (.inl rfl) q,⟨o,k _ _ (.inl rfl) e⟩,st⟩
theorem HOk.lt (x:HOk P w H h) (e:H a=some o):a<h.objs.size:=(x a o e).lt
theorem HOk.fresh (x:HOk P w H h) (e:h.objs.size≤a):H a=none:=by
 cases q:H a with
 | none=>rfl
 | some u=>exact absurd (Nat.lt_of_lt_of_le (x.lt q) e) (Nat.lt_irrefl _)
theorem HOk.kept (x:HOk P w H h) (k:∀ b u,h.get? b=some u→h'.get? b=some u):HOk P w H h':=fun a o e =>
 (x a o e).stay (fun b u _ q=>k b u q) (fun _ q=>q) fun _ _ q=>q
theorem HOk.laid (x:HOk P w H h) (k:∀ b u,h.get? b=some u→h'.get? b=some u) (hp:h.objs.size≤a) (new:ObjOk P w (upd H a o) h' a o):HOk P w (upd H a o) h':=fun b u e=>by
 have hn:=x.fresh hp
 by_cases hb:b=a
 ·subst hb;rw [Q6] at e;cases e;exact new
 ·rw [Qab hb] at e
  exact (x b u e).stay (fun c v _ q=>k c v q) (fun c q=>by rw [Qab (Qcq q hn)];exact q) (fun c xs q=>by rw [Qab (Qcq q hn)];exact q) fun c xs q=>by rw [Qab (Qcq q hn)];exact q
end
noncomputable def Rd (H:Hp) (a:Addr) (u:HO):Prop:=H a=some u∨∃ o,H a=some (.frz o u)
theorem Rd.ok {P:Program} {w:World} {H:Hp} {h:Heap} {a:Addr} {u:HO} (r:Rd H a u) (x:HOk P w H h):ObjOk P w H h a u:=by
 rcases r with r | ⟨o,r⟩
 ·exact x a u r
 ·obtain ⟨_,q⟩:=x a _ r
  exact q
noncomputable def Mut:Option HO→Prop
 | some (.lst _)=>True
 | some (.dK _)=>True
 | some (.dT _)=>True
 | some (.set _ _)=>True
 | some (.ins _ _ _)=>True
 | some (.ext _)=>True
 | _=>False
section
variable {P:Program} {w:World} {H:Hp} {h h':Heap} {x e:Addr} {o':HO}
theorem HOk.write (ok:HOk P w H h) (mu:Mut (H x)) (he:e=x∨H e=some (.own x)) (k:∀ b u,b≠e→h.get? b=some u→h'.get? b=some u) (heo:∃ u,h'.get? e=some u)
  (new:ObjOk P w (upd H x o') h' x o'):HOk P w (upd H x o') h':=fun b u q=>by
 have nown:∀ c y,H c=some (.own y)→c≠x:=fun c y r z=>by subst z;rw [r] at mu;exact mu
 have ntup:∀ c xs,H c=some (.tup xs)→c≠x:=fun c xs r z=>by subst z;rw [r] at mu;exact mu
 by_cases hb:b=x
 ·subst hb;rw [Q6] at q;cases q;exact new
 ·rw [Qab hb] at q
  by_cases hbe:b=e
  ·have q':H b=some (.own x):=by
    rcases he with z | z
    ·exact absurd (hbe.trans z) hb
    ·rw [hbe];exact z
   rw [q] at q';cases q'
   obtain ⟨v,hv⟩:=heo
   exact ⟨v,by rw [hbe];exact hv⟩
  ·refine (ok b u q).stay (fun c v hc r=>k c v ?_ r) (fun c r=>by rw [Qab (nown c b r)];exact r) (fun c xs r=>by rw [Qab (ntup c xs r)];exact r) fun c y r=>by rw [Qab (fun z=>by subst z;rw [r] at mu;exact mu)];exact r
   rcases hc with rfl | hc
   ·exact hbe
   ·rintro rfl
    rcases he with z | z
    ·exact nown c b hc z
    ·rw [hc] at z;cases z;exact hb rfl
end
structure Un (fs ex:List Addr) (H H':Hp) (h h':Heap):Prop where
 keep:∀ b o,h.get? b=some o→H b=none→b∉fs→b∉ex→h'.get? b=some o
 slot:∀ b o,h.get? b=some o→H b=none→b∈fs→b∉ex→∃ sl,h'.get? b=some { o with slots:=sl }
 free:∀ b o,h.get? b=some o→H b=none→b∉ex→H' b=none
 there:∀ b o,h.get? b=some o→b∉ex→∃ o',h'.get? b=some o'
 tups:∀ b xs,H b=some (.tup xs)→H' b=some (.tup xs)
 frzs:∀ b o u,H b=some (.frz o u)→H' b=some (.frz o u)
 tbls:∀ b q,H b=some (.tbl q)→H' b=some (.tbl q)
section
variable {fs fs' ex ex':List Addr} {H H1 H2:Hp} {h h1 h2 h':Heap} {a x e:Addr} {o:HO}
theorem Un.any (u:Un fs ex H H1 h h1) {b:Addr} {ob:Obj} (q:h.get? b=some ob) (n:H b=none) (hx:b∉ex):∃ sl,h1.get? b=some { ob with slots:=sl }:=by
 by_cases hb:b∈fs
 ·exact u.slot b ob q n hb hx
 ·exact ⟨ob.slots,u.keep b ob q n hb hx⟩
theorem Un.kept (k:∀ b u,h.get? b=some u→h'.get? b=some u):Un fs ex H H h h' :=
 ⟨fun b ob q _ _ _=>k b ob q,fun b ob q _ _ _=>⟨ob.slots,k b ob q⟩,fun _ _ _ n _=>n,fun b ob q _=>⟨ob,k b ob q⟩,fun _ _ q=>q,fun _ _ _ q=>q,fun _ _ q=>q⟩
theorem Un.refl:Un fs ex H H h h:=Un.kept fun _ _ q=>q
theorem Un.laid (k:∀ b u,h.get? b=some u→h'.get? b=some u) (hp:h.objs.size≤a) (hn:H a=none):Un fs ex H (upd H a o) h h' where
 keep:=fun b u q _ _ _=>k b u q
 slot:=fun b u q _ _ _=>⟨u.slots,k b u q⟩
 free:=fun b u q n _=>by rw [Qab (Nat.ne_of_lt (Nat.lt_of_lt_of_le (Heap.lt_size q) hp))];exact n
 there:=fun b u q _=>⟨u,k b u q⟩
 tups:=fun b xs q=>by rw [Qab (Qcq q hn)];exact q
 frzs:=fun b u xs q=>by rw [Qab (Qcq q hn)];exact q
 tbls:=fun b ps q=>by rw [Qab (Qcq q hn)];exact q
theorem Un.write (mu:Mut (H x)) (he:e=x∨H e=some (.own x)) (k:∀ b u,b≠e→h.get? b=some u→h'.get? b=some u) (heo:∃ u,h'.get? e=some u):Un fs ex H (upd H x o) h h':=by
 have hx:∀ b,H b=none→b≠x:=fun b n z=>by subst z;rw [n] at mu;exact mu
 have hb:∀ b,H b=none→b≠e:=fun b n z=>by
  subst z
  rcases he with r | r
  ·exact hx b n r
  ·rw [n] at r;cases r
 have hm:∀ b u,H b=some u→¬ Mut (some u)→b≠x:=fun b u q nm z=>by subst z;rw [q] at mu;exact nm mu
 refine ⟨fun b u q n _ _=>k b u (hb b n) q,fun b u q n _ _=>⟨u.slots,k b u (hb b n) q⟩,fun b u q n _=>by rw [Qab (hx b n)];exact n,fun b u q _=>?_,
  fun b xs q=>by rw [Qab (hm b _ q fun z=>z)];exact q,fun b u xs q=>by rw [Qab (hm b _ q fun z=>z)];exact q,fun b ps q=>by rw [Qab (hm b _ q fun z=>z)];exact q⟩
 by_cases hbe:b=e
 ·subst hbe;exact heo
 ·exact ⟨u,k b u hbe q⟩
end
noncomputable def trk (h:Heap) (H:Hp):List Addr:=(List.range h.objs.size).filter fun a=>(H a).isSome
noncomputable def Qp9 (h:Heap) (H:Hp):Heap:=PySem.W.hideAll h (trk h H)
theorem Qxk (h:Heap) (H:Hp):(Qp9 h H).objs.size=h.objs.size:=PySem.W.hideAll_size _ _
theorem Qy2 {h:Heap} {H:Hp} {b:Addr} {o:Obj} (e:h.get? b=some o) (n:H b=none):(Qp9 h H).get? b=some o :=
 PySem.W.hideAll_get _ e fun hm=>by
  have q:(H b).isSome=true:=(mem_filter.mp hm).2
  rw [n] at q;simp at q
theorem Q2z {h:Heap} {H:Hp} {b:Addr} {o:Obj} (e:(Qp9 h H).get? b=some o):h.get? b=some o∧H b=none:=by
 have e':h.get? b=some o:=PySem.W.of_hideAll (trk h H) e
 refine ⟨e',?_⟩
 cases q:H b with
 | none=>rfl
 | some x =>
  have hm:b∈trk h H:=mem_filter.mpr ⟨mem_range.mpr (Heap.lt_size e'),by simp [q]⟩
  have z:(Qp9 h H).get? b=none:=PySem.W.hideAll_none (trk h H) hm
  rw [z] at e;cases e
noncomputable def Q20 (g h:Heap) (L:Addr):List (Addr×Obj):=(List.range h.objs.size).filterMap fun a=>if a=L∨(g.get? a).isSome=true then none else (h.get? a).map fun o=>(a,o)
noncomputable def rest (g h:Heap) (L d:Addr):List (Addr×Obj):=(Q20 g h L).filter fun p=>decide (p.1≠d)
structure Mod (K:PySem.W.Frag) (mg:Str→Option Value) (base:Heap):Prop where
 kin:K.In base
 glob:base.Ns mainGlobals mg
 blt:∃ mb,base.Ns builtinsNs mb∧∀ x:Str,x ≠ "__name__" → mb x=bootBuiltins x
 nolimit:base.NoLimit
 bm:∃ bm ob,mg "__builtins__" = some (.ref bm)∧bm≠builtinsNs∧base.get? bm=some ob∧ob.cls=.type "module" ∧ ob.dict=some builtinsNs∧ob.data=.plain
noncomputable def Qy3 (K:PySem.W.Frag) (a:Addr) (q:Str):Prop:=∃ b t,K.getLast?=some (b,{ cls:=.none,data:=.fields #[.ref a,.str q t] })
noncomputable def Qy4 (K:PySem.W.Frag) (H:Hp):Prop:=∀ a q,Qy3 K a q→H a=some (.tbl q)
structure Cx where
 prog:Program
 w:World
 K:PySem.W.Frag
 mg:Str→Option Value
 base:Heap
 A:Around
 N:List Str
 s₀:Shared
 H₀:Hp
 env:Env
 outer:List Env
 stack:List Env
 ex:List Addr
 fn:Str→Bool
 calm:Bool
 pn:List (Addr×Obj)
 xe:Value→Shared→Prop
noncomputable def frs (l:List Env):List Addr:=l.filterMap (·.frame)
noncomputable abbrev Cx.fs (X:Cx):List Addr:=frs X.outer
noncomputable def Vis (sc:Scope) (x:Str):Prop:=sc.names.lookup x=some .local∨sc.names.lookup x=some .cell∨sc.names.lookup x=some .free
noncomputable def Loc (sc:Scope) (x:Str):Prop:=sc.names.lookup x=some .local∨sc.names.lookup x=some .cell
noncomputable def Look (env:Env) (h:Heap) (m:Str→Option Value) (x:Str) (u:Value):Prop :=
 (env.kindOf x=some .local∧m x=some u)∨((env.kindOf x=some .cell∨env.kindOf x=some .free)∧∃ c,env.cells.lookup x=some c∧h.IsCell c (some u))
structure Cx.Ok (X:Cx):Prop where
 mod:Mod X.K X.mg X.base
 kind:X.env.scope.kind=.function
 glob:X.env.globals=mainGlobals
 blt:X.env.builtins=builtinsNs
 above:X.s₀.heap.objs.size≤X.env.locals
 inj:∀ x y c,X.env.cells.lookup x=some c→X.env.cells.lookup y=some c→x=y
 has:∀ x,(X.env.kindOf x=some .cell∨X.env.kindOf x=some .free)→∃ c,X.env.cells.lookup x=some c
 cab:∀ x c,X.fn x=true→X.env.cells.lookup x=some c→X.s₀.heap.objs.size≤c
 hd:X.calm=true→X.A.handled=none
 frames:X.A.frames=some X.stack
 stk:X.stack=X.outer∨(X.stack=X.env::X.outer∧X.env.frame=some X.env.locals)
 exf:∀ b∈X.ex,b≠X.env.locals∧∀ x c,X.env.cells.lookup x=some c→c≠b
 bs:∀ b o,X.base.get? b=some o→X.s₀.heap.get? b=some o∧X.H₀ b=none
 bsz:X.base.objs.size≤X.s₀.heap.objs.size
 noex:∀ b o,X.base.get? b=some o→b∉X.ex
 exfs:∀ b∈X.ex,b∉X.fs
 funs:X.s₀.heap.FunFrames X.base X.outer
 frf:(∀ b∈X.fs,X.H₀ b=none)∧Qy4 X.K X.H₀
structure Inv (X:Cx) (pins:List (Addr×Obj)) (σ:List (Option V)) (H:Hp) (s:Shared):Prop where
 ok:X.Ok
 os:s.os=X.s₀.os
 bare:AllBare s.gens
 base:Un X.fs X.ex X.H₀ H X.s₀.heap s.heap
 loc:∃ m,s.heap.Ns X.env.locals m∧∀ (i:Nat) (x:Str) (v:V),X.N[i]?=some x→σ[i]?=some (some v)→Vis X.env.scope x→∃ u,RelV v u∧Look X.env s.heap m x u
 cell:∀ x c,X.env.cells.lookup x=some c→∃ v,s.heap.IsCell c v
 free:H X.env.locals=none
 freeC:∀ x c,X.env.cells.lookup x=some c→H c=none∨(X.fn x=false∧∃ o u,H c=some (.frz o u))
 pin:∀ p∈X.pn++pins,s.heap.get? p.1=some p.2∧H p.1=none∧p.1≠X.env.locals∧p.1∉X.fs∧∀ v,p.2.data≠.cell v
 hok:HOk X.prog X.w H s.heap
 len:σ.length=X.N.length
section
variable {X:Cx} {pins:List (Addr×Obj)} {σ:List (Option V)} {H H':Hp} {s:Shared} {h':Heap}
theorem Cx.Ok.nofr (ok:X.Ok) {b:Addr} {o:Obj} (e:X.base.get? b=some o):b∉X.fs:=fun hb=>by
 have:=(ok.funs.mem hb).1
 rw [e] at this;cases this
theorem Inv.bs (I:Inv X pins σ H s):∀ b o,X.base.get? b=some o→s.heap.get? b=some o∧H b=none:=fun b o e =>
 ⟨I.base.keep b o (I.ok.bs b o e).1 (I.ok.bs b o e).2 (I.ok.nofr e) (I.ok.noex b o e),I.base.free b o (I.ok.bs b o e).1 (I.ok.bs b o e).2 (I.ok.noex b o e)⟩
theorem Inv.bk (I:Inv X pins σ H s):∀ b o,X.base.get? b=some o→s.heap.get? b=some o:=fun b o e=>(I.bs b o e).1
theorem Inv.mod (I:Inv X pins σ H s):Mod X.K X.mg X.base:=I.ok.mod
theorem Inv.kIn (I:Inv X pins σ H s):X.K.In s.heap:=I.ok.mod.kin.keeps I.bk
theorem Inv.lt (I:Inv X pins σ H s):X.env.locals<s.heap.objs.size:=let ⟨_,hn,_⟩:=I.loc;hn.lt
theorem Inv.sz (I:Inv X pins σ H s):X.s₀.heap.objs.size≤s.heap.objs.size:=Nat.le_trans I.ok.above (Nat.le_of_lt I.lt)
theorem Inv.nofs (I:Inv X pins σ H s) {a:Addr} (h:s.heap.objs.size≤a):a∉X.fs:=fun hb=>by
 obtain ⟨_,o,ho,_⟩:=I.ok.funs.mem hb
 exact absurd (Nat.lt_of_lt_of_le (Heap.lt_size ho) (Nat.le_trans I.sz h)) (Nat.lt_irrefl _)
theorem Inv.cne (I:Inv X pins σ H s):∀ x c,X.env.cells.lookup x=some c→c≠X.env.locals:=fun x c e z=>by
 obtain ⟨v,o,ho,hd⟩:=I.cell x c e
 obtain ⟨m,⟨o',es,ep,ho',hd',_⟩,_⟩:=I.loc
 rw [z,ho'] at ho;cases ho;rw [hd'] at hd;cases hd
theorem Inv.funs (I:Inv X pins σ H s):s.heap.FunFrames X.base X.outer:=by
 have all:∀ (l:List Env),(∀ b∈frs l,b∈X.fs)→X.s₀.heap.FunFrames X.base l→s.heap.FunFrames X.base l:=by
  intro l
  induction l with
  | nil=>intro _ _;trivial
  | cons env r ih =>
   intro hs hl
   obtain ⟨hk,⟨L,o,hf,hn,ho,hd⟩,hr⟩:=hl
   have hL:L∈X.fs:=hs L (by unfold frs;rw [List.filterMap_cons,hf];exact mem_cons_self)
   obtain ⟨sl,e⟩:=I.base.slot L o ho (I.ok.frf.1 L hL) hL fun z=>I.ok.exfs L z hL
   exact ⟨hk,⟨L,_,hf,hn,e,hd⟩,ih (fun b hb=>hs b (by unfold frs;rw [List.filterMap_cons,hf];exact mem_cons_of_mem _ hb)) hr⟩
 exact all X.outer (fun _ hb=>hb) I.ok.funs
theorem Inv.stack (I:Inv X pins σ H s):s.heap.FunFrames X.base X.stack:=by
 rcases I.ok.stk with e | ⟨e,hf⟩
 ·rw [e];exact I.funs
 ·rw [e]
  obtain ⟨m,hn,_⟩:=I.loc
  refine .cons (by rw [I.ok.kind];decide) hf hn ?_ I.funs
  exact Heap.get?_none_of_le (Nat.le_trans I.ok.bsz I.ok.above)
theorem Inv.stkSub (I:Inv X pins σ H s):∀ b∈frs X.stack,b∈X.env.locals::X.fs:=fun b hb=>by
 rcases I.ok.stk with e | ⟨e,hf⟩
 ·rw [e] at hb;exact mem_cons_of_mem _ hb
 ·rw [e] at hb
  unfold frs at hb
  rw [List.filterMap_cons,hf] at hb
  exact hb
theorem Inv.stkFree (I:Inv X pins σ H s):∀ b∈frs X.stack,H b=none:=fun b hb=>by
 rcases mem_cons.mp (I.stkSub b hb) with e | hb
 ·rw [e];exact I.free
 ·obtain ⟨_,o,ho,_⟩:=I.ok.funs.mem hb
  exact I.base.free b o ho (I.ok.frf.1 b hb) fun z=>I.ok.exfs b z hb
theorem Inv.tab (I:Inv X pins σ H s):Qy4 X.K H:=fun a q h=>I.base.tbls a q (I.ok.frf.2 a q h)
theorem Inv.step {g':Array GenState} {t':Nat} {d':Drawn} {ch:List Addr} (I:Inv X pins σ H s)
  (hch:∀ b∈ch,(b∈X.ex∨X.s₀.heap.objs.size≤b)∧b≠X.env.locals∧(∀ x c,X.env.cells.lookup x=some c→c≠b)∧∀ p∈X.pn++pins,p.1≠b)
  (keep:∀ b o,b≠X.env.locals→b∉X.fs→b∉ch→s.heap.get? b=some o→H b=none→h'.get? b=some o)
  (slot:∀ b o,b≠X.env.locals→b∈X.fs→b∉ch→s.heap.get? b=some o→H b=none→∃ sl,h'.get? b=some { o with slots:=sl }) (free:∀ b o,b∉ch→s.heap.get? b=some o→H b=none→H' b=none)
  (there:∀ b o,b∉ch→s.heap.get? b=some o→∃ o',h'.get? b=some o')
  (tups:∀ b xs,H b=some (.tup xs)→H' b=some (.tup xs)) (frzs:∀ b o u,H b=some (.frz o u)→H' b=some (.frz o u)) (tbls:∀ b q,H b=some (.tbl q)→H' b=some (.tbl q))
  (ns:∀ m,s.heap.Ns X.env.locals m→h'.Ns X.env.locals m) (hok:HOk X.prog X.w H' h') (hg:AllBare g') :
  Inv X pins σ H' { s with heap:=h',gens:=g',drawn:=d',toks:=t' }:=by
 have neL:∀ b o,X.s₀.heap.get? b=some o→b≠X.env.locals:=fun b o e=>Nat.ne_of_lt (Nat.lt_of_lt_of_le (Heap.lt_size e) I.ok.above)
 have neC:∀ b o,X.s₀.heap.get? b=some o→b∉X.ex→b∉ch:=fun b o e hx hb=>by
  rcases (hch b hb).1 with z | z
  ·exact hx z
  ·exact absurd (Nat.lt_of_lt_of_le (Heap.lt_size e) z) (Nat.lt_irrefl _)
 have cellK:∀ x c,X.env.cells.lookup x=some c→∀ v,s.heap.IsCell c v→h'.IsCell c v:=fun x c e v zz1=>by
  obtain ⟨o,ho,hd⟩:=zz1
  have nch:c∉ch:=fun z=>(hch c z).2.2.1 x c e rfl
  rcases I.freeC x c e with fc | ⟨_,of,u,fc⟩
  ·by_cases hc:c∈X.fs
   ·obtain ⟨sl,q⟩:=slot c o (I.cne x c e) hc nch ho fc
    exact ⟨_,q,hd⟩
   ·exact ⟨o,keep c o (I.cne x c e) hc nch ho fc,hd⟩
  ·have e1:=(I.hok c _ fc).1
   rw [ho] at e1
   cases e1
   exact ⟨_,(hok c _ (frzs c _ _ fc)).1,hd⟩
 refine ⟨I.ok,I.os,hg,⟨fun b o e n hb hx=>?_,fun b o e n hb hx=>?_,fun b o e n hx=>?_,fun b o e hx=>?_,fun b xs e=>tups b xs (I.base.tups b xs e),fun b o xs e=>frzs b o xs (I.base.frzs b o xs e),fun b ps e=>?_⟩,?_,fun x c e=>?_,?_,fun x c e=>?_,fun p hp=>?_,hok,I.len⟩
 ·exact keep b o (neL b o e) hb (neC b o e hx) (I.base.keep b o e n hb hx) (I.base.free b o e n hx)
 ·obtain ⟨sl,e1⟩:=I.base.slot b o e n hb hx
  obtain ⟨sl',e2⟩:=slot b _ (neL b o e) hb (neC b o e hx) e1 (I.base.free b o e n hx)
  exact ⟨sl',e2⟩
 ·obtain ⟨o',e1⟩:=I.base.there b o e hx
  exact free b o' (neC b o e hx) e1 (I.base.free b o e n hx)
 ·obtain ⟨o',e1⟩:=I.base.there b o e hx
  exact there b o' (neC b o e hx) e1
 ·exact tbls b ps (I.base.tbls b ps e)
 ·obtain ⟨m,hn,hl⟩:=I.loc
  refine ⟨m,ns m hn,fun i x v e1 e2 e3=>?_⟩
  obtain ⟨u,r,l⟩:=hl i x v e1 e2 e3
  refine ⟨u,r,?_⟩
  rcases l with l | ⟨k,c,e,z⟩
  ·exact .inl l
  ·exact .inr ⟨k,c,e,cellK x c e _ z⟩
 ·obtain ⟨v,z⟩:=I.cell x c e
  exact ⟨v,cellK x c e v z⟩
 ·obtain ⟨m,⟨o,_,_,ho,_⟩,_⟩:=I.loc
  exact free _ o (fun z=>(hch _ z).2.1 rfl) ho I.free
 ·obtain ⟨v,o,ho,hd⟩:=I.cell x c e
  rcases I.freeC x c e with fc | ⟨fn,of,u,fc⟩
  ·exact .inl (free c o (fun z=>(hch c z).2.2.1 x c e rfl) ho fc)
  ·exact .inr ⟨fn,of,u,frzs c _ _ fc⟩
 ·obtain ⟨e,n,ne,nf,d⟩:=I.pin p hp
  have nch:p.1∉ch:=fun z=>(hch p.1 z).2.2.2 p hp rfl
  exact ⟨keep p.1 p.2 ne nf nch e n,free p.1 p.2 nch e n,ne,nf,d⟩
theorem Inv.un {t':Nat} (I:Inv X pins σ H s) (u:Un X.fs [] H H' s.heap h') (hok:HOk X.prog X.w H' h'):Inv X pins σ H' { s with heap:=h',toks:=t' }:=by
 obtain ⟨m,⟨o,es,ep,ho,r⟩,_⟩:=id I.loc
 obtain ⟨sl,hL⟩:=u.any ho I.free (by simp)
 exact I.step (g':=s.gens) (d':=s.drawn) (ch:=[]) (fun _ z=>nomatch z) (fun b o _ hb _ e n=>u.keep b o e n hb (by simp)) (fun b o _ hb _ e n=>u.slot b o e n hb (by simp)) (fun b o _ e n=>u.free b o e n (by simp)) (fun b o _ e=>u.there b o e (by simp)) u.tups u.frzs u.tbls (fun m' hm=>by
  obtain ⟨o',es',ep',ho',r'⟩:=hm
  rw [ho] at ho';cases ho'
  exact ⟨_,es',ep',hL,r'⟩) hok I.bare
theorem Inv.call {g':Array GenState} {t':Nat} {d':Drawn} {ch:List Addr} (I:Inv X pins σ H s) (u:Un (frs X.stack) ch H H' s.heap h') (hok:HOk X.prog X.w H' h') (hg:AllBare g')
  (hch:∀ b∈ch,(b∈X.ex∨X.s₀.heap.objs.size≤b)∧b≠X.env.locals∧(∀ x c,X.env.cells.lookup x=some c→c≠b)∧∀ p∈X.pn++pins,p.1≠b) :
  Inv X pins σ H' { s with heap:=h',gens:=g',drawn:=d',toks:=t' }:=by
 obtain ⟨m,⟨o,es,ep,ho,r⟩,_⟩:=id I.loc
 obtain ⟨sl,hL⟩:=u.any ho I.free fun z=>(hch _ z).2.1 rfl
 exact I.step (ch:=ch) hch (fun b o hL hb hc e n=>u.keep b o e n (fun z=>(mem_cons.mp (I.stkSub b z)).elim hL hb) hc) (fun b o _ _ hc e n=>u.any e n hc) (fun b o hc e n=>u.free b o e n hc) (fun b o hc e=>u.there b o e hc) u.tups u.frzs u.tbls (fun m' hm=>by
  obtain ⟨o',es',ep',ho',r'⟩:=hm
  rw [ho] at ho';cases ho'
  exact ⟨_,es',ep',hL,r'⟩) hok hg
theorem Inv.turned {t':Nat} {it:Addr} (I:Inv X pins σ H s) (k:∀ b o,b≠it→s.heap.get? b=some o→h'.get? b=some o) (hn:H it=none) (hL:it≠X.env.locals)
  (h1:it∈X.ex∨X.s₀.heap.objs.size≤it) (h2:∀ x c,X.env.cells.lookup x=some c→c≠it) (h3:∀ p∈X.pn++pins,p.1≠it):Inv X pins σ H { s with heap:=h',toks:=t' }:=by
 have nit:∀ b u,H b=some u→b≠it:=fun b u e z=>by rw [z,hn] at e;cases e
 refine I.step (g':=s.gens) (d':=s.drawn) (ch:=[it]) (fun b hb=>?_) (fun b o _ _ hc e _=>k b o (fun z=>hc (by simp [z])) e) (fun b o _ _ hc e _=>⟨o.slots,k b o (fun z=>hc (by simp [z])) e⟩) (fun _ _ _ _ n=>n)
  (fun b o hc e=>⟨o,k b o (fun z=>hc (by simp [z])) e⟩) (fun _ _ e=>e) (fun _ _ _ e=>e) (fun _ _ e=>e) (fun m hm=>?_) (fun b u e=>?_) I.bare
 ·have e:b=it:=by simpa using hb
  subst e
  exact ⟨h1,hL,h2,h3⟩
 ·obtain ⟨o,es,ep,ho,r⟩:=hm
  exact ⟨o,es,ep,k _ o (Ne.symm hL) ho,r⟩
 ·refine (I.hok b u e).stay (fun c v hc q=>k c v ?_ q) (fun _ q=>q) fun _ _ q=>q
  rcases hc with z | z
  ·rw [z];exact nit b u e
  ·exact nit c _ z
theorem Inv.tok (I:Inv X pins σ H s) (t:Nat):Inv X pins σ H { s with toks:=t }:=I.un (h':=s.heap) (t':=t) Un.refl I.hok
theorem Inv.kept {t':Nat} (I:Inv X pins σ H s) (k:∀ b u,s.heap.get? b=some u→h'.get? b=some u):Inv X pins σ H { s with heap:=h',toks:=t' }:=I.un (Un.kept k) (I.hok.kept k)
theorem Inv.laid {a:Addr} {o:HO} {t':Nat} (I:Inv X pins σ H s) (k:∀ b u,s.heap.get? b=some u→h'.get? b=some u) (hp:s.heap.objs.size≤a) (new:ObjOk X.prog X.w (upd H a o) h' a o) :
  Inv X pins σ (upd H a o) { s with heap:=h',toks:=t' }:=I.un (Un.laid k hp (I.hok.fresh hp)) (I.hok.laid k hp new)
theorem Inv.write {x e:Addr} {o:HO} {t':Nat} (I:Inv X pins σ H s) (mu:Mut (H x)) (he:e=x∨H e=some (.own x)) (k:∀ b u,b≠e→s.heap.get? b=some u→h'.get? b=some u) (heo:∃ u,h'.get? e=some u)
  (new:ObjOk X.prog X.w (upd H x o) h' x o):Inv X pins σ (upd H x o) { s with heap:=h',toks:=t' }:=I.un (Un.write mu he k heo) (I.hok.write mu he k heo new)
theorem Inv.pins_of {pins':List (Addr×Obj)} (I:Inv X pins σ H s) (h:∀ p∈pins',s.heap.get? p.1=some p.2∧H p.1=none∧p.1≠X.env.locals∧p.1∉X.fs∧∀ v,p.2.data≠.cell v):Inv X pins' σ H s :=
 ⟨I.ok,I.os,I.bare,I.base,I.loc,I.cell,I.free,I.freeC,fun p hp=>(mem_append.mp hp).elim (fun z=>I.pin p (mem_append_left _ z)) (h p),I.hok,I.len⟩
theorem Qrt {N:List Str} (hN:N.Nodup) {i j:Nat} {x:Str} (a:N[i]?=some x) (b:N[j]?=some x):i=j:=by
 obtain ⟨h1,e1⟩:=List.getElem?_eq_some_iff.mp a
 obtain ⟨h2,e2⟩:=List.getElem?_eq_some_iff.mp b
 exact (List.getElem_inj hN).mp (e1.trans e2.symm)
theorem Qxl {M:Model} {A:Around} {E:Value→Shared→Prop} {i:Nat} {x:Str} {v:V} {u:Value} {Q:Unit→Shared→Prop} (I:Inv X pins σ H s) (hN:X.N.Nodup) (hi:X.N[i]?=some x) (hx:Loc X.env.scope x) (r:RelV v u)
  (h:∀ s',Inv X pins (σ.set i (some v)) H s'→(∃ a,Heap.SameBut a s.heap s'.heap∧(a=X.env.locals∨X.env.cells.lookup x=some a))→Q () s') (hf:X.fn x=true∨X.env.scope.names.lookup x=some .local:=by first | exact .inl rfl | exact .inr rfl | assumption):wpAny M A (storeName X.env x u) Q E s:=by
 obtain ⟨m,hn,hl⟩:=id I.loc
 have hcls:(X.env.scope.kind==.class||(X.env.scope.kind==.module&&X.env.locals != X.env.globals))=false:=by rw [I.ok.kind];rfl
 have hiσ:i<σ.length:=by rw [I.len];exact (List.getElem?_eq_some_iff.mp hi).1
 have cne:=I.cne
 have tracked:∀ {a:Addr} {h':Heap},(∃ o,s.heap.get? a=some o∧H a=none)→Heap.SameBut a s.heap h'→HOk X.prog X.w H h':=fun {a h'} ha hs b ob e=>by
  obtain ⟨_,_,hfree⟩:=ha
  refine (I.hok b ob e).stay (fun c w' hc q=>(hs.2 c ?_).trans q) (fun _ q=>q) fun _ _ q=>q
  rintro rfl
  rcases hc with rfl | hc
  ·rw [hfree] at e;cases e
  ·rw [hfree] at hc;cases hc
 rcases hx with hk | hk
 ·refine wpAny_storeName_local hk hn (fun h' hn' hs=>?_) hcls
  obtain ⟨oL,_,_,hoL,_⟩:=id hn
  refine h _ ⟨I.ok,I.os,I.bare,⟨fun b o e n hb hx=>?_,fun b o e n hb hx=>?_,I.base.free,fun b o e hx=>?_,I.base.tups,I.base.frzs,I.base.tbls⟩,⟨_,hn',fun j y v' e1 e2 e3=>?_⟩,fun y c e=>?_,I.free,I.freeC,fun p hp=>?_,tracked ⟨oL,hoL,I.free⟩ hs,by simpa using I.len⟩ ⟨_,hs,.inl rfl⟩
  ·exact (hs.2 b (Nat.ne_of_lt (Nat.lt_of_lt_of_le (Heap.lt_size e) I.ok.above))).trans (I.base.keep b o e n hb hx)
  ·obtain ⟨sl,e1⟩:=I.base.slot b o e n hb hx
   exact ⟨sl,(hs.2 b (Nat.ne_of_lt (Nat.lt_of_lt_of_le (Heap.lt_size e) I.ok.above))).trans e1⟩
  ·obtain ⟨o',e1⟩:=I.base.there b o e hx
   exact ⟨o',(hs.2 b (Nat.ne_of_lt (Nat.lt_of_lt_of_le (Heap.lt_size e) I.ok.above))).trans e1⟩
  ·by_cases hj:j=i
   ·subst hj
    rw [hi] at e1;cases e1
    rw [List.getElem?_set_self hiσ] at e2
    cases e2
    exact ⟨u,r,.inl ⟨hk,by simp⟩⟩
   ·rw [List.getElem?_set_ne (Ne.symm hj)] at e2
    obtain ⟨u',r',q⟩:=hl j y v' e1 e2 e3
    refine ⟨u',r',?_⟩
    rcases q with ⟨k,e⟩ | ⟨k,c,e,z⟩
    ·refine .inl ⟨k,?_⟩
     have:y≠x:=fun e=>hj (Qrt hN e1 (e ▸ hi))
     simp [this,e]
    ·exact .inr ⟨k,c,e,z.sameBut hs (cne y c e)⟩
  ·obtain ⟨w',z⟩:=I.cell y c e
   exact ⟨w',z.sameBut hs (cne y c e)⟩
  ·obtain ⟨e,n,ne,nf,d⟩:=I.pin p hp
   exact ⟨(hs.2 p.1 ne).trans e,n,ne,nf,d⟩
 ·have hfn:X.fn x=true:=by
   rcases hf with z | z
   ·exact z
   ·rw [z] at hk;cases hk
  obtain ⟨c,hc⟩:=I.ok.has x (.inl hk)
  obtain ⟨w',z⟩:=I.cell x c hc
  refine wpAny_storeName_cell I.ok.kind hk hc z (fun h' hc' hs=>?_)
  obtain ⟨oc,hoc,hocd⟩:=id z
  refine h { s with heap:=h' } ⟨I.ok,I.os,I.bare,⟨fun b o e n hb hx=>?_,fun b o e n hb hx=>?_,I.base.free,fun b o e hx=>?_,I.base.tups,I.base.frzs,I.base.tbls⟩,⟨m,hn.sameBut hs (Ne.symm (cne x c hc)),fun j y v' e1 e2 e3=>?_⟩,fun y c' e=>?_,I.free,I.freeC,fun p hp=>?_,tracked ⟨oc,hoc,(I.freeC x c hc).resolve_right fun z=>by rw [hfn] at z;cases z.1⟩ hs,by simpa using I.len⟩ ⟨c,hs,.inr hc⟩
  ·exact (hs.2 b (Nat.ne_of_lt (Nat.lt_of_lt_of_le (Heap.lt_size e) (I.ok.cab x c hfn hc)))).trans (I.base.keep b o e n hb hx)
  ·obtain ⟨sl,e1⟩:=I.base.slot b o e n hb hx
   exact ⟨sl,(hs.2 b (Nat.ne_of_lt (Nat.lt_of_lt_of_le (Heap.lt_size e) (I.ok.cab x c hfn hc)))).trans e1⟩
  ·obtain ⟨o',e1⟩:=I.base.there b o e hx
   exact ⟨o',(hs.2 b (Nat.ne_of_lt (Nat.lt_of_lt_of_le (Heap.lt_size e) (I.ok.cab x c hfn hc)))).trans e1⟩
  ·by_cases hj:j=i
   ·subst hj
    rw [hi] at e1;cases e1
    rw [List.getElem?_set_self hiσ] at e2
    cases e2
    exact ⟨u,r,.inr ⟨.inl hk,c,hc,hc'⟩⟩
   ·rw [List.getElem?_set_ne (Ne.symm hj)] at e2
    obtain ⟨u',r',q⟩:=hl j y v' e1 e2 e3
    refine ⟨u',r',?_⟩
    rcases q with q | ⟨k,c',e,z'⟩
    ·exact .inl q
    ·refine .inr ⟨k,c',e,z'.sameBut hs ?_⟩
     rintro rfl
     exact hj (Qrt hN e1 (I.ok.inj _ _ _ e hc ▸ hi))
  ·by_cases hcc:c'=c
   ·subst hcc;exact ⟨_,hc'⟩
   ·obtain ⟨w2,z2⟩:=I.cell y c' e
    exact ⟨w2,z2.sameBut hs hcc⟩
  ·obtain ⟨e,n,ne,nf,d⟩:=I.pin p hp
   refine ⟨(hs.2 p.1 ?_).trans e,n,ne,nf,d⟩
   intro q
   rw [q,hoc] at e
   have q':oc=p.2:=Option.some.inj e
   exact d w' (by rw [←q'];exact hocd)
theorem Qru {M:Model} {A:Around} {E:Value→Shared→Prop} {i:Nat} {x:Str} {v:V} {u:Value} {Q:Unit→Shared→Prop} (I:Inv X pins σ H s) (hN:X.N.Nodup) (hi:X.N[i]?=some x) (hx:Loc X.env.scope x) (r:RelV v u)
  (h:∀ s',Inv X pins (σ.set i (some v)) H s'→Q () s') (hf:X.fn x=true∨X.env.scope.names.lookup x=some .local:=by first | exact .inl rfl | exact .inr rfl | assumption):wpAny M A (storeName X.env x u) Q E s :=
 Qxl I hN hi hx r (fun s' I' _=>h s' I') hf
theorem Inv.call' {s':Shared} {ch:List Addr} (I:Inv X pins σ H s) (ho:s'.os=s.os) (u:Un (frs X.stack) ch H H' s.heap s'.heap) (hok:HOk X.prog X.w H' s'.heap) (hg:AllBare s'.gens)
  (hch:∀ b∈ch,(b∈X.ex∨X.s₀.heap.objs.size≤b)∧b≠X.env.locals∧(∀ x c,X.env.cells.lookup x=some c→c≠b)∧∀ p∈X.pn++pins,p.1≠b):Inv X pins σ H' s':=by
 obtain ⟨h',g',d',t',o'⟩:=s'
 have e:o'=s.os:=ho
 subst e
 exact I.call (g':=g') (t':=t') (d':=d') u hok hg hch
end
noncomputable abbrev XK:=Value→Option Addr→Hp→Prop
noncomputable abbrev St:=List (Option V)
noncomputable abbrev VK:=V→Hp→Prop
noncomputable abbrev TE:=St→Hp→VK→Prop
noncomputable abbrev TT:=St→Hp→(Bool→Hp→Prop)→Prop
noncomputable abbrev TA:=St→Hp→(List V→Hp→Prop)→Prop
structure Ends where
 nx:St→Hp→Prop
 rt:VK
 bk:St→Hp→Prop:=fun _ _=>False
 ct:St→Hp→Prop:=fun _ _=>False
noncomputable abbrev TS:=Ends→St→Hp→Prop
noncomputable def EP (X:Cx) (pins:List (Addr×Obj)) (σ:St) (Q:VK) (u:Value) (s':Shared):Prop:=∃ v H',Inv X pins σ H' s'∧RelV v u∧Q v H'
noncomputable def TP (X:Cx) (pins:List (Addr×Obj)) (σ:St) (Q:Bool→Hp→Prop) (b:Bool) (s':Shared):Prop:=∃ H',Inv X pins σ H' s'∧Q b H'
noncomputable def AP (X:Cx) (pins:List (Addr×Obj)) (σ:St) (Q:List V→Hp→Prop) (us:List Value) (s':Shared):Prop:=∃ vs H',Inv X pins σ H' s'∧Vals vs us∧Q vs H'
noncomputable def SP (X:Cx) (pins:List (Addr×Obj)) (D:Ends) (f:Flow) (s':Shared):Prop :=
 match f with
 | .next=>∃ σ' H',Inv X pins σ' H' s'∧D.nx σ' H'
 | .brk=>∃ σ' H',Inv X pins σ' H' s'∧D.bk σ' H'
 | .cont=>∃ σ' H',Inv X pins σ' H' s'∧D.ct σ' H'
 | .ret u=>∃ v σ' H',Inv X pins σ' H' s'∧RelV v u∧D.rt v H'
noncomputable def PE (X:Cx) (e:Expr) (t:TE):Prop :=
 ∀ (pins:List (Addr×Obj)) (s:Shared) (σ:St) (H:Hp) (Q:VK),Inv X pins σ H s→t σ H Q→wpAny (model X.prog X.w) X.A (eval e X.env) (EP X pins σ Q) X.xe s
noncomputable def PT (X:Cx) (e:Expr) (t:TT):Prop :=
 ∀ (pins:List (Addr×Obj)) (s:Shared) (σ:St) (H:Hp) (Q:Bool→Hp→Prop),Inv X pins σ H s→t σ H Q→wpAny (model X.prog X.w) X.A (isTrue e X.env (eval e X.env)) (TP X pins σ Q) X.xe s
noncomputable def PW (X:Cx) (e:Expr) (t:TT):Prop :=
 ∀ (whole:Sem Value) (pins:List (Addr×Obj)) (s:Shared) (σ:St) (H:Hp) (Q:Bool→Hp→Prop),Inv X pins σ H s→t σ H Q→wpAny (model X.prog X.w) X.A (isTrue e X.env whole) (TP X pins σ Q) X.xe s
theorem PW.pt {X:Cx} {e:Expr} {t:TT} (h:PW X e t):PT X e t:=h _
noncomputable def PA (X:Cx) (es:List Expr) (t:TA):Prop :=
 ∀ (pos:Pos) (pins:List (Addr×Obj)) (s:Shared) (σ:St) (H:Hp) (Q:List V→Hp→Prop),Inv X pins σ H s→t σ H Q→wpAny (model X.prog X.w) X.A (spliced (backTo pos (starEach es X.env))) (AP X pins σ Q) X.xe s
noncomputable def PS (X:Cx) (st:Stmt) (t:TS):Prop :=
 ∀ (pins:List (Addr×Obj)) (s:Shared) (σ:St) (H:Hp) (D:Ends),Inv X pins σ H s→t D σ H→wpAny (model X.prog X.w) X.A (exec st X.env) (SP X pins D) X.xe s
noncomputable def PSs (X:Cx) (st:List Stmt) (t:TS):Prop :=
 ∀ (pins:List (Addr×Obj)) (s:Shared) (σ:St) (H:Hp) (D:Ends),Inv X pins σ H s→t D σ H→wpAny (model X.prog X.w) X.A (execs st X.env) (SP X pins D) X.xe s
theorem thn {α:Type} {t:Sem α} {Q Q':α→Shared→Prop} {M:Model} {A:Around} {E:Value→Shared→Prop} {s:Shared} (h:wpAny M A t Q E s) (hQ:∀ a s,Q a s→Q' a s):wpAny M A t Q' E s:=wpAny_mono h hQ fun _ _ x=>x
section
variable {X:Cx}
theorem bin {a b:Expr} {ta tb:TE} (ha:PE X a ta) (hb:PE X b tb) {pins:List (Addr×Obj)} {s:Shared} {σ:St} {H:Hp} {R:V→V→Hp→Prop} (I:Inv X pins σ H s) (h:ta σ H fun x H1=>tb σ H1 fun y H2=>R x y H2)
  {α:Type} {Q:α→Shared→Prop} {f:Value→Value→Sem α}
  (hf:∀ v u s2 x y H2,Inv X pins σ H2 s2→RelV x v→RelV y u→R x y H2→wpAny (model X.prog X.w) X.A (f v u) Q X.xe s2) :
  wpAny (model X.prog X.w) X.A (eval a X.env) (fun v s₁=>wpAny (model X.prog X.w) X.A (eval b X.env) (fun u s₂=>wpAny (model X.prog X.w) X.A (f v u) Q X.xe s₂) X.xe s₁) X.xe s:=by
 refine thn (ha pins s σ H _ I h) fun v s1 ⟨x,H1,I1,r1,q1⟩=>?_
 refine thn (hb pins s1 σ H1 _ I1 q1) fun u s2 ⟨y,H2,I2,r2,q2⟩=>?_
 exact hf v u s2 x y H2 I2 r1 r2 q2
noncomputable abbrev Qom (i:Nat):TE:=fun σ H Q=>∃ v,σ[i]?=some (some v)∧Q v H
noncomputable abbrev tC (v:V):TE:=fun _ H Q=>Q v H
theorem Q7x {i:Nat} {x:Str} {pos:Pos} (hN:X.N[i]?=some x) (hv:Vis X.env.scope x) (hd:(x==("__debug__" : Str))=false:=by decide) (hcd:(x==("__classdict__" : Str))=false:=by decide):PE X (.Name x pos) (Qom i):=by
 intro pins s σ H Q I h
 obtain ⟨v,e,h⟩:=h
 obtain ⟨m,hn,hl⟩:=I.loc
 obtain ⟨u,r,l⟩:=hl i x v hN e hv
 have fin:EP X pins σ Q u s:=⟨v,H,I,r,h⟩
 rcases l with ⟨hk,hm⟩ | ⟨hk,c,hc,hcell⟩
 ·exact wpAny_Name (wpAny_loadName_local I.ok.kind hk hn hm fin) hd
 ·rcases hk with hk | hk
  ·exact wpAny_Name (wpAny_loadName_cell I.ok.kind hk hc hcell fin) hd
  ·exact wpAny_Name (wpAny_loadName_free I.ok.kind hk hc hcell fin hcd) hd
theorem Q7y {i j pos}:PE X (.Constant (.int i) j pos) (tC (.int i)):=fun _ _ _ H _ I h=>wpAny_Constant_int ⟨.int i,H,I.tok _,⟨_,rfl⟩,h⟩
theorem Qabx {b j pos}:PE X (.Constant (.bool b) j pos) (tC (.bl b)):=fun _ _ _ H _ I h=>Constant_bool ⟨.bl b,H,I,rfl,h⟩
theorem Q7z {j pos}:PE X (.Constant .none j pos) (tC .non):=fun _ _ _ H _ I h=>Constant_none ⟨.non,H,I,rfl,h⟩
noncomputable def Gl (X:Cx) (x:Str):Prop:=X.env.kindOf x=some .globalImplicit
theorem Qqa {E:Value→Shared→Prop} {pins:List (Addr×Obj)} {s:Shared} {σ:St} {H:Hp} {x:Str} {u:Value} {pos:Pos} {Q:Value→Shared→Prop} (I:Inv X pins σ H s) (hg:Gl X x) (hm:X.mg x=some u) (h:Q u s)
  (hd:(x==("__debug__" : Str))=false:=by decide):wpAny (model X.prog X.w) X.A (eval (.Name x pos) X.env) Q E s :=
 Calls.Name_function_global I.ok.kind hg (Calls.loadGlobal_global (by rw [I.ok.glob];exact I.mod.glob.keeps I.bk) hm h) hd
theorem Qmk {E:Value→Shared→Prop} {pins:List (Addr×Obj)} {s:Shared} {σ:St} {H:Hp} {x:Str} {u:Value} {pos:Pos} {Q:Value→Shared→Prop} (I:Inv X pins σ H s) (hg:Gl X x) (hm:X.mg x=none) (hv:bootBuiltins x=some u) (h:Q u s)
  (hn:x ≠ "__name__" := by decide) (hd:(x==("__debug__" : Str))=false:=by decide):wpAny (model X.prog X.w) X.A (eval (.Name x pos) X.env) Q E s:=by
 obtain ⟨mb,h1,h2⟩:=I.mod.blt
 exact Calls.Name_function_global I.ok.kind hg (Calls.loadGlobal_builtin (by rw [I.ok.glob];exact I.mod.glob.keeps I.bk) hm (by rw [I.ok.blt];exact h1.keeps I.bk) ((h2 x hn).trans hv) h) hd
theorem Qvs {x:Str} {v:V} {u:Value} {pos:Pos} (hg:Gl X x) (hm:X.mg x=some u) (r:RelV v u) (hd:(x==("__debug__" : Str))=false:=by decide):PE X (.Name x pos) (tC v) :=
 fun _ _ _ H _ I h=>Qqa I hg hm ⟨v,H,I,r,h⟩ hd
theorem Q21 {x:Str} {v:V} {u:Value} {pos:Pos} (hg:Gl X x) (hm:X.mg x=none) (hv:bootBuiltins x=some u) (r:RelV v u) (hn:x ≠ "__name__" := by decide) (hd:(x==("__debug__" : Str))=false:=by decide):PE X (.Name x pos) (tC v) :=
 fun _ _ _ H _ I h=>Qmk I hg hm hv ⟨v,H,I,r,h⟩ hn hd
variable {a b:Expr} {ta tb:TE} {pos:Pos}
noncomputable abbrev tB (t:TE):TT:=fun σ H Q=>t σ H fun x H1=>∃ c,x=.bl c∧Q c H1
theorem Q70 {e:Expr} {t:TE} (h:PE X e t) (he:∀ whole,isTrue e X.env whole=(do let v ← whole;standAt e.pos;holding [v] (truthy v)):=by intro _;rfl):PT X e (tB t):=by
 intro pins s σ H Q I hw
 refine isTrue_plain (thn (h pins s σ H _ I hw) fun v s1 ⟨x,H1,I1,r1,q1⟩=>?_) (he _)
 obtain ⟨d,rfl,q⟩:=q1
 cases r1
 exact wpAny_truthy_bool ⟨H1,I1,q⟩
variable {tA tB':TT} {rest:List Expr}
noncomputable abbrev tAnd (t u:TT):TT:=fun σ H Q=>t σ H fun c H1=>if c=true then u σ H1 Q else Q false H1
noncomputable abbrev tOr (t u:TT):TT:=fun σ H Q=>t σ H fun c H1=>if c=true then Q true H1 else u σ H1 Q
noncomputable abbrev tNot (t:TT):TT:=fun σ H Q=>t σ H fun c H1=>Q (!c) H1
theorem Q22 (ha:PT X a tA):PW X (.BoolOp .And [a] pos) tA:=by
 intro wh pins s σ H Q I h
 refine isTrue_and (thn (ha pins s σ H Q I h) fun c s1 e=>?_)
 cases c with
 | true=>exact isTrue_and_nil e
 | false=>exact e
theorem Q71 (ha:PT X a tA):PW X (.BoolOp .Or [a] pos) tA:=by
 intro wh pins s σ H Q I h
 refine isTrue_or (thn (ha pins s σ H Q I h) fun c s1 e=>?_)
 cases c with
 | false=>exact isTrue_or_nil e
 | true=>exact e
theorem Q72 (ha:PT X a tA) (hb:PW X (.BoolOp .And (b::rest) pos) tB'):PW X (.BoolOp .And (a::b::rest) pos) (tAnd tA tB'):=by
 intro wh pins s σ H Q I h
 refine isTrue_and (thn (ha pins s σ H _ I h) fun c s1 ⟨H1,I1,q1⟩=>?_)
 cases c with
 | true=>exact hb wh pins s1 σ H1 Q I1 q1
 | false=>exact ⟨H1,I1,q1⟩
theorem Qab0 (ha:PT X a tA) (hb:PW X (.BoolOp .Or (b::rest) pos) tB'):PW X (.BoolOp .Or (a::b::rest) pos) (tOr tA tB'):=by
 intro wh pins s σ H Q I h
 refine isTrue_or (thn (ha pins s σ H _ I h) fun c s1 ⟨H1,I1,q1⟩=>?_)
 cases c with
 | true=>exact ⟨H1,I1,q1⟩
 | false=>exact hb wh pins s1 σ H1 Q I1 q1
theorem Q73 (ha:PT X a tA):PT X (.UnaryOp .Not a pos) (tNot tA):=by
 intro pins s σ H Q I h
 exact isTrue_not (ha pins s σ H (fun c H1=>Q (!c) H1) I h)
noncomputable abbrev Q6d (ta tb:TE):TE:=fun σ H Q=>ta σ H fun x H1=>∃ c,x=.bl c∧if c=true then tb σ H1 Q else Q (.bl false) H1
noncomputable abbrev Q6e (ta:TE):TE:=fun σ H Q=>ta σ H fun x H1=>∃ c,x=.bl c∧Q (.bl (!c)) H1
theorem Q74 {op} {t:TE} (h:PE X a t):PE X (.BoolOp op [a] pos) t:=fun pins s σ H Q I hw=>BoolOp_one (h pins s σ H Q I hw)
theorem Q75 (ha:PE X a ta) (hb:PE X (.BoolOp .And (b::rest) pos) tb):PE X (.BoolOp .And (a::b::rest) pos) (Q6d ta tb):=by
 intro pins s σ H Q I h
 refine BoolOp_and (thn (ha pins s σ H _ I h) fun v s1 ⟨x,H1,I1,r1,q1⟩=>?_)
 obtain ⟨c,rfl,q1⟩:=q1
 cases r1
 refine wpAny_truthy_bool ?_
 cases c with
 | true=>exact hb pins s1 σ H1 Q I1 q1
 | false=>exact ⟨.bl false,H1,I1,rfl,q1⟩
theorem Q76 (ha:PE X a ta):PE X (.UnaryOp .Not a pos) (Q6e ta):=by
 intro pins s σ H Q I h
 refine UnaryOp_ (thn (ha pins s σ H _ I h) fun v s1 ⟨x,H1,I1,r1,q1⟩=>?_)
 obtain ⟨c,rfl,q1⟩:=q1
 cases r1
 exact not_of (wpAny_truthy_bool ⟨.bl (!c),H1,I1,rfl,q1⟩)
end
noncomputable def SqL (K:PySem.W.Frag) (H:Hp) (a:Addr) (xs:List V):Prop :=
 Rd H a (.lst xs) ∨
  ∃ (o:Obj) (its:Array Value) (n:Nat),K.lookup a=some o∧o.cls=.type "list" ∧ o.dict=none∧o.data=.seq its n∧its.size≤sizeLine∧Vals xs its.toList
noncomputable def SqT (K:PySem.W.Frag) (H:Hp) (a:Addr) (xs:List V):Prop :=
 Rd H a (.tup xs) ∨
  ∃ (o:Obj) (its:Array Value) (n:Nat),K.lookup a=some o∧o.cls=.type "tuple" ∧ o.data=.seq its n∧its.size≤sizeLine∧Vals xs its.toList
noncomputable def absV:Value→Option V
 | .none=>some .non
 | .bool b=>some (.bl b)
 | .int i _=>some (.int i)
 | .str x _=>some (.str x)
 | .bytes b _=>some (.byt b)
 | .float b _=>some (.flt b)
 | .ref a=>some (.ref a)
 | .type n=>some (.ty n)
 | _=>none
theorem RelV.abs {x:V} {u:Value} (r:RelV x u):absV u=some x:=by
 cases x with
 | non=>cases r;rfl
 | bl _=>cases r;rfl
 | int _=>obtain ⟨t,rfl⟩:=r;rfl
 | str _=>obtain ⟨t,rfl⟩:=r;rfl
 | byt _=>obtain ⟨t,rfl⟩:=r;rfl
 | flt _=>obtain ⟨t,rfl⟩:=r;rfl
 | ref _=>cases r;rfl
 | ty _=>cases r;rfl
theorem RelV.inj {x y:V} {u:Value} (r:RelV x u) (q:RelV y u):x=y:=Option.some.inj (r.abs.symm.trans q.abs)
theorem Vals.inj:∀ {xs ys:List V} {us:List Value},Vals xs us→Vals ys us→xs=ys
 | _,_,_,.nil,.nil=>rfl
 | _,_,_,.cons r t,.cons r' t'=>by rw [r.inj r',Vals.inj t t']
section
variable {X:Cx} {pins:List (Addr×Obj)} {σ:St} {H:Hp} {s:Shared} {a:Addr} {xs ys:List V}
theorem SqL.of {K:PySem.W.Frag} (h:H a=some (.lst xs)):SqL K H a xs:=.inl (.inl h)
theorem SqT.of {K:PySem.W.Frag} (h:H a=some (.tup xs)):SqT K H a xs:=.inl (.inl h)
theorem Inv.list (I:Inv X pins σ H s) (h:SqL X.K H a xs):∃ its:List Value,Vals xs its∧PlainL s.heap a its.toArray∧xs.length≤sizeLine:=by
 rcases h with h | ⟨o,its,n,hk,hc,hd,hs,hz,r⟩
 ·obtain ⟨z,its,n,r,e⟩:=h.ok I.hok
  exact ⟨its,r,⟨_,n,e,rfl,rfl,rfl⟩,z⟩
 ·refine ⟨its.toList,r,⟨o,n,I.kIn a o hk,hc,hd,by simpa using hs⟩,?_⟩
  have e:=r.length
  simp only [Array.length_toList] at e
  omega
theorem Inv.tuple (I:Inv X pins σ H s) (h:SqT X.K H a xs):∃ its:List Value,Vals xs its∧IsTup s.heap a its.toArray∧xs.length≤sizeLine:=by
 rcases h with h | ⟨o,its,n,hk,hc,hs,hz,r⟩
 ·obtain ⟨z,its,r,p⟩:=h.ok I.hok
  exact ⟨its,r,p.tup,z⟩
 ·refine ⟨its.toList,r,⟨o,I.kIn a o hk,hc,n,by simpa using hs⟩,?_⟩
  have e:=r.length
  simp only [Array.length_toList] at e
  omega
theorem Inv.list_inj (I:Inv X pins σ H s) (h:SqL X.K H a xs) (h':SqL X.K H a ys):xs=ys:=by
 obtain ⟨its,r,⟨o,n,e,_,_,d⟩,_⟩:=I.list h
 obtain ⟨its',r',⟨o',n',e',_,_,d'⟩,_⟩:=I.list h'
 rw [e] at e';cases e'
 rw [d] at d'
 injection d' with d1 _
 have:its=its':=by simpa using congrArg Array.toList d1
 subst this
 exact r.inj r'
theorem Inv.tuple_inj (I:Inv X pins σ H s) (h:SqT X.K H a xs) (h':SqT X.K H a ys):xs=ys:=by
 obtain ⟨its,r,⟨o,e,_,n,d⟩,_⟩:=I.tuple h
 obtain ⟨its',r',⟨o',e',_,n',d'⟩,_⟩:=I.tuple h'
 rw [e] at e';cases e'
 rw [d] at d'
 injection d' with d1 _
 have:its=its':=by simpa using congrArg Array.toList d1
 subst this
 exact r.inj r'
end
noncomputable abbrev Cx.wish (X:Cx) (E:Value→Shared→Prop):Cx:={ X with xe:=E }
noncomputable abbrev Cx.nox (X:Cx):Cx:=X.wish fun _ _=>False
theorem Cx.Ok.wish {X:Cx} (ok:X.Ok) (E:Value→Shared→Prop):(X.wish E).Ok :=
 ⟨ok.mod,ok.kind,ok.glob,ok.blt,ok.above,ok.inj,ok.has,ok.cab,ok.hd,ok.frames,ok.stk,ok.exf,ok.bs,ok.bsz,ok.noex,ok.exfs,ok.funs,ok.frf⟩
theorem Cx.Ok.unwish {X:Cx} {E:Value→Shared→Prop} (ok:(X.wish E).Ok):X.Ok :=
 ⟨ok.mod,ok.kind,ok.glob,ok.blt,ok.above,ok.inj,ok.has,ok.cab,ok.hd,ok.frames,ok.stk,ok.exf,ok.bs,ok.bsz,ok.noex,ok.exfs,ok.funs,ok.frf⟩
section
variable {X:Cx} {pins:List (Addr×Obj)} {σ:St} {H:Hp} {s:Shared} {E:Value→Shared→Prop}
theorem Inv.wish (I:Inv X pins σ H s) (E:Value→Shared→Prop):Inv (X.wish E) pins σ H s:=⟨I.ok.wish E,I.os,I.bare,I.base,I.loc,I.cell,I.free,I.freeC,I.pin,I.hok,I.len⟩
theorem Inv.unwish (I:Inv (X.wish E) pins σ H s):Inv X pins σ H s:=⟨I.ok.unwish,I.os,I.bare,I.base,I.loc,I.cell,I.free,I.freeC,I.pin,I.hok,I.len⟩
theorem SP.unwish {D:Ends} {f:Flow} {s':Shared} (h:SP (X.wish E) pins D f s'):SP X pins D f s':=by
 cases f with
 | next=>obtain ⟨σ',H',I,q⟩:=h;exact ⟨σ',H',I.unwish,q⟩
 | brk=>obtain ⟨σ',H',I,q⟩:=h;exact ⟨σ',H',I.unwish,q⟩
 | cont=>obtain ⟨σ',H',I,q⟩:=h;exact ⟨σ',H',I.unwish,q⟩
 | ret u=>obtain ⟨v,σ',H',I,r,q⟩:=h;exact ⟨v,σ',H',I.unwish,r,q⟩
theorem PSs.nox {st:List Stmt} {t:TS} (h:PSs X.nox st t):PSs X st t:=fun pins s σ H D I hw =>
 wpAny_mono (h pins s σ H D (I.wish _) hw) (fun _ _ q=>q.unwish) fun _ _ z=>False.elim z
end
section
variable {X:Cx} {st:Stmt} {rest:List Stmt} {t u:TS} {e:Expr} {te:TE} {pos:Pos}
noncomputable abbrev Q6f:TS:=fun D σ H=>D.nx σ H
noncomputable abbrev Q23 (t u:TS):TS:=fun D σ H=>t { D with nx:=u D } σ H
theorem Q24:PSs X [] Q6f:=fun _ _ σ H _ I h=>wpAny_execs_nil ⟨σ,H,I,h⟩
theorem Qy5 (h1:PS X st t) (h2:PSs X rest u):PSs X (st::rest) (Q23 t u):=by
 intro pins s σ H D I h
 refine wpAny_execs_cons (thn (h1 pins s σ H { D with nx:=u D } I h) fun f s1 q=>?_)
 cases f with
 | next =>
  obtain ⟨σ',H',I',q⟩:=q
  exact h2 pins s1 σ' H' D I' q
 | ret v=>exact q
 | brk=>exact q
 | cont=>exact q
theorem Q25 (h1:PS X st t):PSs X [st] t:=by
 intro pins s σ H D I h
 refine wpAny_execs_cons (thn (h1 pins s σ H D I h) fun f s1 q=>?_)
 cases f with
 | next=>exact wpAny_execs_nil q
 | ret v=>exact q
 | brk=>exact q
 | cont=>exact q
theorem Inv.quiet {pins:List (Addr×Obj)} {σ:St} {H:Hp} {s:Shared} (I:Inv X pins σ H s):interactive X.env=false:=by simp [interactive,I.ok.kind]
noncomputable abbrev Qvt (te:TE):TS:=fun D σ H=>te σ H fun _ H1=>D.nx σ H1
theorem Q26 (he:PE X e te) (hs:swapsWith e none pos.line X.env=pure false:=by rfl):PS X (.Expr e pos) (Qvt te):=by
 intro pins s σ H D I h
 exact wpAny_Expr_any (thn (he pins s σ H _ I h) fun v s1 ⟨x,H1,I1,r1,q1⟩=>⟨σ,H1,I1,q1⟩) I.quiet hs
noncomputable abbrev Q77 (te:TE):TS:=fun D σ H=>te σ H D.rt
theorem Q78 (he:PE X e te):PS X (.Return (some e) pos) (Q77 te):=by
 intro pins s σ H D I h
 exact wpAny_Return_some (thn (he pins s σ H _ I h) fun v s1 ⟨x,H1,I1,r1,q1⟩=>⟨x,σ,H1,I1,r1,q1⟩)
noncomputable abbrev tIfS (c:TT) (t u:TS):TS:=fun D σ H=>c σ H fun b H1=>if b=true then t D σ H1 else u D σ H1
theorem Qab2 {c:Expr} {a b:List Stmt} {tc:TT} (hc:PT X c tc) (ha:PSs X a t) (hb:PSs X b u):PS X (.If c a b pos) (tIfS tc t u):=by
 intro pins s σ H D I h
 refine wpAny_If (thn (hc pins s σ H _ I h) fun d s1 ⟨H1,I1,q1⟩=>?_)
 cases d with
 | true=>exact ha pins s1 σ H1 D I1 q1
 | false=>exact hb pins s1 σ H1 D I1 q1
end
noncomputable abbrev TG:=V→St→Hp→(St→Hp→Prop)→Prop
noncomputable abbrev TGs:=List V→St→Hp→(St→Hp→Prop)→Prop
noncomputable def PG (X:Cx) (target:Expr) (t:TG):Prop :=
 ∀ (pins:List (Addr×Obj)) (s:Shared) (σ:St) (H:Hp) (v:V) (u:Value) (Q:St→Hp→Prop),Inv X pins σ H s→RelV v u→t v σ H Q →
  wpAny (model X.prog X.w) X.A (assign target X.env u) (fun _ s'=>∃ σ' H',Inv X pins σ' H' s'∧Q σ' H') X.xe s
noncomputable def PGs (X:Cx) (ts:List Expr) (t:TGs):Prop :=
 ∀ (pins:List (Addr×Obj)) (s:Shared) (σ:St) (H:Hp) (vs:List V) (us:List Value) (Q:St→Hp→Prop),Inv X pins σ H s→Vals vs us→t vs σ H Q →
  wpAny (model X.prog X.w) X.A (assignInOrder ((assignEach ts X.env).map (·.2)) us) (fun _ s'=>∃ σ' H',Inv X pins σ' H' s'∧Q σ' H') X.xe s
noncomputable abbrev Q79:=V→V→V→Hp→(Hp→Prop)→Prop
noncomputable def PSet (X:Cx) (t:Q79):Prop :=
 ∀ (pins:List (Addr×Obj)) (s:Shared) (σ:St) (H:Hp) (o i v:V) (ov iv u:Value) (Q:Hp→Prop),Inv X pins σ H s→RelV o ov→RelV i iv→RelV v u→t o i v H Q →
  wpAny (model X.prog X.w) X.A (setItem ov iv u) (fun _ s'=>∃ H',Inv X pins σ H' s'∧Q H') X.xe s
section
variable {X:Cx} {pos:Pos}
noncomputable abbrev Qe5 (i:Nat):TG:=fun v σ H Q=>Q (σ.set i (some v)) H
theorem Q27 {i:Nat} {x:Str} (hN:X.N.Nodup) (hi:X.N[i]?=some x) (hx:Loc X.env.scope x) (hf:X.fn x=true∨X.env.scope.names.lookup x=some .local:=by first | exact .inl rfl | exact .inr rfl | assumption):PG X (.Name x pos) (Qe5 i):=by
 intro pins s σ H v u Q I r h
 exact wpAny_assign_Name (Qru I hN hi hx r (fun s' I'=>⟨_,H,I',h⟩) hf)
noncomputable abbrev Q8a:TGs:=fun vs σ H Q=>vs=[]∧Q σ H
noncomputable abbrev Qy6 (t:TG) (u:TGs):TGs:=fun vs σ H Q=>∃ v r,vs=v::r∧t v σ H fun σ' H'=>u r σ' H' Q
theorem Q28:PGs X [] Q8a:=by
 intro pins s σ H vs us Q I r h
 obtain ⟨e,h⟩:=h
 subst e
 cases r
 exact assignInOrder_nil ⟨σ,H,I,h⟩
theorem Qy7 {e:Expr} {es:List Expr} {t:TG} {u:TGs} (h1:PG X e t) (h2:PGs X es u)
  (hs:(assignEach (e::es) X.env).map (·.2)=assign e X.env::(assignEach es X.env).map (·.2):=by rfl):PGs X (e::es) (Qy6 t u):=by
 intro pins s σ H vs us Q I r h
 obtain ⟨v,vr,e1,h⟩:=h
 subst e1
 cases r with
 | cons r rr =>
  rw [hs]
  refine assignInOrder_cons (thn (h1 pins s σ H _ _ _ I r h) fun _ s1 ⟨σ1,H1,I1,q1⟩=>?_)
  exact h2 pins s1 σ1 H1 _ _ Q I1 rr q1
noncomputable def Q29 (K:PySem.W.Frag) (n:Nat) (t:TGs):TG:=fun v σ H Q=>∃ a xs,v=.ref a∧SqT K H a xs∧xs.length=n∧t xs σ H Q
theorem Q8b {es:List Expr} {k:Nat} {t:TGs} {n:Nat} (hc:X.calm=true) (h:PGs X es t)
  (hn:(assignEach es X.env).length=n:=by rfl) (hst:(assignEach es X.env).findIdx? (·.1)=none:=by rfl):PG X (.Tuple es k pos) (Q29 X.K n t):=by
 intro pins s σ H v u Q I r hw
 obtain ⟨a,xs,e1,hq,hl,hw⟩:=hw
 subst e1
 cases r
 obtain ⟨its,rv,ht,hz⟩:=I.tuple hq
 refine assign_Tuple_tuple (I.ok.hd hc) ht (by simp [hn,←hl,rv.length]) hst fun h' hx=>?_
 have I1:Inv X pins σ H { s with heap:=h' }:=I.kept (t':=s.toks) fun b o e=>hx b o (Nat.ne_of_lt (Heap.lt_size e)) e
 exact h pins _ σ H xs _ Q I1 (by simpa using rv) hw
noncomputable abbrev Q8c (to ti:TE) (t:Q79):TG:=fun v σ H Q=>to σ H fun o H1=>ti σ H1 fun i H2=>t o i v H2 fun H3=>Q σ H3
theorem Q8d {o i:Expr} {to ti:TE} {t:Q79} (ho:PE X o to) (hi:PE X i ti) (hs:PSet X t)
  (ha:∀ v,assign (.Subscript o i pos) X.env v=(do
   let ov ← holding [v] (eval o X.env)
   let iv ← holding [v,ov] (eval i X.env)
   standAt pos
   holding [v,ov,iv] (setItem ov iv v)
   release [v,ov,iv] []):=by intro _;rfl):PG X (.Subscript o i pos) (Q8c to ti t):=by
 intro pins s σ H v u Q I r h
 rw [ha]
 refine wpAny_bind (wpAny_holding (thn (ho pins s σ H _ I h) fun ov s1 ⟨x,H1,I1,r1,q1⟩=>?_))
 refine wpAny_bind (wpAny_holding (thn (hi pins s1 σ H1 _ I1 q1) fun iv s2 ⟨y,H2,I2,r2,q2⟩=>?_))
 refine wpAny_bind (wpAny_standAt (wpAny_bind (wpAny_holding (thn (hs pins s2 σ H2 x y v ov iv u _ I2 r1 r2 r q2) fun _ s3 ⟨H3,I3,q3⟩=>?_))))
 exact wpAny_release ⟨σ,H3,I3,q3⟩
noncomputable abbrev Qlt (te:TE) (g:TG):TS:=fun D σ H=>te σ H fun x H1=>g x σ H1 D.nx
theorem Q8e {tg e:Expr} {te:TE} {g:TG} (he:PE X e te) (hg:PG X tg g) (hs:swapsWithSole [tg] e pos.line X.env=pure false:=by rfl) (hw:swappedStores [tg] e X.env=pure none:=by rfl)
  (h1:(assignEach [tg] X.env).map (·.2)=[assign tg X.env]:=by rfl):PS X (.Assign [tg] e pos) (Qlt te g):=by
 intro pins s σ H D I h
 refine wpAny_Assign_stores (thn (he pins s σ H _ I h) fun v s1 ⟨x,H1,I1,r1,q1⟩=>?_) hs hw
 rw [h1]
 exact thn (hg pins s1 σ H1 x v _ I1 r1 q1) fun _ s2 q=>q
theorem Q8f {i:Nat} {x:Str} {e:Expr} {te:TE} {pos':Pos} (hN:X.N.Nodup) (hi:X.N[i]?=some x) (hx:Loc X.env.scope x) (he:PE X e te) (hs:swapsWith e (some (.Name x pos')) pos.line X.env=pure false:=by rfl) (hf:X.fn x=true∨X.env.scope.names.lookup x=some .local:=by first | exact .inl rfl | exact .inr rfl | assumption) :
  PS X (.Assign [.Name x pos'] e pos) (Qlt te (Qe5 i)):=by
 intro pins s σ H D I h
 refine wpAny_Assign_Name (thn (he pins s σ H _ I h) fun v s1 ⟨y,H1,I1,r1,q1⟩=>?_) hs
 exact Qru I1 hN hi hx r1 (fun s2 I2=>⟨_,H1,I2,q1⟩) hf
end
section
variable {X:Cx} {pos:Pos}
noncomputable def Qy8 (c:TT) (tb:TS):TS:=fun D σ H=>∃ W:Nat→St→Hp→Prop,(∃ m,W m σ H)∧∀ m σ H,W m σ H →
 c σ H fun b H1=>if b=true then ∃ N:St→Hp→Prop,(∀ σ' H',N σ' H'→∃ m',m'<m∧W m' σ' H')∧tb { D with nx:=N,ct:=N,bk:=D.nx } σ H1 else D.nx σ H1
theorem Qy9 {c:Expr} {body:List Stmt} {tc:TT} {tb:TS} (hp:PassesOwn (model X.prog X.w) X.A X.env X.xe) (hc:PT X c tc) (hb:PSs X body tb):PS X (.While c body [] pos) (Qy8 tc tb):=by
 intro pins s σ H D I h
 obtain ⟨W,⟨m0,w0⟩,turn⟩:=h
 refine wpAny_While (codeAny_whileLoop (fun n s'=>∃ σ' H',Inv X pins σ' H' s'∧W n σ' H') ?_ m0 ⟨σ,H,I,w0⟩)
 rintro n s1 ⟨σ1,H1,I1,w1⟩
 refine wpAny_passesOwn hp (thn (hc pins s1 σ1 H1 _ I1 (turn n σ1 H1 w1)) fun b s2 ⟨H2,I2,q2⟩=>?_)
 cases b with
 | true =>
  obtain ⟨N,hN,q2⟩:=q2
  rw [if_pos rfl]
  refine wpAny_passesOwn hp (thn (hb pins s2 σ1 H2 _ I2 q2) fun f s3 q3=>?_)
  cases f with
  | next =>
   obtain ⟨σ3,H3,I3,n3⟩:=q3
   obtain ⟨m',hm,w3⟩:=hN σ3 H3 n3
   exact ⟨m',hm,σ3,H3,I3,w3⟩
  | cont =>
   obtain ⟨σ3,H3,I3,n3⟩:=q3
   obtain ⟨m',hm,w3⟩:=hN σ3 H3 n3
   exact ⟨m',hm,σ3,H3,I3,w3⟩
  | brk=>exact q3
  | ret v=>exact q3
 | false =>
  rw [if_neg Bool.false_ne_true]
  exact wpAny_execs_nil ⟨σ1,H2,I2,q2⟩
end
structure It where
 go:Nat→Hp→Prop
 yld:Nat→Hp→V→Hp→Prop
 stop:Nat→Hp→Prop
noncomputable def Qis (X:Cx) (pins:List (Addr×Obj)) (H:Hp) (b:Addr):Prop :=
 H b=none∧b≠X.env.locals∧b∉X.fs∧(b∈X.ex∨X.s₀.heap.objs.size≤b)∧(∀ x c,X.env.cells.lookup x=some c→c≠b)∧∀ p∈X.pn++pins,p.1≠b
theorem Inv.fpOk {X:Cx} {pins:List (Addr×Obj)} {σ:St} {H H':Hp} {s:Shared} {b:Addr} (I:Inv X pins σ H s) (hb:s.heap.objs.size≤b) (hn:H' b=none):Qis X pins H' b:=by
 refine ⟨hn,Nat.ne_of_gt (Nat.lt_of_lt_of_le I.lt hb),I.nofs hb,.inr (Nat.le_trans I.sz hb),fun x c e z=>?_,fun p hp z=>?_⟩
 ·obtain ⟨v,q⟩:=I.cell x c e
  exact absurd (Nat.lt_of_lt_of_le q.lt (by rw [z];exact hb)) (Nat.lt_irrefl _)
 ·exact absurd (Nat.lt_of_lt_of_le (Heap.lt_size (I.pin p hp).1) (by rw [z];exact hb)) (Nat.lt_irrefl _)
structure Turn (P:Program) (w:World) (K:PySem.W.Frag) (tg:Expr) (J:It) (fp:List Addr) (it:Addr) (tn:Nat→Heap→Prop):Prop where
 mem:it∈fp
 obj:∀ i h,tn i h→∀ b∈fp,∃ o,h.get? b=some o∧∀ v,o.data≠.cell v
 keep:∀ i h h',tn i h→(∀ b∈fp,∀ o,h.get? b=some o→h'.get? b=some o)→tn i h'
 item:∀ (X:Cx),X.prog=P→X.w=w→X.K=K→X.calm=true→∀ (i:Nat) (pins:List (Addr×Obj)) (s:Shared) (σ:St) (H:Hp) (E:Value→Shared→Prop),Inv X pins σ H s→(∀ b∈fp,Qis X pins H b)→tn i s.heap→J.go i H →
  wpAny (model P w) X.A (pyNext (.ref it)) (fun r s1=>∃ u,r=some u ∧
   wpAny (model P w) X.A (letOwnedTupleGo tg (.ref it) u) (fun _ s2=>∃ x H',Inv X pins σ H' s2∧RelV x u∧J.yld i H x H'∧tn (i+1) s2.heap∧∀ b∈fp,H' b=none) E s1) E s
 done:∀ (X:Cx),X.prog=P→X.w=w→X.K=K→X.calm=true→∀ (i:Nat) (pins:List (Addr×Obj)) (s:Shared) (σ:St) (H:Hp) (E:Value→Shared→Prop),Inv X pins σ H s→(∀ b∈fp,Qis X pins H b)→tn i s.heap→J.stop i H →
  wpAny (model P w) X.A (pyNext (.ref it)) (fun r s1=>r=none∧Inv X pins σ H s1) E s
 self:∀ (A:Around) (i:Nat) (s:Shared) (Q:Value→Shared→Prop) (E:Value→Shared→Prop),tn i s.heap→Q (.ref it) s→wpAny (model P w) A (pyIter (.ref it)) Q E s
noncomputable abbrev TI:=St→Hp→(It→Hp→Prop)→Prop
noncomputable def PIE (X:Cx) (pins:List (Addr×Obj)) (σ:St) (tg:Expr) (R:It→Hp→Prop) (itv:Value) (s2:Shared):Prop :=
 ∃ (it:Addr) (fp:List Addr) (tn:Nat→Heap→Prop) (J:It) (H':Hp),itv=.ref it∧Inv X pins σ H' s2∧Turn X.prog X.w X.K tg J fp it tn∧tn 0 s2.heap∧(∀ b∈fp,Qis X pins H' b)∧R J H'
noncomputable def PI (X:Cx) (tg iter:Expr) (wi:TI):Prop :=
 ∀ (pins:List (Addr×Obj)) (s:Shared) (σ:St) (H:Hp) (R:It→Hp→Prop),Inv X pins σ H s→wi σ H R →
  wpAny (model X.prog X.w) X.A (eval iter X.env) (fun v s1=>wpAny (model X.prog X.w) X.A (pyIter v) (PIE X pins σ tg R) X.xe s1) X.xe s
theorem Qza {M:Model} {A:Around} {E:Value→Shared→Prop} {s:Shared} {tg:Expr} {it:Addr} {u:Value} {o:Obj} {n:String} {vs:Array Value} {Q:Unit→Shared→Prop} (ho:s.heap.get? it=some o) (hc:o.cls=.type n) (hd:o.data=.fields vs)
  (hn:["enumerate","zip","dict_itemiterator","dict_reverseitemiterator","odict_iterator","itertools.zip_longest","itertools.pairwise"].contains n=false) (hQ:Q () s):wpAny M A (letOwnedTupleGo tg (.ref it) u) Q E s:=by
 unfold letOwnedTupleGo
 cases tg <;> first
  | exact wpAny_pure hQ
  | (cases u <;> first
    | exact wpAny_pure hQ
    | (refine wpAny_bind (wpAny_load ho ?_)
       rw [hc,hd]
       show wpAny M A (if (["enumerate","zip","dict_itemiterator","dict_reverseitemiterator","odict_iterator","itertools.zip_longest","itertools.pairwise"].contains n&&vs[0]?==some (rawInt _))=true then _ else _) Q E s
       rw [if_neg (by intro h;rw [hn,Bool.false_and] at h;cases h)]
       exact wpAny_pure hQ))
noncomputable def Itl (K:PySem.W.Frag) (a:Addr):It :=
 ⟨fun i H=>∃ xs x,SqL K H a xs∧xs[i]?=some x,fun i H x H'=>H'=H∧∀ xs,SqL K H a xs→xs[i]?=some x,fun i H=>∃ xs,SqL K H a xs∧xs.length≤i⟩
noncomputable def Itt (K:PySem.W.Frag) (a:Addr):It :=
 ⟨fun i H=>∃ xs x,SqT K H a xs∧xs[i]?=some x,fun i H x H'=>H'=H∧∀ xs,SqT K H a xs→xs[i]?=some x,fun i H=>∃ xs,SqT K H a xs∧xs.length≤i⟩
noncomputable def Itr (lo:Int) (n:Nat):It:=⟨fun i _=>i<n,fun i H x H'=>H'=H∧x=.int (lo+i),fun i _=>n≤i⟩
theorem Qxm {P:Program} {w:World} {K:PySem.W.Frag} {tg:Expr} (a it:Addr):Turn P w K tg (Itl K a) [it] it (fun i h=>h.IsListIter it a i) where
 mem:=by simp
 obj:=fun i h st b hb=>by
  have e:b=it:=by simpa using hb
  subst e
  obtain ⟨o,e,c,d⟩:=st
  exact ⟨o,e,fun v z=>by rw [d] at z;cases z⟩
 keep:=fun i h h' st k=>st.at fun o e=>k it (by simp) o e
 item:=by
  intro X hP hw hK hc i pins s σ H E I hf st hg
  subst hP hw hK
  obtain ⟨xs,x,hq,hx⟩:=hg
  obtain ⟨its,rv,p,hz⟩:=I.list hq
  obtain ⟨u,hu,ru⟩:=rv.get hx
  obtain ⟨f0,f1,f2,f3,f4,f5⟩:=hf it (by simp)
  refine wpAny_pyNext_list_item st p.isList (x:=u) (by simpa using hu) fun h' st' sb=>?_
  have I1:Inv X pins σ H { s with heap:=h' }:=I.turned (t':=s.toks) (fun b o hb e=>(sb.2 b hb).trans e) f0 f1 f3 f4 f5
  obtain ⟨o,e,c,d⟩:=id st'
  exact ⟨u,rfl,Qza (s:={ s with heap:=h' }) e c d (by decide) ⟨x,H,I1,ru,⟨rfl,fun ys hy=>by rw [I.list_inj hy hq];exact hx⟩,st',fun b hb=>(hf b hb).1⟩⟩
 done:=by
  intro X hP hw hK hc i pins s σ H E I hf st hg
  subst hP hw hK
  obtain ⟨xs,hq,hx⟩:=hg
  obtain ⟨its,rv,p,hz⟩:=I.list hq
  obtain ⟨f0,f1,f2,f3,f4,f5⟩:=hf it (by simp)
  have hl:=rv.length
  exact wpAny_pyNext_list_end (I.ok.hd hc) st p.isList (by simp;omega) fun h' eb=>⟨rfl,I.turned (t':=s.toks) (fun b o hb e=>eb b o hb e) f0 f1 f3 f4 f5⟩
 self:=fun _ _ _ _ _ st h=>wpAny_pyIter_listiter st h
theorem Qty {P:Program} {w:World} {K:PySem.W.Frag} {tg:Expr} (a it:Addr):Turn P w K tg (Itt K a) [it] it (fun i h=>h.IsTupleIter it a i) where
 mem:=by simp
 obj:=fun i h st b hb=>by
  have e:b=it:=by simpa using hb
  subst e
  obtain ⟨o,e,c,d⟩:=st
  exact ⟨o,e,fun v z=>by rw [d] at z;cases z⟩
 keep:=fun i h h' st k=>st.at fun o e=>k it (by simp) o e
 item:=by
  intro X hP hw hK hc i pins s σ H E I hf st hg
  subst hP hw hK
  obtain ⟨xs,x,hq,hx⟩:=hg
  obtain ⟨its,rv,p,hz⟩:=I.tuple hq
  obtain ⟨u,hu,ru⟩:=rv.get hx
  obtain ⟨f0,f1,f2,f3,f4,f5⟩:=hf it (by simp)
  refine wpAny_pyNext_tuple_item st (show s.heap.IsTuple a its.toArray from p) (x:=u) (by simpa using hu) fun h' st' sb=>?_
  have I1:Inv X pins σ H { s with heap:=h' }:=I.turned (t':=s.toks) (fun b o hb e=>(sb.2 b hb).trans e) f0 f1 f3 f4 f5
  obtain ⟨o,e,c,d⟩:=id st'
  exact ⟨u,rfl,Qza (s:={ s with heap:=h' }) e c d (by decide) ⟨x,H,I1,ru,⟨rfl,fun ys hy=>by rw [I.tuple_inj hy hq];exact hx⟩,st',fun b hb=>(hf b hb).1⟩⟩
 done:=by
  intro X hP hw hK hc i pins s σ H E I hf st hg
  subst hP hw hK
  obtain ⟨xs,hq,hx⟩:=hg
  obtain ⟨its,rv,p,hz⟩:=I.tuple hq
  obtain ⟨f0,f1,f2,f3,f4,f5⟩:=hf it (by simp)
  have hl:=rv.length
  exact wpAny_pyNext_tuple_end (I.ok.hd hc) st (show s.heap.IsTuple a its.toArray from p) (by simp;omega) fun h' eb=>⟨rfl,I.turned (t':=s.toks) (fun b o hb e=>eb b o hb e) f0 f1 f3 f4 f5⟩
 self:=fun _ _ _ _ _ st h=>wpAny_pyIter_tupleiter st h
theorem Qtz {P:Program} {w:World} {K:PySem.W.Frag} {tg:Expr} (it:Addr) (lo:Int) (n:Nat):Turn P w K tg (Itr lo n) [it] it (fun i h=>IsRangeIter h it (lo+(i:Nat)*1) ((n:Int)-(i:Nat)) 1) where
 mem:=by simp
 obj:=fun i h st b hb=>by
  have e:b=it:=by simpa using hb
  subst e
  exact ⟨_,st,fun v z=>by
   have z':Data.fields _=Data.cell v:=z
   cases z'⟩
 keep:=fun i h h' st k=>k it (by simp) _ st
 item:=by
  intro X hP hw hK hc i pins s σ H E I hf st hg
  subst hP hw hK
  obtain ⟨f0,f1,f2,f3,f4,f5⟩:=hf it (by simp)
  have W:=Walks.range (prog:=X.prog) (w:=X.w) (I.ok.hd hc) it lo 1 n
  refine W.item i s _ _ hg st fun v h' tk hv st' kk=>?_
  obtain ⟨t,rfl⟩:=hv
  have I1:Inv X pins σ H { s with heap:=h',toks:=tk }:=I.turned (fun b o hb e=>kk b o (by simpa using hb) e) f0 f1 f3 f4 f5
  refine ⟨_,rfl,Qza (s:={ s with heap:=h',toks:=tk }) (n := "range_iterator") st' rfl rfl (by decide) ⟨.int (lo+i),H,I1,⟨t,?_⟩,⟨rfl,rfl⟩,st',fun b hb=>(hf b hb).1⟩⟩
  rw [Int.mul_one]
 done:=by
  intro X hP hw hK hc i pins s σ H E I hf st hg
  subst hP hw hK
  obtain ⟨f0,f1,f2,f3,f4,f5⟩:=hf it (by simp)
  exact wpAny_pyNext_range_end (I.ok.hd hc) st (by have:n≤i:=hg;omega) fun h' eb=>⟨rfl,I.turned (t':=s.toks) (fun b o hb e=>eb b o hb e) f0 f1 f3 f4 f5⟩
 self:=fun _ _ _ _ _ st h=>wpAny_pyIter_rangeiter st h
section
variable {X:Cx} {tg:Expr}
theorem Qzb {pins:List (Addr×Obj)} {σ:St} {H:Hp} {s:Shared} {R:It→Hp→Prop} {E:Value→Shared→Prop} {lo hi:Int} {t u v:Tok} {tk:Nat} (I:Inv X pins σ H s) (h1:-(2^62)≤lo) (h2:lo<2^62) (h3:-(2^62)≤hi) (h4:hi<2^62)
  (q:R (Itr lo (hi-lo).toNat) H):wpAny (model X.prog X.w) X.A (pyIter (.ref s.heap.objs.size)) (PIE X pins σ tg R) E { s with heap:=s.heap.push { cls:=.type "range",data:=.fields #[.int lo t,.int hi u,.int 1 v] },toks:=tk }:=by
 refine wpAny_pyIter_range (IsRange.new ..) (small_one h1 h2 h3 h4) ?_
 have I1:Inv X pins σ H { s with heap:=s.heap.push { cls:=.type "range",data:=.fields #[.int lo t,.int hi u,.int 1 v] },toks:=tk }:=I.kept fun b o e=>Heap.get?_push_of_some _ e
 refine ⟨(s.heap.push { cls:=.type "range",data:=.fields #[.int lo t,.int hi u,.int 1 v] }).objs.size,[(s.heap.push { cls:=.type "range",data:=.fields #[.int lo t,.int hi u,.int 1 v] }).objs.size],_,_,H,rfl,
  I1.kept (t':=tk) fun b o e=>Heap.get?_push_of_some _ e,Qtz _ lo (hi-lo).toNat,?_,fun b hb=>?_,q⟩
 ·have e1:lo+((0:Nat):Int)*1=lo:=by simp
  have e2:(((hi-lo).toNat:Nat):Int)-((0:Nat):Int)=Builtin.Range.rangeSize lo hi 1:=by rw [rangeSize_one];split <;> omega
  show IsRangeIter _ _ (lo+((0:Nat):Int)*1) ((((hi-lo).toNat:Nat):Int)-((0:Nat):Int)) 1
  rw [e1,e2]
  exact Heap.get?_push_size _ rfl
 ·have e:b=(s.heap.push { cls:=.type "range",data:=.fields #[.int lo t,.int hi u,.int 1 v] }).objs.size:=by simpa using hb
  subst e
  exact I1.fpOk (Nat.le_refl _) (I1.hok.fresh (Nat.le_refl _))
noncomputable def Q6g (ta:TA):TI:=fun σ H R=>ta σ H fun vs H1=>∃ j:Int,vs=[.int j] ∧ -(2^62)≤j∧j<2^62∧R (Itr 0 j.toNat) H1
theorem Qxn {a:Expr} {ta:TA} {p pos:Pos} (hg:Gl X "range") (hm:X.mg "range" = none) (ha:PA X [a] ta) (hs:starEach [a] X.env=[(false,eval a X.env)]:=by rfl):PI X tg (.Call (.Name "range" p) [a] [] pos) (Q6g ta):=by
 intro pins s σ H R I h
 refine Call_ (Qmk I hg hm boot_range (PyProof.Rows.callWith_type1 (thn (ha pos pins s σ H _ I h) fun us s1 ⟨vs,H1,I1,r1,q1⟩=>?_) hs rfl))
 obtain ⟨j,e,q1,q2,q⟩:=q1
 subst e
 cases r1 with
 | cons r rr =>
  cases rr
  obtain ⟨t,rfl⟩:=r
  exact call_range_1 (Qzb I1 (by omega) (by omega) q1 q2 (by simpa using q))
noncomputable def Qzc (wi:TI) (g:TG) (tb:TS):TS:=fun D σ H=>wi σ H fun J H1=>∃ W:Nat→Nat→St→Hp→Prop,(∃ m,W 0 m σ H1)∧∀ i m σ H,W i m σ H →
 (J.stop i H∧D.nx σ H)∨(J.go i H∧∃ N:St→Hp→Prop,(∀ σ' H',N σ' H'→∃ m',m'<m∧W (i+1) m' σ' H')∧∀ x H',J.yld i H x H'→g x σ H' fun σ2 H2=>tb { D with nx:=N,ct:=N,bk:=D.nx } σ2 H2)
noncomputable def Qkh (fp:List Addr) (h:Heap):List (Addr×Obj):=fp.filterMap fun b=>(h.get? b).map fun o=>(b,o)
theorem Qb8 {fp:List Addr} {h:Heap} {b:Addr} {o:Obj} (hb:b∈fp) (e:h.get? b=some o):(b,o)∈Qkh fp h:=List.mem_filterMap.mpr ⟨b,hb,by rw [e];rfl⟩
theorem Qxo {fp:List Addr} {h:Heap} {p:Addr×Obj} (hp:p∈Qkh fp h):p.1∈fp∧h.get? p.1=some p.2:=by
 obtain ⟨b,hb,e⟩:=List.mem_filterMap.mp hp
 cases q:h.get? b with
 | none=>rw [q] at e;cases e
 | some o =>
  rw [q] at e
  have e':(b,o)=p:=Option.some.inj e
  subst e'
  exact ⟨hb,q⟩
theorem Inv.pinned {pins:List (Addr×Obj)} {σ:St} {H:Hp} {s:Shared} {fp:List Addr} (I:Inv X pins σ H s) (hf:∀ b∈fp,Qis X pins H b) (ho:∀ b∈fp,∃ o,s.heap.get? b=some o∧∀ v,o.data≠.cell v):Inv X (pins++Qkh fp s.heap) σ H s :=
 I.pins_of fun p hp=>(mem_append.mp hp).elim (fun z=>I.pin p (mem_append_right _ z)) fun z=>by
  obtain ⟨hb,e⟩:=Qxo z
  obtain ⟨f0,f1,f2,_⟩:=hf p.1 hb
  obtain ⟨o,e',d⟩:=ho p.1 hb
  rw [e] at e';cases e'
  exact ⟨e,f0,f1,f2,d⟩
theorem Inv.unpinned {pins pl:List (Addr×Obj)} {σ:St} {H:Hp} {s:Shared} (I:Inv X (pins++pl) σ H s):Inv X pins σ H s:=I.pins_of fun p hp=>I.pin p (mem_append_right _ (mem_append_left _ hp))
theorem Q8g {iter:Expr} {body:List Stmt} {wi:TI} {g:TG} {tb:TS} {pos:Pos} (hp:PassesOwn (model X.prog X.w) X.A X.env X.xe) (hc:X.calm=true) (hi:PI X tg iter wi) (hg:PG X tg g) (hb:PSs X body tb)
  (hs:∀ x,foldedSetIterable iter X.env x=pure x:=by intro _;rfl):PS X (.For tg iter body [] pos) (Qzc wi g tb):=by
 intro pins s σ H D I h
 refine wpAny_For (thn (hi pins s σ H _ I h) fun v s1 h1=>thn h1 fun itv s2 h2=>?_) hs
 obtain ⟨it,fp,tn,J,H2,e,I2,T,st2,f2,W,⟨m0,w0⟩,turn⟩:=h2
 subst e
 -- what stays true of the iterator's objects through the loop
 have stat:∀ {H':Hp},(∀ b∈fp,H' b=none)→∀ b∈fp,Qis X pins H' b:=fun hn b hb=>⟨hn b hb,(f2 b hb).2⟩
 refine codeAny_forLoop_any (fun n s'=>∃ i σ' H',Inv X pins σ' H' s'∧tn i s'.heap∧(∀ b∈fp,H' b=none)∧W i n σ' H') ?_ m0 ⟨0,σ,H2,I2,st2,fun b hb=>(f2 b hb).1,w0⟩
 rintro n s3 ⟨i,σ3,H3,I3,st3,fr3,w3⟩
 rcases turn i n σ3 H3 w3 with ⟨stop,qn⟩ | ⟨go,N,hN,step⟩
 ·refine wpAny_passesOwn hp (thn (T.done X rfl rfl rfl hc i pins s3 σ3 H3 X.xe I3 (stat fr3) st3 stop) fun r s4 ⟨hr,I4⟩=>?_)
  subst hr
  exact wpAny_execs_nil ⟨σ3,H3,I4,qn⟩
 ·refine wpAny_passesOwn hp (thn (T.item X rfl rfl rfl hc i pins s3 σ3 H3 X.xe I3 (stat fr3) st3 go) fun r s4 ⟨u,hr,h4⟩=>?_)
  subst hr
  refine wpAny_passesOwn hp (thn h4 fun _ s5 ⟨x,H5,I5,r5,y5,st5,fr5⟩=>?_)
  have I5':=I5.pinned (stat fr5) (T.obj _ _ st5)
  refine wpAny_passesOwn hp (thn (hg _ s5 σ3 H5 x u _ I5' r5 (step x H5 y5)) fun _ s6 ⟨σ6,H6,I6,q6⟩=>?_)
  refine wpAny_passesOwn hp (thn (hb _ s6 σ6 H6 _ I6 q6) fun f s7 q7=>?_)
  have again:∀ {σ7:St} {H7:Hp},Inv X (pins++Qkh fp s5.heap) σ7 H7 s7→N σ7 H7→∃ m,m<n∧∃ i σ' H',Inv X pins σ' H' s7∧tn i s7.heap∧(∀ b∈fp,H' b=none)∧W i m σ' H':=fun {σ7 H7} I7 n7=>by
   obtain ⟨m',hm,w7⟩:=hN σ7 H7 n7
   refine ⟨m',hm,i+1,σ7,H7,I7.unpinned,T.keep _ _ _ st5 fun b hb o e=>(I7.pin (b,o) (mem_append_right _ (mem_append_right _ (Qb8 hb e)))).1,fun b hb=>?_,w7⟩
   obtain ⟨o,e,d⟩:=T.obj _ _ st5 b hb
   exact (I7.pin (b,o) (mem_append_right _ (mem_append_right _ (Qb8 hb e)))).2.1
  cases f with
  | next=>obtain ⟨σ7,H7,I7,n7⟩:=q7;exact again I7 n7
  | cont=>obtain ⟨σ7,H7,I7,n7⟩:=q7;exact again I7 n7
  | brk=>obtain ⟨σ7,H7,I7,q7⟩:=q7;exact ⟨σ7,H7,I7.unpinned,q7⟩
  | ret v=>obtain ⟨x7,σ7,H7,I7,r7,q7⟩:=q7;exact ⟨x7,σ7,H7,I7.unpinned,r7,q7⟩
end
theorem Qzd {K:PySem.W.Frag} {a:Addr} {xs:List V} {g:TG} {tb:TS} {D:Ends} {σ:St} {H:Hp} (Pv:Nat→St→Hp→Prop) (h0:Pv 0 σ H) (hl:∀ i σ H,i≤xs.length→Pv i σ H→SqL K H a xs)
  (hs:∀ i x σ H,xs[i]?=some x→Pv i σ H→g x σ H fun σ2 H2=>tb { D with nx:=Pv (i+1),ct:=Pv (i+1),bk:=D.nx } σ2 H2) (hd:∀ σ H,Pv xs.length σ H→D.nx σ H) :
  ∃ W:Nat→Nat→St→Hp→Prop,(∃ m,W 0 m σ H)∧∀ i m σ H,W i m σ H →
   ((Itl K a).stop i H∧D.nx σ H)∨((Itl K a).go i H∧∃ N:St→Hp→Prop,(∀ σ' H',N σ' H'→∃ m',m'<m∧W (i+1) m' σ' H')∧∀ x H',(Itl K a).yld i H x H'→g x σ H' fun σ2 H2=>tb { D with nx:=N,ct:=N,bk:=D.nx } σ2 H2):=by
 refine ⟨fun i m σ H=>m=xs.length-i∧i≤xs.length∧Pv i σ H,⟨xs.length,by simp,Nat.zero_le _,h0⟩,?_⟩
 rintro i m σ H ⟨rfl,hi,p⟩
 have q:=hl i σ H hi p
 by_cases hlt:i<xs.length
 ·refine .inr ⟨⟨xs,xs[i],q,by simp [hlt]⟩,Pv (i+1),fun σ' H' p'=>⟨xs.length-(i+1),by omega,rfl,hlt,p'⟩,fun x H' y=>?_⟩
  obtain ⟨e,y⟩:=y
  subst e
  exact hs i x σ _ (y xs q) p
 ·have e:i=xs.length:=by omega
  subst e
  exact .inl ⟨⟨xs,q,Nat.le_refl _⟩,hd σ H p⟩
noncomputable abbrev R2:=V→V→Hp→VK→Prop
noncomputable def OpR (X:Cx) (f:Value→Value→Sem Value) (r:R2):Prop :=
 ∀ (pins:List (Addr×Obj)) (s:Shared) (σ:St) (H:Hp) (x y:V) (v u:Value) (Q:VK),Inv X pins σ H s→RelV x v→RelV y u→r x y H Q →
  wpAny (model X.prog X.w) X.A (f v u) (EP X pins σ Q) X.xe s
noncomputable def UnR (X:Cx) (f:Value→Sem Value) (r:V→Hp→VK→Prop):Prop :=
 ∀ (pins:List (Addr×Obj)) (s:Shared) (σ:St) (H:Hp) (x:V) (v:Value) (Q:VK),Inv X pins σ H s→RelV x v→r x H Q →
  wpAny (model X.prog X.w) X.A (f v) (EP X pins σ Q) X.xe s
noncomputable def CallR (X:Cx) (f:Value) (r:List V→Hp→VK→Prop):Prop :=
 ∀ (pins:List (Addr×Obj)) (s:Shared) (σ:St) (H:Hp) (xs:List V) (us:List Value) (Q:VK),Inv X pins σ H s→Vals xs us→r xs H Q →
  wpAny (model X.prog X.w) X.A (call f us) (EP X pins σ Q) X.xe s
noncomputable abbrev tOp (r:R2) (ta tb:TE):TE:=fun σ H Q=>ta σ H fun x H1=>tb σ H1 fun y H2=>r x y H2 Q
noncomputable abbrev tUn (r:V→Hp→VK→Prop) (ta:TE):TE:=fun σ H Q=>ta σ H fun x H1=>r x H1 Q
noncomputable def rI (C:Int→Int→Prop) (g:Int→Int→V):R2:=fun x y H Q=>∃ i j,x=.int i∧y=.int j∧C i j∧Q (g i j) H
noncomputable def rI0 (g:Int→Int→V):R2:=fun x y H Q=>∃ i j,x=.int i∧y=.int j∧Q (g i j) H
noncomputable def rU (g:Int→V):V→Hp→VK→Prop:=fun x H Q=>∃ i,x=.int i∧Q (g i) H
section
variable {X:Cx} {a b c:Expr} {ta tb tc:TE} {pos:Pos}
theorem Q8h (ha:PE X a ta) (hb:PE X b tb) {pins:List (Addr×Obj)} {s:Shared} {σ:St} {H:Hp} {R:V→V→Hp→Prop} (I:Inv X pins σ H s)
  (h:ta σ H fun x H1=>tb σ H1 fun y H2=>R x y H2) {Q:Value→Shared→Prop} {f:Value→Value→Sem Value}
  (hf:∀ v u s2 x y H2,Inv X pins σ H2 s2→RelV x v→RelV y u→R x y H2→wpAny (model X.prog X.w) X.A (f v u) Q X.xe s2) :
  wpAny (model X.prog X.w) X.A (eval a X.env) (fun v s₁=>wpAny (model X.prog X.w) X.A (eval b X.env) (fun u s₂=>wpAny (model X.prog X.w) X.A (f v u) Q X.xe s₂) X.xe s₁) X.xe s:=by
 refine thn (ha pins s σ H _ I h) fun v s1 ⟨x,H1,I1,r1,q1⟩=>?_
 refine thn (hb pins s1 σ H1 _ I1 q1) fun u s2 ⟨y,H2,I2,r2,q2⟩=>?_
 exact hf v u s2 x y H2 I2 r1 r2 q2
theorem Qab4 {op:Operator} {r:R2} (ho:OpR X (binaryOp op) r) (ha:PE X a ta) (hb:PE X b tb):PE X (.BinOp a op b pos) (tOp r ta tb):=by
 intro pins s σ H Q I h
 exact wpAny_BinOp (Q8h ha hb I h fun v u s2 x y H2 I2 rx ry q=>ho pins s2 σ H2 x y v u Q I2 rx ry q)
theorem Qab5 {op:UnaryOp} {r:V→Hp→VK→Prop} (ho:UnR X (unaryOp op) r) (ha:PE X a ta):PE X (.UnaryOp op a pos) (tUn r ta):=by
 intro pins s σ H Q I h
 exact UnaryOp_ (thn (ha pins s σ H _ I h) fun v s1 ⟨x,H1,I1,r1,q1⟩=>ho pins s1 σ H1 x v Q I1 r1 q1)
theorem opI {f:Value→Value→Sem Value} {C:Int→Int→Prop} {g:Int→Int→Int}
  (rule:∀ (i j:Int) (t u:Tok) (s:Shared) (Q:Value→Shared→Prop) (E:Value→Shared→Prop),C i j→Q (.int (g i j) s.toks) { s with toks:=s.toks+1 }→wpAny (model X.prog X.w) X.A (f (.int i t) (.int j u)) Q E s) :
  OpR X f (rI C fun i j=>.int (g i j)):=by
 intro pins s σ H x y v u Q I rx ry h
 obtain ⟨i,j,rfl,rfl,hc,q⟩:=h
 obtain ⟨t,rfl⟩:=rx
 obtain ⟨t',rfl⟩:=ry
 exact rule i j t t' s _ _ hc ⟨.int (g i j),H,I.tok _,⟨_,rfl⟩,q⟩
theorem opI0 {f:Value→Value→Sem Value} {g:Int→Int→Int}
  (rule:∀ (i j:Int) (t u:Tok) (s:Shared) (Q:Value→Shared→Prop) (E:Value→Shared→Prop),Q (.int (g i j) s.toks) { s with toks:=s.toks+1 }→wpAny (model X.prog X.w) X.A (f (.int i t) (.int j u)) Q E s) :
  OpR X f (rI0 fun i j=>.int (g i j)):=by
 intro pins s σ H x y v u Q I rx ry h
 obtain ⟨i,j,rfl,rfl,q⟩:=h
 obtain ⟨t,rfl⟩:=rx
 obtain ⟨t',rfl⟩:=ry
 exact rule i j t t' s _ _ ⟨.int (g i j),H,I.tok _,⟨_,rfl⟩,q⟩
theorem Q3a {f:Value→Value→Sem Value} {g:Int→Int→Bool}
  (rule:∀ (i j:Int) (t u:Tok) (s:Shared) (Q:Value→Shared→Prop) (E:Value→Shared→Prop),Q (.bool (g i j)) s→wpAny (model X.prog X.w) X.A (f (.int i t) (.int j u)) Q E s) :
  OpR X f (rI0 fun i j=>.bl (g i j)):=by
 intro pins s σ H x y v u Q I rx ry h
 obtain ⟨i,j,rfl,rfl,q⟩:=h
 obtain ⟨t,rfl⟩:=rx
 obtain ⟨t',rfl⟩:=ry
 exact rule i j t t' s _ _ ⟨.bl (g i j),H,I,rfl,q⟩
noncomputable def Q8i (i j:Int):Prop:=0≤j∧j≤1000000∧i.natAbs<2^64
noncomputable def CMul (i j:Int):Prop:=(-(2^64)<i∧i<2^64)∨(-(2^64)<j∧j<2^64)
theorem CMul.ok {i j:Int} (h:CMul i j):IntMulOk i j:=by
 rcases h with ⟨h1,h2⟩ | ⟨h1,h2⟩
 ·exact .of_left (intBits_le_64 h1 h2)
 ·exact .of_right (intBits_le_64 h1 h2)
theorem Q8j:OpR X (binaryOp .Add) (rI0 fun i j=>.int (i+j)):=opI0 fun _ _ _ _ _ _ _ q=>add_int q
theorem Q8k:OpR X (binaryOp .Sub) (rI0 fun i j=>.int (i-j)):=opI0 fun _ _ _ _ _ _ _ q=>sub_int q
theorem Q8l:OpR X (binaryOp .Mult) (rI CMul fun i j=>.int (i*j)):=opI fun _ _ _ _ _ _ _ hc q=>mul_int q hc.ok
theorem Q3b:OpR X (binaryOp .Mod) (rI (fun _ j=>j≠0) fun i j=>.int (i.fmod j)):=opI fun _ _ _ _ _ _ _ hc q=>mod_int' hc q
theorem Q8m:OpR X (binaryOp .Pow) (rI Q8i fun i j=>.int (i^j.toNat)):=opI fun _ _ _ _ _ _ _ hc q=>pow_int_small hc.1 hc.2.1 hc.2.2 q
theorem unI {f:Value→Sem Value} {g:Int→Int}
  (rule:∀ (i:Int) (t:Tok) (s:Shared) (Q:Value→Shared→Prop) (E:Value→Shared→Prop),Q (.int (g i) s.toks) { s with toks:=s.toks+1 }→wpAny (model X.prog X.w) X.A (f (.int i t)) Q E s) :
  UnR X f (rU fun i=>.int (g i)):=by
 intro pins s σ H x v Q I rx h
 obtain ⟨i,rfl,q⟩:=h
 obtain ⟨t,rfl⟩:=rx
 exact rule i t s _ _ ⟨.int (g i),H,I.tok _,⟨_,rfl⟩,q⟩
theorem Q8n:UnR X (unaryOp .USub) (rU fun i=>.int (-i)):=unI fun _ _ _ _ _ q=>neg_int q
end
noncomputable def Q8o:V→V→Bool
 | .non,.non=>true | .non,.int _=>true | .int _,.non=>true | .non,.bl _=>true | .bl _,.non=>true | .non,.str _=>true | .str _,.non=>true
 | .int _,.int _=>true | .bl _,.bl _=>true | .str _,.str _=>true | .byt _,.byt _=>true
 | .int _,.str _=>true | .str _,.int _=>true | .bl _,.str _=>true | .str _,.bl _=>true
 | _,_=>false
noncomputable def rEq:R2:=fun x y H Q=>Q8o x y=true∧Q (.bl (decide (x=y))) H
noncomputable def rNe:R2:=fun x y H Q=>Q8o x y=true∧Q (.bl (!decide (x=y))) H
theorem Qvu {i j:Int}:decide (V.int i=V.int j)=(i==j):=by
 rw [Bool.eq_iff_iff]
 simp
theorem Qze {i j:Bool}:decide (V.bl i=V.bl j)=(i==j):=by
 rw [Bool.eq_iff_iff]
 simp
theorem Qvv {i j:Str}:decide (V.str i=V.str j)=(i==j):=by
 rw [Bool.eq_iff_iff]
 simp
theorem Qvw {i j:Array UInt8}:decide (V.byt i=V.byt j)=(i.toList==j.toList):=by
 rw [Bool.eq_iff_iff]
 cases i
 cases j
 simp
section
variable {X:Cx} {a b c:Expr} {ta tb tc:TE} {pos:Pos}
theorem Qav {pins:List (Addr×Obj)} {σ:St} {H:Hp} {s:Shared} {Q:VK} {k k':Bool} (I:Inv X pins σ H s) (q:Q (.bl k) H) (e:k=k'):EP X pins σ Q (.bool k') s:=by
 subst e
 exact ⟨.bl k,H,I,rfl,q⟩
theorem Qab7:OpR X (compareOp .Eq) rEq:=by
 intro pins s σ H x y v u Q I rx ry h
 obtain ⟨hs,q⟩:=h
 cases x with
 | non =>
  cases rx
  cases y with
  | non=>cases ry;exact PySem.EqNone.eq_none_none (Qav I q (by simp))
  | bl j=>cases ry;exact PySem.EqNone.eq_none_bool (Qav I q (by simp))
  | int j=>obtain ⟨t',rfl⟩:=ry;exact PySem.EqNone.eq_none_int (Qav I q (by simp))
  | str j=>obtain ⟨t',rfl⟩:=ry;exact PySem.EqNone.eq_none_str (Qav I q (by simp))
  | _=>exact absurd (show false=true from hs) Bool.false_ne_true
 | bl i =>
  cases rx
  cases y with
  | non=>cases ry;exact PySem.EqNone.eq_bool_none (Qav I q (by simp))
  | bl j=>cases ry;exact eq_bool (Qav I q Qze)
  | str j=>obtain ⟨t',rfl⟩:=ry;exact PySem.EqMixed.eq_bool_str (Qav I q (by simp))
  | _=>exact absurd (show false=true from hs) Bool.false_ne_true
 | int i =>
  obtain ⟨t,rfl⟩:=rx
  cases y with
  | non=>cases ry;exact PySem.EqNone.eq_int_none (Qav I q (by simp))
  | int j=>obtain ⟨t',rfl⟩:=ry;exact eq_int (Qav I q Qvu)
  | str j=>obtain ⟨t',rfl⟩:=ry;exact PySem.EqMixed.eq_int_str (Qav I q (by simp))
  | _=>exact absurd (show false=true from hs) Bool.false_ne_true
 | str i =>
  obtain ⟨t,rfl⟩:=rx
  cases y with
  | non=>cases ry;exact PySem.EqNone.eq_str_none (Qav I q (by simp))
  | bl j=>cases ry;exact PySem.EqMixed.eq_str_bool (Qav I q (by simp))
  | int j=>obtain ⟨t',rfl⟩:=ry;exact PySem.EqMixed.eq_str_int (Qav I q (by simp))
  | str j=>obtain ⟨t',rfl⟩:=ry;exact eq_str (Qav I q Qvv)
  | _=>exact absurd (show false=true from hs) Bool.false_ne_true
 | byt i =>
  obtain ⟨t,rfl⟩:=rx
  cases y with
  | byt j=>obtain ⟨t',rfl⟩:=ry;exact PySem.W.eq_bytes (Qav I q Qvw)
  | _=>exact absurd (show false=true from hs) Bool.false_ne_true
 | _=>cases y <;> exact absurd (show false=true from hs) Bool.false_ne_true
theorem Qab8:OpR X (compareOp .NotEq) rNe:=by
 intro pins s σ H x y v u Q I rx ry h
 obtain ⟨hs,q⟩:=h
 cases x with
 | non =>
  cases rx
  cases y with
  | non=>cases ry;exact PySem.EqNone.ne_none_none (Qav I q (by simp))
  | bl j=>cases ry;exact PySem.EqNone.ne_none_bool (Qav I q (by simp))
  | int j=>obtain ⟨t',rfl⟩:=ry;exact PySem.EqNone.ne_none_int (Qav I q (by simp))
  | str j=>obtain ⟨t',rfl⟩:=ry;exact PySem.EqNone.ne_none_str (Qav I q (by simp))
  | _=>exact absurd (show false=true from hs) Bool.false_ne_true
 | bl i =>
  cases rx
  cases y with
  | non=>cases ry;exact PySem.EqNone.ne_bool_none (Qav I q (by simp))
  | bl j=>cases ry;exact ne_bool (Qav I q (congrArg not Qze))
  | str j=>obtain ⟨t',rfl⟩:=ry;exact PySem.EqMixed.ne_bool_str (Qav I q (by simp))
  | _=>exact absurd (show false=true from hs) Bool.false_ne_true
 | int i =>
  obtain ⟨t,rfl⟩:=rx
  cases y with
  | non=>cases ry;exact PySem.EqNone.ne_int_none (Qav I q (by simp))
  | int j=>obtain ⟨t',rfl⟩:=ry;exact ne_int (Qav I q (congrArg not Qvu))
  | str j=>obtain ⟨t',rfl⟩:=ry;exact PySem.EqMixed.ne_int_str (Qav I q (by simp))
  | _=>exact absurd (show false=true from hs) Bool.false_ne_true
 | str i =>
  obtain ⟨t,rfl⟩:=rx
  cases y with
  | non=>cases ry;exact PySem.EqNone.ne_str_none (Qav I q (by simp))
  | bl j=>cases ry;exact PySem.EqMixed.ne_str_bool (Qav I q (by simp))
  | int j=>obtain ⟨t',rfl⟩:=ry;exact PySem.EqMixed.ne_str_int (Qav I q (by simp))
  | str j=>obtain ⟨t',rfl⟩:=ry;exact ne_str (Qav I q (congrArg not Qvv))
  | _=>exact absurd (show false=true from hs) Bool.false_ne_true
 | byt i =>
  obtain ⟨t,rfl⟩:=rx
  cases y with
  | byt j=>obtain ⟨t',rfl⟩:=ry;exact PySem.W.ne_bytes (Qav I q (congrArg not Qvw))
  | _=>exact absurd (show false=true from hs) Bool.false_ne_true
 | _=>cases y <;> exact absurd (show false=true from hs) Bool.false_ne_true
theorem Qab9:OpR X (compareOp .Lt) (rI0 fun i j=>.bl (decide (i<j))):=Q3a fun _ _ _ _ _ _ _ q=>lt_int q
theorem Qaca:OpR X (compareOp .LtE) (rI0 fun i j=>.bl (decide (i≤j))):=Q3a fun _ _ _ _ _ _ _ q=>le_int q
theorem Qacb:OpR X (compareOp .Gt) (rI0 fun i j=>.bl (decide (j<i))):=Q3a fun _ _ _ _ _ _ _ q=>gt_int q
theorem Qacc:OpR X (compareOp .GtE) (rI0 fun i j=>.bl (decide (j≤i))):=Q3a fun _ _ _ _ _ _ _ q=>ge_int q
theorem Q8p:OpR X (compareOp .Is) (fun x y H Q=>y=.non∧Q (.bl (decide (x=.non))) H):=by
 intro pins s σ H x y v u Q I rx ry h
 obtain ⟨rfl,q⟩:=h
 cases ry
 refine is_none_gen (Qav I q ?_)
 cases x <;> first
  | (cases rx;rfl)
  | (obtain ⟨t,rfl⟩:=rx;rfl)
theorem Q3c:OpR X (compareOp .IsNot) (fun x y H Q=>y=.non∧Q (.bl (!decide (x=.non))) H):=by
 intro pins s σ H x y v u Q I rx ry h
 obtain ⟨rfl,q⟩:=h
 cases ry
 refine isnot_none_gen (Qav I q ?_)
 cases x <;> first
  | (cases rx;rfl)
  | (obtain ⟨t,rfl⟩:=rx;rfl)
theorem OpR.or {f:Value→Value→Sem Value} {r r':R2} (h:OpR X f r) (h':OpR X f r'):OpR X f (fun x y H Q=>r x y H Q∨r' x y H Q):=by
 intro pins s σ H x y v u Q I rx ry q
 rcases q with q | q
 ·exact h pins s σ H x y v u Q I rx ry q
 ·exact h' pins s σ H x y v u Q I rx ry q
theorem Q8q (b:Expr) {op:CmpOp} (h:op≠.In:=by decide) (h2:op≠.NotIn:=by decide):behindInMarks op b=false:=by
 have e1:(op==CmpOp.In)=false:=by cases op <;> first | rfl | exact absurd rfl h
 have e2:(op==CmpOp.NotIn)=false:=by cases op <;> first | rfl | exact absurd rfl h2
 cases b <;> simp [behindInMarks,e1,e2]
theorem Q3d {op:CmpOp} {r:R2} (ho:OpR X (compareOp op) r) (ha:PE X a ta) (hb:PE X b tb) (hm:behindInMarks op b=false):PE X (.Compare a [op] [b] pos) (tOp r ta tb):=by
 intro pins s σ H Q I h
 exact wpAny_Compare1 (Q8h ha hb I h fun v u s2 x y H2 I2 rx ry q=>ho pins s2 σ H2 x y v u Q I2 rx ry q) hm
noncomputable abbrev Q6h (t:TE):TT:=fun σ H Q=>t σ H fun x H'=>∃ k,x=.bl k∧Q k H'
theorem Q3e {op:CmpOp} {r:R2} (ho:OpR X (compareOp op) r) (ha:PE X a ta) (hb:PE X b tb) (hm:behindInMarks op b=false):PT X (.Compare a [op] [b] pos) (Q6h (tOp r ta tb)):=by
 intro pins s σ H Q I h
 refine wpAny_isTrue_Compare1 (thn (ha pins s σ H _ I h) fun v s1 ⟨x,H1,I1,r1,q1⟩=>thn (hb pins s1 σ H1 _ I1 q1) fun u s2 ⟨y,H2,I2,r2,q2⟩ =>
  thn (ho pins s2 σ H2 x y v u _ I2 r1 r2 q2) fun c s3 ⟨z,H3,I3,r3,k,e,q3⟩=>?_) hm
 subst e
 cases r3
 exact wpAny_truthy_bool ⟨H3,I3,q3⟩
theorem Qml:(sizeLine:Nat)<2^63:=by rw [sizeLine_eq];decide
theorem Qgz {x:V} {us:List Value} (r:Vals [x] us):∃ u,us=[u]∧RelV x u:=by
 cases r with
 | cons r1 r2=>cases r2;exact ⟨_,rfl,r1⟩
theorem Qrv {x y:V} {us:List Value} (r:Vals [x,y] us):∃ u w',us=[u,w']∧RelV x u∧RelV y w':=by
 cases r with
 | cons r1 r2 =>
  cases r2 with
  | cons r3 r4=>cases r4;exact ⟨_,_,rfl,r1,r3⟩
theorem Qzf:CallR X (.builtin "abs") (fun xs H Q=>∃ i,xs=[.int i]∧Q (.int (if i<0 then -i else i)) H):=by
 intro pins s σ H xs us Q I r h
 obtain ⟨i,rfl,q⟩:=h
 obtain ⟨u,rfl,t,rfl⟩:=Qgz r
 exact call_abs_int fun u tk=>⟨.int (if i<0 then -i else i),H,I.tok _,⟨_,rfl⟩,q⟩
theorem Qxp (hc:X.calm=true):CallR X (.builtin "max") (fun xs H Q=>∃ i j,xs=[.int i,.int j]∧Q (.int (if j>i then j else i)) H):=by
 intro pins s σ H xs us Q I r h
 obtain ⟨i,j,rfl,q⟩:=h
 obtain ⟨u,w',rfl,⟨t,rfl⟩,⟨t',rfl⟩⟩:=Qrv r
 refine max_two_ints (I.ok.hd hc) fun h' tk k=>⟨_,H,I.kept k,?_,q⟩
 by_cases hj:j>i
 ·rw [if_pos hj,if_pos hj];exact ⟨_,rfl⟩
 ·rw [if_neg hj,if_neg hj];exact ⟨_,rfl⟩
theorem Qxq (hc:X.calm=true):CallR X (.builtin "min") (fun xs H Q=>∃ i j,xs=[.int i,.int j]∧Q (.int (if j<i then j else i)) H):=by
 intro pins s σ H xs us Q I r h
 obtain ⟨i,j,rfl,q⟩:=h
 obtain ⟨u,w',rfl,⟨t,rfl⟩,⟨t',rfl⟩⟩:=Qrv r
 refine min_two_ints (I.ok.hd hc) fun h' tk k=>⟨_,H,I.kept k,?_,q⟩
 by_cases hj:j<i
 ·rw [if_pos hj,if_pos hj];exact ⟨_,rfl⟩
 ·rw [if_neg hj,if_neg hj];exact ⟨_,rfl⟩
theorem Qxr:CallR X (.type "int") (fun xs H Q=>(∃ i,xs=[.int i]∧Q (.int i) H)∨∃ k,xs=[.bl k]∧Q (.int (if k then 1 else 0)) H):=by
 intro pins s σ H xs us Q I r h
 rcases h with ⟨i,rfl,q⟩ | ⟨k,rfl,q⟩
 ·obtain ⟨u,rfl,t,rfl⟩:=Qgz r
  exact call_int_int ⟨.int i,H,I,⟨_,rfl⟩,q⟩
 ·obtain ⟨u,rfl,r1⟩:=Qgz r
  cases r1
  exact call_int_bool ⟨.int (if k then 1 else 0),H,I.tok _,⟨_,rfl⟩,q⟩
end
structure ObjM (h:Heap) (x dx C:Addr) (mA:Str→Option Value):Prop where
 obj:h.get? x=some (PySem.W.instObj C dx)
 ns:h.Ns1 dx mA
 ne:dx≠x
theorem Qxs {h:Heap} {dx:Addr} {mA:Str→Option Value} (n:h.Ns1 dx mA):∃ od,h.get? dx=some od∧∀ name,PySem.W.lookIn name od=some (mA name):=by
 obtain ⟨o,es,ep,ho,hd,hk,_,hm⟩:=n
 refine ⟨o,ho,fun name=>?_⟩
 have e:=hm name
 unfold nsFind findBy at e
 rw [←Array.find?_toList] at e
 unfold PySem.W.lookIn
 rw [hd]
 dsimp only
 split
 ·rename_i y q
  rw [q] at e
  exact congrArg some e
 ·rename_i q
  rw [q] at e
  have a:es.toList.any (·.refKey)=false:=by
   rw [List.any_eq_false]
   intro y hy
   obtain ⟨z,t,hkey⟩:=hk y (Array.mem_toList_iff.mp hy)
   simp [DictEntry.refKey,hkey]
  have a':¬ es.toList.any (·.refKey)=true:=by rw [a];exact Bool.false_ne_true
  rw [if_neg a']
  exact congrArg some e
theorem ObjM.look {h:Heap} {x dx C:Addr} {mA:Str→Option Value} (I:ObjM h x dx C mA):∃ od,PySem.W.InstAt h x (PySem.W.instObj C dx) C (some od)∧∀ name,PySem.W.lookIn name od=some (mA name) :=
 let ⟨od,ho,hl⟩:=Qxs I.ns
 ⟨od,⟨I.obj,rfl,rfl,ho⟩,hl⟩
section
variable {prog:Program} {w:World} {A:Around} {E:Value→Shared→Prop} {s:Shared} {K:PySem.W.Frag} {x dx C f:Addr} {mA:Str→Option Value} {name:Str} {v:Value}
end
section
variable {P:Program} {w:World} {H H':Hp} {h h':Heap} {a C dx:Addr} {fs fs':List (Str×V)}
theorem Q3f (hok:HOk P w H h) (e:H a=some (.ins C dx fs)):∃ mA,ObjM h a dx C mA∧(∀ f,Q7w (fs.lookup f) (mA f))∧PySem.Within mA (fs.map (·.1))∧fs.length≤1000∧H dx=some (.own a):=by
 obtain ⟨d,z,ne,ob,mA,n,r,q⟩:=(show ObjOk P w H h a (.ins C dx fs) from hok a _ e)
 exact ⟨mA,⟨ob,n,ne⟩,r,q,z,d⟩
end
structure Cls (K:PySem.W.Frag) (C:Addr):Prop where
 pg:PySem.W.plainGet K C Str.empty=true
 hd:PySem.W.hasDictIn K C=true
 po:PySem.W.plainOver K C=true
 sa:PySem.W.findIn K (.ref C) "__setattr__" = some (some (.builtin "object.__setattr__"))
theorem Cls.get {K:PySem.W.Frag} {C:Addr} (c:Cls K C) (f:Str):PySem.W.plainGet K C f=true:=c.pg
structure Con (K:PySem.W.Frag) (C:Addr) (f:Str) (v:V) (u:Value):Prop where
 at_:PySem.W.findIn K (.ref C) f=some (some u)
 rel:RelV v u
 get:PySem.W.specialIn K u "__get__" = some none
 cp:PySem.W.copiedNames.contains f=false
structure Meth (K:PySem.W.Frag) (C:Addr) (m:Str) (f:Addr):Prop where
 at_:PySem.W.findIn K (.ref C) m=some (some (.ref f))
 fn:PySem.W.isFn K (.ref f)=true
 kp:PySem.W.keepIn K (.ref f)=true
section
variable {X:Cx} {pins:List (Addr×Obj)} {σ:St} {H:Hp} {s:Shared} {a C dx:Addr} {fs:List (Str×V)} {f:Str} {v:V} {A:Around} {E:Value→Shared→Prop}
end
section
variable {X:Cx} {o e value:Expr} {f:Str} {pos pos' tpos:Pos} {ta tv:TE}
end
section
variable {X:Cx} {pins:List (Addr×Obj)} {σ:St} {H:Hp} {s:Shared} {A:Around} {E:Value→Shared→Prop} {Q:Value→Shared→Prop} {c:Value} {b:Bool}
inductive TyOf (K:PySem.W.Frag) (H:Hp):V→Value→Prop where
 | non:TyOf K H .non (.type "NoneType")
 | bl (x:Bool):TyOf K H (.bl x) (.type "bool")
 | int (i:Int):TyOf K H (.int i) (.type "int")
 | str (x:Str):TyOf K H (.str x) (.type "str")
 | flt (x:UInt64):TyOf K H (.flt x) (.type "float")
 | lst {a:Addr} {xs:List V} (e:H a=some (.lst xs)):TyOf K H (.ref a) (.type "list")
 | frz {a:Addr} {o:Obj} {xs:List V} (e:H a=some (.frz o (.lst xs))):TyOf K H (.ref a) (.type "list")
 | tup {a:Addr} {xs:List V} (e:H a=some (.tup xs)):TyOf K H (.ref a) (.type "tuple")
 | dK {a:Addr} {kvs:List (Key×V)} (e:H a=some (.dK kvs)):TyOf K H (.ref a) (.type "dict")
 | dT {a:Addr} {kvs:List (List Key×V)} (e:H a=some (.dT kvs)):TyOf K H (.ref a) (.type "dict")
 | ins {a C dx:Addr} {fs:List (Str×V)} (e:H a=some (.ins C dx fs)) (cl:Cls K C) (ha:PySem.W.findIn K (.ref C) "__class__" = some (some (.builtin "object.__class__")))
   (hn:PySem.W.specialIn K (.builtin "object.__class__") "__get__" = some (some (.builtin "getset_descriptor.__get__"))) (htk:PySem.W.takesIn K (.builtin "object.__class__")=some true)
   (hm:PySem.W.mroIn K C (.type "object")=some true):TyOf K H (.ref a) (.ref C)
theorem Qxt {x:V} {u t:Value} (I:Inv X pins σ H s) (rx:RelV x u) (ty:TyOf X.K H x t) (e:PySem.W.kitOne X.K t c=some b) (h:∀ tk,Q (.bool b) { s with toks:=tk }) :
  wpAny (model X.prog X.w) A (call (.builtin "isinstance") [u,c]) Q E s:=by
 cases ty with
 | non=>cases (show u=Value.none from rx);exact PySem.W.kia_one PySem.W.kitx_none I.kIn True.intro e (fun z=>nomatch z) h
 | bl y=>cases (show u=Value.bool y from rx);exact PySem.W.kia_one PySem.W.kitx_bool I.kIn True.intro e (fun z=>nomatch z) h
 | int i=>obtain ⟨t,q⟩:=(show ∃ t,u=Value.int i t from rx);cases q;exact PySem.W.kia_one PySem.W.kitx_int I.kIn True.intro e (fun z=>nomatch z) h
 | str y=>obtain ⟨t,q⟩:=(show ∃ t,u=Value.str y t from rx);cases q;exact PySem.W.kia_one PySem.W.kitx_str I.kIn True.intro e (fun z=>nomatch z) h
 | flt y=>obtain ⟨t,q⟩:=(show ∃ t,u=Value.float y t from rx);cases q;exact PySem.W.kia_one PySem.W.kitx_float I.kIn True.intro e (fun z=>nomatch z) h
 | @lst a xs ea =>
  cases (show u=Value.ref a from rx)
  obtain ⟨_,_,n,_,h1⟩:=(show ObjOk X.prog X.w H s.heap a (.lst xs) from I.hok a _ ea)
  exact PySem.W.kia_one PySem.W.kitx_list I.kIn ⟨_,h1,rfl⟩ e (fun z=>nomatch z) h
 | @frz a ob xs ea =>
  cases (show u=Value.ref a from rx)
  obtain ⟨_,_,_,n,_,h1⟩:=(show ObjOk X.prog X.w H s.heap a (.frz ob (.lst xs)) from I.hok a _ ea)
  exact PySem.W.kia_one PySem.W.kitx_list I.kIn ⟨_,h1,rfl⟩ e (fun z=>nomatch z) h
 | @tup a xs ea =>
  cases (show u=Value.ref a from rx)
  obtain ⟨_,_,_,p⟩:=(show ObjOk X.prog X.w H s.heap a (.tup xs) from I.hok a _ ea)
  obtain ⟨o,h1,h2,_⟩:=p
  exact PySem.W.kia_one PySem.W.kitx_tuple I.kIn ⟨o,h1,h2⟩ e (fun z=>nomatch z) h
 | @dK a kvs ea =>
  cases (show u=Value.ref a from rx)
  obtain ⟨_,_,vs,_,p⟩:=(show ObjOk X.prog X.w H s.heap a (.dK kvs) from I.hok a _ ea)
  obtain ⟨o,es,ep,h1,h2,_⟩:=p
  exact PySem.W.kia_one PySem.W.kitx_dict I.kIn ⟨o,h1,h2.1⟩ e (fun z=>nomatch z) h
 | @dT a kvs ea =>
  cases (show u=Value.ref a from rx)
  obtain ⟨_,_,xs,_,o,es,ep,h1,h2,_⟩:=(show ObjOk X.prog X.w H s.heap a (.dT kvs) from I.hok a _ ea)
  exact PySem.W.kia_one PySem.W.kitx_dict I.kIn ⟨o,h1,h2.1⟩ e (fun z=>nomatch z) h
 | @ins a C dx fs ea cl ha hn htk hm =>
  cases (show u=Value.ref a from rx)
  obtain ⟨mA,O,_⟩:=Q3f I.hok ea
  obtain ⟨od,J,_⟩:=O.look
  exact PySem.W.kia_one (PySem.W.kitx_own (cl.get _) cl.hd ha hn htk hm) I.kIn J e (fun z=>nomatch z) h
end
structure Room (k:Nat) (A:Around):Prop where
 hd:A.handled=none
 dp:A.depth+3*k+5<recursionLimit
 un:A.units+16*k+200<cLine
 gd:A.guards=some []
theorem Room.mono {j k:Nat} {A:Around} (r:Room k A) (h:j≤k):Room j A:=⟨r.hd,by have:=r.dp;omega,by have:=r.un;omega,r.gd⟩
theorem Room.deeper {k:Nat} {A:Around} (r:Room (k+1) A) (env:Env):Room k (A.deeper env) :=
 ⟨r.hd,by have:=r.dp;show A.depth+1+3*k+5<_;omega,by have:=r.un;show A.units+3+16*k+200<_;omega,r.gd⟩
theorem Room.depth {k:Nat} {A:Around} (r:Room k A):A.depth<recursionLimit:=by have:=r.dp;omega
theorem Room.units {k:Nat} {A:Around} (r:Room k A):A.units+64<cLine:=by have:=r.un;omega
noncomputable abbrev Qt0:TA:=fun _ H Q=>Q [] H
noncomputable abbrev Qjd (ta:TE) (tr:TA):TA:=fun σ H Q=>ta σ H fun x H1=>tr σ H1 fun xs H2=>Q (x::xs) H2
section
variable {X:Cx} {e:Expr} {es:List Expr} {te:TE} {t:TA} {pos:Pos}
theorem Q8r:PA X [] Qt0:=fun _ _ _ _ H Q I h=>Calls.spliced_nil ⟨[],H,I,.nil,h⟩
theorem Q3g (ha:PE X e te) (hr:PA X es t) (hs:starEach (e::es) X.env=(false,eval e X.env)::starEach es X.env:=by rfl):PA X (e::es) (Qjd te t):=by
 intro pos pins s σ H Q I h
 rw [hs]
 show wpAny _ _ (spliced ((false,eval e X.env)::backTo pos (starEach es X.env))) _ _ s
 refine Calls.spliced_cons (thn (ha pins s σ H _ I h) fun u s1 ⟨x,H1,I1,r1,q1⟩=>?_)
 exact thn (hr pos pins s1 σ H1 _ I1 q1) fun us s2 ⟨xs,H2,I2,r2,q2⟩=>⟨x::xs,H2,I2,.cons r1 r2,q2⟩
noncomputable abbrev tTup (t:TA):TE:=fun σ H Q=>t σ H fun xs H1=>xs.length≤sizeLine∧∀ p,H1 p=none→Q (.ref p) (upd H1 p (.tup xs))
noncomputable abbrev tLst (t:TA):TE:=fun σ H Q=>t σ H fun xs H1=>xs.length≤sizeLine∧∀ p,H1 p=none→Q (.ref p) (upd H1 p (.lst xs))
theorem Q8s {x1} (h:PA X es t):PE X (.Tuple es x1 pos) (tTup t):=by
 intro pins s σ H Q I hq
 refine wpAny_Tuple_spliced (thn (h pos pins s σ H _ I hq) fun us s1 ⟨xs,H1,I1,r,z,q⟩=>⟨by rw [←r.length];exact z,?_⟩)
 have hf:H1 s1.heap.objs.size=none:=I1.hok.fresh (Nat.le_refl _)
 refine ⟨.ref s1.heap.objs.size,upd H1 s1.heap.objs.size (.tup xs),I1.laid (t':=s1.toks) (fun b u e=>Heap.get?_push_of_some _ e) (Nat.le_refl _) ?_,rfl,q _ hf⟩
 exact ⟨z,us,r,⟨_,Heap.get?_push_size _ rfl,rfl,_,rfl,rfl⟩⟩
theorem Q8t (h:PA X es t):PE X (.List es pos) (tLst t):=by
 intro pins s σ H Q I hq
 refine wpAny_List_spliced (thn (h pos pins s σ H _ I hq) fun us s1 ⟨xs,H1,I1,r,z,q⟩=>⟨by rw [←r.length];exact z,?_⟩)
 have hf:H1 s1.heap.objs.size=none:=I1.hok.fresh (Nat.le_refl _)
 refine ⟨.ref s1.heap.objs.size,upd H1 s1.heap.objs.size (.lst xs),I1.laid (t':=s1.toks) (fun b u e=>Heap.get?_push_of_some _ e) (Nat.le_refl _) ?_,rfl,q _ hf⟩
 exact ⟨z,us,0,r,Heap.get?_push_size _ rfl⟩
end
noncomputable abbrev Sp:=List V→Hp→VK→XK→Prop
noncomputable abbrev CXT:=List Env→Hp→Shared→XK→Value→Shared→Prop
structure Env0 (P:Program) (w:World) (K:PySem.W.Frag) (mg:Str→Option Value) (base:Heap) (A:Around) (outer:List Env) (s:Shared) (H:Hp):Prop where
 frames:A.frames=some outer
 mod:Mod K mg base
 bs:∀ b o,base.get? b=some o→s.heap.get? b=some o∧H b=none
 bsz:base.objs.size≤s.heap.objs.size
 funs:s.heap.FunFrames base outer
 frf:(∀ b∈frs outer,H b=none)∧Qy4 K H
 hok:HOk P w H s.heap
 bare:AllBare s.gens
noncomputable def CE (outer:List Env) (P:Program) (w:World) (H:Hp) (s:Shared) (Q:VK) (u:Value) (s':Shared):Prop :=
 ∃ v H',s'.os=s.os∧AllBare s'.gens∧Un (frs outer) [] H H' s.heap s'.heap∧HOk P w H' s'.heap∧RelV v u∧Q v H'
noncomputable def CR (CX:CXT) (outer:List Env) (P:Program) (w:World) (H:Hp) (s:Shared) (Q:VK) (E:XK) (r:Result) (s':Shared):Prop :=
 match r with
 | .ok (.ret u)=>CE outer P w H s Q u s'
 | .ok _=>False
 | .error e=>CX outer H s E e s'
structure FnOk (P:Program) (w:World) (K:PySem.W.Frag) (mg:Str→Option Value) (base:Heap) (CX:CXT) (k:Nat) (f:Addr) (fd:FuncData) (ps:List Str) (sp:Sp):Prop where
 len:∀ vs H Q E,sp vs H Q E→vs.length=ps.length
 run:∀ (A:Around) (outer:List Env) (s:Shared) (H:Hp) (args:Args) (us:List Value) (vs:List V) (Q:VK) (E:XK),Room k A→Env0 P w K mg base A outer s H→BindsTo s fd args (ps.zip us)→Vals vs us→sp vs H Q E →
  codeAny (model P w) A (.call (.ref f) args) (CR CX outer P w H s Q E) s
theorem FnOk.mono {P:Program} {w:World} {K:PySem.W.Frag} {mg:Str→Option Value} {base:Heap} {CX:CXT} {j k:Nat} {f:Addr} {fd:FuncData} {ps:List Str} {sp:Sp} (F:FnOk P w K mg base CX j f fd ps sp) (h:j≤k) :
  FnOk P w K mg base CX k f fd ps sp:=⟨F.len,fun A outer s H args us vs Q E hr=>F.run A outer s H args us vs Q E (hr.mono h)⟩
theorem Env0.in1 {P:Program} {w:World} {K:PySem.W.Frag} {mg:Str→Option Value} {base:Heap} {A:Around} {outer:List Env} {s:Shared} {H:Hp} (e:Env0 P w K mg base A outer s H) :
  Env0 P w K mg base A.in1 outer s H:=⟨e.frames,e.mod,e.bs,e.bsz,e.funs,e.frf,e.hok,e.bare⟩
section
variable {X:Cx} {pins:List (Addr×Obj)} {σ:St} {H:Hp} {s s':Shared}
theorem Inv.env0 (I:Inv X pins σ H s):Env0 X.prog X.w X.K X.mg X.base X.A X.stack s H :=
 ⟨I.ok.frames,I.ok.mod,I.bs,Nat.le_trans I.ok.bsz I.sz,I.stack,⟨I.stkFree,I.tab⟩,I.hok,I.bare⟩
theorem Inv.after {Q:VK} {u:Value} (I:Inv X pins σ H s) (h:CE X.stack X.prog X.w H s Q u s'):EP X pins σ Q u s':=by
 obtain ⟨v,H',os,bare,un,hok,r,q⟩:=h
 obtain ⟨hh,g,d,t,os'⟩:=s'
 obtain rfl:os'=s.os:=os
 exact ⟨v,H',I.call (h':=hh) (g':=g) (d':=d) (t':=t) (ch:=[]) un hok bare (fun b z=>absurd z (by simp)),r,q⟩
end
noncomputable abbrev Qvx (sp:Sp) (dvs:List V) (E:XK) (t:TA):TE:=fun σ H Q=>t σ H fun vs H1=>sp (vs++dvs) H1 Q E
noncomputable def Binds (K:PySem.W.Frag) (fd:FuncData) (ps:List Str) (ds:List Value):Prop :=
 ∀ (s:Shared) (us:List Value),K.In s.heap→(us++ds).length=ps.length→BindsTo s fd ⟨us,[]⟩ (ps.zip (us++ds))
theorem Binds.all {K:PySem.W.Frag} {fd:FuncData} {ps:List Str} (h:∀ us:List Value,us.length=ps.length→bindArgs fd ⟨us,[]⟩=pure (ps.zip us)):Binds K fd ps []:=fun s us _ hl=>by
 rw [append_nil] at hl ⊢
 exact .of_eq (h us hl)
noncomputable def Qt1 (CX:CXT) (X:Cx) (E:XK):Prop:=∀ (pins:List (Addr×Obj)) (σ:St) (H:Hp) (s:Shared) (e:Value) (s':Shared),Inv X pins σ H s→CX X.stack H s E e s'→X.xe e s'
section
variable {X:Cx} {CX:CXT} {k:Nat} {f C:Addr} {fd:FuncData} {ps:List Str} {sp:Sp} {dvs:List V} {ds:List Value} {E:XK} {x m:Str} {p pos apos:Pos} {e o:Expr} {es:List Expr} {ta:TE} {t:TA}
theorem Q8u {pins:List (Addr×Obj)} {σ:St} {H:Hp} {s:Shared} {Q:VK} {us:List Value} {vs:List V} (F:FnOk X.prog X.w X.K X.mg X.base CX k f fd ps sp) (hr:Room k X.A) (hb:Binds X.K fd ps ds) (hd:Vals dvs ds) (hx:Qt1 CX X E)
  (I:Inv X pins σ H s) (r:Vals vs us) (h:sp (vs++dvs) H Q E):wpAny (model X.prog X.w) X.A (call (.ref f) us) (EP X pins σ Q) X.xe s:=by
 have r2:Vals (vs++dvs) (us++ds):=r.append hd
 have hl:(us++ds).length=ps.length:=by rw [←r2.length];exact F.len _ _ _ _ h
 refine wpAny_call (codeAny_mono (F.run X.A X.stack s H ⟨us,[]⟩ (us++ds) (vs++dvs) Q E hr I.env0 (hb s us I.kIn hl) r2 h) fun r s' hq=>?_)
 cases r with
 | error e=>exact hx pins σ H s e s' I hq
 | ok fl =>
  cases fl with
  | ret u=>exact I.after hq
  | next=>exact False.elim hq
  | brk=>exact False.elim hq
  | cont=>exact False.elim hq
theorem Q3h (F:FnOk X.prog X.w X.K X.mg X.base CX k f fd ps sp) (hr:Room k X.A) (hg:Gl X x) (hm:X.mg x=some (.ref f)) (hk:PySem.W.keepIn X.K (.ref f)=true) (hb:Binds X.K fd ps ds) (hd:Vals dvs ds) (hx:Qt1 CX X E)
  (ha:PA X (e::es) t) (hdb:(x==("__debug__" : Str))=false:=by decide) (he:starEach (e::es) X.env=(false,eval e X.env)::starEach es X.env:=by rfl) (hpl:(backTo pos (starEach es X.env)).any (·.1)=false:=by rfl) :
  PE X (.Call (.Name x p) (e::es) [] pos) (Qvx sp dvs E t):=by
 intro pins s σ H Q I h
 refine wpAny_Call_Name_kw (Qqa I hg hm ?_ hdb)
 refine PySem.W.callWith_K (h₀:=X.base) I.ok.mod.kin hk (thn (ha pos pins s σ H _ I h) fun us s1 ⟨vs,H1,I1,r,q⟩=>⟨I1.kIn,?_⟩) he hpl
 exact Q8u F hr hb hd hx I1 r q
structure Mk (K:PySem.W.Frag) (C f:Addr):Prop where
 makes:PySem.W.makesIn K C=true
 init:PySem.W.findIn K (.ref C) "__init__" = some (some (.ref f))
 fn:PySem.W.isFn K (.ref f)=true
 kp:PySem.W.keepIn K (.ref C)=true
end
noncomputable def PK (X:Cx) (kws:List Keyword) (t:TA):Prop :=
 ∀ (pos:Pos) (pins:List (Addr×Obj)) (s:Shared) (σ:St) (H:Hp) (Q:List V→Hp→Prop),Inv X pins σ H s→t σ H Q→wpAny (model X.prog X.w) X.A (evalAll ((backToKw pos (keywordEach kws X.env)).map (·.2))) (AP X pins σ Q) X.xe s
section
variable {X:Cx} {CX:CXT} {k:Nat} {f C:Addr} {fd:FuncData} {ps ks:List Str} {sp:Sp} {E:XK} {x m:Str} {p pos apos kpos:Pos} {e o:Expr} {es:List Expr} {kws:List Keyword} {te ta:TE} {t tk:TA} {nm:Option Str}
theorem Q8v:PK X [] Qt0:=fun _ _ _ _ H Q I h=>wpAny_evalAll_nil ⟨[],H,I,.nil,h⟩
theorem Qvy (ha:PE X e te) (hr:PK X kws t):PK X (⟨nm,e,kpos⟩::kws) (Qjd te t):=by
 intro pos pins s σ H Q I h
 show wpAny _ _ (evalAll ((do let v ← eval e X.env;standAt pos;pure v)::(backToKw pos (keywordEach kws X.env)).map (·.2))) _ _ s
 refine wpAny_evalAll_cons (wpAny_bind (thn (ha pins s σ H _ I h) fun u s1 ⟨x,H1,I1,r1,q1⟩=>wpAny_bind (wpAny_standAt (wpAny_pure ?_))))
 exact thn (hr pos pins s1 σ H1 _ I1 q1) fun us s2 ⟨xs,H2,I2,r2,q2⟩=>⟨x::xs,H2,I2,.cons r1 r2,q2⟩
structure KBinds (K:PySem.W.Frag) (fd:FuncData) (ps ks:List Str) (g:List Value→List Value→List Value) (gV:List V→List V→List V):Prop where
 to:∀ (s:Shared) (us ws:List Value),K.In s.heap→(g us ws).length=ps.length→BindsTo s fd ⟨us,ks.zip ws⟩ (ps.zip (g us ws))
 rel:∀ {vs:List V} {us:List Value} {zs:List V} {ws:List Value},Vals vs us→Vals zs ws→Vals (gV vs zs) (g us ws)
variable {g:List Value→List Value→List Value} {gV:List V→List V→List V}
end
structure FnScope (N P:List Str) (sc:Scope):Prop where
 kind:sc.kind=.function
 co:sc.isCoroutine=false
 gen:sc.isGenerator=false
 nd:N.Nodup
 pre:N.take P.length=P
 par:∀ x∈P,sc.names.lookup x=some .local∨sc.names.lookup x=some .cell
 nofree:∀ y∈sc.names,y.2≠.free
theorem Qo6 {kindOf:Str→Option NameKind} {x:Str}:∀ {binds:List (Str×Value)} {m:Str→Option Value},(∀ v,(x,v)∉binds)→bindL kindOf binds m x=m x
 | [],_,_=>rfl
 | (n,v)::r,m,h=>by
  unfold bindL
  rw [Qo6 fun w hw=>h w (mem_cons_of_mem _ hw)]
  split
  ·have:x≠n:=by rintro rfl;exact h v mem_cons_self
   simp [this]
  ·rfl
theorem Qo7 {kindOf:Str→Option NameKind} {x:Str}:∀ {binds:List (Str×Value)} {m:Str→Option Value},(∀ v,(x,v)∉binds)→bindC kindOf binds m x=m x
 | [],_,_=>rfl
 | (n,v)::r,m,h=>by
  unfold bindC
  rw [Qo7 fun w hw=>h w (mem_cons_of_mem _ hw)]
  split
  ·rfl
  ·have:x≠n:=by rintro rfl;exact h v mem_cons_self
   simp [this]
theorem Qo8 {kindOf:Str→Option NameKind} {x:Str} {v:Value}:∀ {P:List Str} {vs:List Value} {i:Nat} {m:Str→Option Value},P.Nodup→P[i]?=some x→vs[i]?=some v→kindOf x=some .local →
  bindL kindOf (P.zip vs) m x=some v
 | [],_,_,_,_,h,_,_=>by simp at h
 | _::_,[],_,_,_,_,h,_=>by simp at h
 | p::P,w::vs,0,m,nd,h1,h2,hk=>by
  simp at h1 h2;subst h1;subst h2
  show bindL kindOf ((p,w)::P.zip vs) m p=_
  unfold bindL
  rw [Qo6 fun v hv=>(nodup_cons.mp nd).1 (List.of_mem_zip hv).1,if_pos hk]
  simp
 | p::P,w::vs,i+1,m,nd,h1,h2,hk=>by
  show bindL kindOf ((p,w)::P.zip vs) m x=_
  unfold bindL
  exact Qo8 (i:=i) (nodup_cons.mp nd).2 (by simpa using h1) (by simpa using h2) hk
theorem Qo9 {kindOf:Str→Option NameKind} {x:Str} {v:Value}:∀ {P:List Str} {vs:List Value} {i:Nat} {m:Str→Option Value},P.Nodup→P[i]?=some x→vs[i]?=some v→kindOf x≠some .local →
  bindC kindOf (P.zip vs) m x=some v
 | [],_,_,_,_,h,_,_=>by simp at h
 | _::_,[],_,_,_,_,h,_=>by simp at h
 | p::P,w::vs,0,m,nd,h1,h2,hk=>by
  simp at h1 h2;subst h1;subst h2
  show bindC kindOf ((p,w)::P.zip vs) m p=_
  unfold bindC
  rw [Qo7 fun v hv=>(nodup_cons.mp nd).1 (List.of_mem_zip hv).1,if_neg hk]
  simp
 | p::P,w::vs,i+1,m,nd,h1,h2,hk=>by
  show bindC kindOf ((p,w)::P.zip vs) m x=_
  unfold bindC
  exact Qo9 (i:=i) (nodup_cons.mp nd).2 (by simpa using h1) (by simpa using h2) hk
noncomputable def Qcr (N:List Str) (vs:List V):St:=vs.map some++List.replicate (N.length-vs.length) none
noncomputable def Qif (g:Str→Bool) (CX:CXT) (P:Program) (w:World) (K:PySem.W.Frag) (mg:Str→Option Value) (base:Heap) (N:List Str) (qual:Str) (scope:Scope) (f:Addr) (cd:Value) (A:Around) (outer:List Env) (s:Shared) (H:Hp) (E:XK):Cx where
 prog:=P
 w:=w
 K:=K
 mg:=mg
 base:=base
 A:=A.deeper (envOfC qual scope s.heap.objs.size f cd)
 N:=N
 s₀:=s
 H₀:=H
 env:=envOfC qual scope s.heap.objs.size f cd
 outer:=outer
 stack:=envOfC qual scope s.heap.objs.size f cd::outer
 ex:=[]
 calm:=true
 fn:=g
 pn:=[]
 xe:=fun e s'=>wpAny (model P w) (A.deeper (envOfC qual scope s.heap.objs.size f cd)) (leaving (envOfC qual scope s.heap.objs.size f cd) e) (fun _ s''=>CX outer H s E e s'') (fun e' s''=>CX outer H s E e' s'') s'
theorem Qrw {sc:Scope} {n:Nat} {x:Str} (h:sc.names.lookup x=some .cell):∃ c,(cellsFrom n sc.names []).lookup x=some c:=by
 have q:=PySem.W.cellsFrom_some sc.names n [] (.inl h)
 exact Option.isSome_iff_exists.mp q
theorem Qxu {g:Str→Bool} {CX:CXT} {P:Program} {w:World} {K:PySem.W.Frag} {mg:Str→Option Value} {base:Heap} {N ps:List Str} {qual:Str} {scope:Scope} {f:Addr} {cd:Value} {A:Around} {outer:List Env} {s s1:Shared} {H:Hp} {E:XK} {us:List Value} {vs:List V}
  (S:FnScope N ps scope) (hd:A.handled=none) (e0:Env0 P w K mg base A outer s H) (hl:vs.length=ps.length) (r:Vals vs us)
  (x:InCallC s s.heap.objs.size (bindL (envOfC qual scope s.heap.objs.size f cd).kindOf (ps.zip us) fun _=>none) (cellsFrom (s.heap.objs.size+1) scope.names []) (bindC (envOfC qual scope s.heap.objs.size f cd).kindOf (ps.zip us) fun _=>none) s1) :
  Inv (Qif g CX P w K mg base N qual scope f cd A outer s H E) [] (Qcr N vs) H s1:=by
 have hpl:ps.length≤N.length:=by have:=congrArg List.length S.pre;rw [length_take] at this;omega
 obtain ⟨h1,tk,rfl,hk⟩:=x.done
 have noA:∀ b:Addr,b∉(Qif g CX P w K mg base N qual scope f cd A outer s H E).ex:=fun b z=>absurd (show b∈([]:List Addr) from z) (by simp)
 refine ⟨⟨e0.mod,S.kind,rfl,rfl,Nat.le_refl _,fun y z c h1 h2=>?_,fun y hy=>?_,fun y c _ h=>?_,fun _=>hd,Around.frames_deeper e0.frames,.inr ⟨rfl,rfl⟩,fun b z=>absurd z (noA b),e0.bs,e0.bsz,fun b _ _=>noA b,fun b z=>absurd z (noA b),e0.funs,e0.frf⟩,
  rfl,e0.bare,Un.kept hk,⟨_,x.toInCall.ns,fun i y v h1 h2 h3=>?_⟩,fun y c h=>⟨_,x.cell y c h⟩,e0.hok.fresh (Nat.le_refl _),fun y c h=>?_,fun p hp=>absurd (show p∈([]:List (Addr×Obj)) from hp) (by simp),e0.hok.kept hk,?_⟩
 ·exact name_of_addr x.apart (PySem.mem_of_lookup h1) (PySem.mem_of_lookup h2)
 ·have hy:scope.names.lookup y=some .cell∨scope.names.lookup y=some .free:=hy
  rcases hy with hy | hy
  ·exact Qrw hy
  ·exact absurd rfl (S.nofree _ (PySem.mem_of_lookup hy))
 ·exact Nat.le_of_lt (x.above y c (PySem.mem_of_lookup h))
 ·have hi:i<vs.length:=by
   unfold Qcr at h2
   by_cases hi:i<vs.length
   ·exact hi
   ·rw [List.getElem?_append_right (by simpa using hi)] at h2
    rw [getElem?_replicate] at h2
    split at h2 <;> cases h2
  have ha:vs[i]?=some v:=by
   unfold Qcr at h2
   rw [List.getElem?_append_left (by simpa using hi),getElem?_map] at h2
   cases e:vs[i]? with
   | none=>rw [e] at h2;cases h2
   | some a=>rw [e] at h2;cases h2;rfl
  obtain ⟨u,hu,rv⟩:=r.get ha
  have hp:ps[i]?=some y:=by
   rw [←S.pre,List.getElem?_take_of_lt (by omega)];exact h1
  have ndP:ps.Nodup:=by rw [←S.pre];exact S.nd.sublist (List.take_sublist _ _)
  refine ⟨u,rv,?_⟩
  rcases S.par y (mem_of_getElem? hp) with k | k
  ·exact .inl ⟨k,Qo8 ndP hp hu k⟩
  ·obtain ⟨c,e⟩:=Qrw (n:=s.heap.objs.size+1) k
   refine .inr ⟨.inl k,c,e,?_⟩
   have q:=x.cell y c e
   rw [Qo9 ndP hp hu (by show scope.names.lookup y≠_;rw [k];decide)] at q
   exact q
 ·exact .inl (e0.hok.fresh (Nat.le_of_lt (x.above y c (PySem.mem_of_lookup h))))
 ·unfold Qcr
  show _=N.length
  rw [length_append,length_map,length_replicate]
  omega
theorem Q6i {g:Str→Bool} {CX:CXT} {P:Program} {w:World} {K:PySem.W.Frag} {mg:Str→Option Value} {base:Heap} {k:Nat} {f:Addr} {name qual:Str} {params:Arguments} {body:List Stmt} {scope:Scope} {dV kV doc pm cdv ct oc:Value} {an od:Option Addr}
  {osl:Array (Option Value)} {N ps:List Str} {sp:Sp} (lk:K.lookup f=some ⟨oc,od,.func (PySem.W.fnOf name qual params body scope dV kV doc pm an cdv ct),osl⟩) (hcd:PySem.W.codeIn K cdv qual=true) (S:FnScope N ps scope)
  (len:∀ vs H Q E,sp vs H Q E→vs.length=ps.length)
  (hbody:∀ (A:Around) (outer:List Env) (s:Shared) (H:Hp) (vs:List V) (Q:VK) (E:XK),Room k (A.deeper (envOfC qual scope s.heap.objs.size f cdv))→sp vs H Q E →
   ∃ t,PSs (Qif g CX P w K mg base N qual scope f cdv A outer s H E) body t∧t { nx:=fun _ H'=>Q .non H',rt:=Q } (Qcr N vs) H) :
  FnOk P w K mg base CX (k+1) f (PySem.W.fnOf name qual params body scope dV kV doc pm an cdv ct) ps sp:=by
 refine ⟨len,fun A outer s H args us vs Q E hr e0 hb r hsp=>?_⟩
 have hl:=len _ _ _ _ hsp
 have KX:K.In s.heap:=e0.mod.kin.keeps fun b o e=>(e0.bs b o e).1
 have lim:s.heap.NoLimit:=e0.mod.nolimit.keeps fun b o e=>(e0.bs b o e).1
 have hkind:∀ y∈ps.zip us,scope.names.lookup y.1=some .local∨(scope.names.lookup y.1=some .cell∧((cellsFrom (s.heap.objs.size+1) scope.names []).lookup y.1).isSome=true):=fun zz1 hy=>by
  obtain ⟨n,v⟩:=zz1
  rcases S.par n (List.of_mem_zip hy).1 with q | q
  ·exact .inl q
  ·exact .inr ⟨q,PySem.W.cellsFrom_some _ _ _ (.inl q)⟩
 refine codeAny_call_function hr.depth (KX _ _ lk) rfl S.co S.gen rfl (PySem.W.codeRec_of KX hcd) (hb _ _ _ _ ?_)
 refine wpAny_newFunctionEnv_cells S.kind hkind fun env he s1 x=>?_
 subst he
 refine ⟨lim.keeps x.toInCall.keep,codeAny_func ?_⟩
 obtain ⟨t,ht,hq⟩:=hbody A outer s H vs Q E (hr.deeper _) hsp
 have I:Inv (Qif g CX P w K mg base N qual scope f cdv A outer s H E) [] (Qcr N vs) H s1:=Qxu S hr.hd e0 hl r x
 refine wpAny_mono (ht [] s1 (Qcr N vs) H _ I hq) (fun fl s' hs=>?_) fun e s' hs=>hs
 have fin:∀ {σ':St} {H':Hp} {v:V} {u:Value},Inv (Qif g CX P w K mg base N qual scope f cdv A outer s H E) [] σ' H' s'→RelV v u→Q v H'→CE outer P w H s Q u s' :=
  fun {σ' H' v u} J rv q=>⟨v,H',J.os,J.bare,J.base,J.hok,rv,q⟩
 cases fl with
 | ret u =>
  obtain ⟨v,σ',H',J,rv,q⟩:=hs
  exact fin J rv q
 | next =>
  obtain ⟨σ',H',J,q⟩:=hs
  exact fin (v:=V.non) (u:=Value.none) J rfl q
 | brk =>
  obtain ⟨_,_,_,q⟩:=hs
  exact False.elim q
 | cont =>
  obtain ⟨_,_,_,q⟩:=hs
  exact False.elim q
section
variable {X:Cx} {x:Str} {p pos:Pos} {e:Expr} {es:List Expr} {t:TA} {id T:String} {r:List V→Hp→VK→Prop}
noncomputable abbrev tCB (r:List V→Hp→VK→Prop) (t:TA):TE:=fun σ H Q=>t σ H fun vs H1=>r vs H1 Q
theorem Qzg (hc:CallR X (.builtin id) r) (hg:Gl X x) (hm:X.mg x=none) (hv:bootBuiltins x=some (.builtin id)) (ha:PA X (e::es) t) (hn:x ≠ "__name__" := by decide) (hdb:(x==("__debug__" : Str))=false:=by decide)
  (he:starEach (e::es) X.env=(false,eval e X.env)::starEach es X.env:=by rfl) (hpl:(backTo pos (starEach es X.env)).any (·.1)=false:=by rfl):PE X (.Call (.Name x p) (e::es) [] pos) (tCB r t):=by
 intro pins s σ H Q I h
 refine wpAny_Call_Name_kw (Qmk I hg hm hv ?_ hn hdb)
 exact PyProof.Rows.callWith_builtin1 (thn (ha pos pins s σ H _ I h) fun us s1 ⟨vs,H1,I1,r1,q1⟩=>hc pins s1 σ H1 vs us Q I1 r1 q1) he hpl
theorem Qxv (hc:CallR X (.type T) r) (hg:Gl X x) (hm:X.mg x=none) (hv:bootBuiltins x=some (.type T)) (ha:PA X (e::es) t) (hn:x ≠ "__name__" := by decide) (hdb:(x==("__debug__" : Str))=false:=by decide)
  (he:starEach (e::es) X.env=(false,eval e X.env)::starEach es X.env:=by rfl) (hpl:(backTo pos (starEach es X.env)).any (·.1)=false:=by rfl):PE X (.Call (.Name x p) (e::es) [] pos) (tCB r t):=by
 intro pins s σ H Q I h
 refine wpAny_Call_Name_kw (Qmk I hg hm hv ?_ hn hdb)
 exact PyProof.Rows.callWith_type1 (thn (ha pos pins s σ H _ I h) fun us s1 ⟨vs,H1,I1,r1,q1⟩=>hc pins s1 σ H1 vs us Q I1 r1 q1) he hpl
end
end L2
namespace HT
open PySem PyProof.Rows
section
open PySem.SeqAt
open PySem.AutoSeq1 (wpAny_loadPart')
open PySem.MeetsSeq PySem.MeetsSeq2 PySem.MeetsSeq3
end
section
variable {prog:Program} {w:World} {A:Around} {E:Value→Shared→Prop} {s:Shared}
theorem cat_tup {t b:Addr} {vs ws:List Value} {Q:Value→Shared→Prop} (ht:IsTup s.heap t vs.toArray) (hb:IsTup s.heap b ws.toArray) (hv:vs≠[])
  (h1:ws=[]→Q (.ref t) s) (h2:ws≠[]→Q (.ref s.heap.objs.size) { s with heap:=s.heap.push { cls:=.type "tuple",data:=.seq (vs++ws).toArray } })
  (hsz:vs.length+ws.length≤sizeLine):wpAny (model prog w) A (binaryOp .Add (.ref t) (.ref b)) Q E s:=by
 obtain ⟨⟨cls,dd,data,sl⟩,ho,hc,n,hd⟩:=id ht
 obtain ⟨⟨cls2,dd2,data2,sl2⟩,ho2,hc2,n2,hd2⟩:=id hb
 simp only at hc hd hc2 hd2
 subst hc hd hc2 hd2
 have e:vs.toArray++ws.toArray=(vs++ws).toArray:=by simp
 by_cases hw:ws=[]
 ·exact concat_meets ⟨_,ho,rfl⟩ ⟨_,ho2,rfl⟩ noFill_tuple_add seq_tuple_add PySem.F.slot_tuple_add PySem.F.entry_tuple_add (PySem.F.args_tuple_add_2 _ _)
   (tuple_addW1 t b vs.toArray ws.toArray n n2 dd dd2 sl sl2 (by simpa using hv) (by simp [hw])) ⟨ho,ho2,h1 hw⟩
 ·refine concat_meets ⟨_,ho,rfl⟩ ⟨_,ho2,rfl⟩ noFill_tuple_add seq_tuple_add PySem.F.slot_tuple_add PySem.F.entry_tuple_add (PySem.F.args_tuple_add_2 _ _)
   (tuple_addW2 t b vs.toArray ws.toArray n n2 dd dd2 sl sl2 (by simpa using hv) (by simpa using hw) (by rw [size_toArray,size_toArray];exact hsz)) ⟨ho,ho2,?_⟩
  rw [e]
  exact h2 hw
noncomputable def sIx (n d:Nat):Option Int→Nat
 | none=>d
 | some v=>if v<0 then (v+(n:Int)).toNat else min v.toNat n
theorem sIx_none (n d:Nat):sIx n d none=d:=rfl
theorem sIx_nat (n d k:Nat):sIx n d (some (k:Int))=min k n:=by
 show (if (k:Int)<0 then ((k:Int)+(n:Int)).toNat else min (k:Int).toNat n)=min k n
 rw [if_neg (by omega),Int.toNat_natCast]
theorem sIx_le (n d:Nat) (hd:d≤n) (o:Option Int):sIx n d o≤n:=by
 cases o with
 | none=>exact hd
 | some v =>
  show (if v<0 then (v+(n:Int)).toNat else min v.toNat n)≤n
  by_cases hv:v<0
  ·rw [if_pos hv];omega
  ·rw [if_neg hv];exact Nat.min_le_right _ _
theorem clip_eq (v:Int) (n d:Nat):(if v<0 then max (v+(n:Int)) 0 else min v (n:Int))=((sIx n d (some v):Nat):Int):=by
 show (if v<0 then max (v+(n:Int)) 0 else min v (n:Int))=(((if v<0 then (v+(n:Int)).toNat else min v.toNat n):Nat):Int)
 by_cases hv:v<0
 ·simp only [if_pos hv];omega
 ·simp only [if_neg hv];omega
theorem adjust_gen (lo hi:Option Int) (n:Nat):Builtin.Slice.sliceAdjust lo hi 1 (n:Int)=(((sIx n 0 lo:Nat):Int),((sIx n n hi:Nat):Int)):=by
 have h1:¬ ((1:Int)<0):=by omega
 unfold Builtin.Slice.sliceAdjust
 simp only [h1,if_false]
 refine Prod.ext ?_ ?_
 ·cases lo with
  | none=>rfl
  | some v=>exact clip_eq v n 0
 ·cases hi with
  | none=>rfl
  | some v=>exact clip_eq v n n
theorem places_gen (i j:Nat):Builtin.Slice.slicePlaces (i:Int) (j:Int) 1=j-i:=by
 unfold Builtin.Slice.slicePlaces
 have h1:(1:Int)>0:=by omega
 simp only [h1,if_true,Int.ediv_one]
 split <;> omega
theorem slicePart_ {v:Value} {o:Option Int} {Q:Option Int→Shared→Prop} (p:IsPart v o) (h:Q o s):wpAny (model prog w) A (Builtin.Slice.slicePartIndex v) Q E s:=by
 cases p with
 | none=>exact slicePart_none h
 | int i t=>exact slicePart_int h
theorem sliceApplied_gen {sl:Addr} {vl vu:Value} {lo hi:Option Int} {n:Nat} {Q:Int×Int×Nat→Shared→Prop} (hs:s.heap.IsSliceOf sl vl vu .none) (pl:IsPart vl lo) (pu:IsPart vu hi)
  (h:Q (((sIx n 0 lo:Nat):Int),1,sIx n n hi-sIx n 0 lo) s):wpAny (model prog w) A (Builtin.Slice.sliceApplied (.ref sl) (pure (n:Int))) Q E s:=by
 obtain ⟨os,hos,hcs,hds⟩:=id hs
 unfold Builtin.Slice.sliceApplied Builtin.Slice.sliceFields
 refine wpAny_bind (wpAny_bind (wpAny_field hos hds (x:=vl) rfl (wpAny_bind (wpAny_field hos hds (x:=vu) rfl (wpAny_bind (wpAny_field hos hds (x:=.none) rfl (wpAny_pure ?_)))))))
 refine wpAny_bind (slicePart_none ?_)
 show wpAny _ _ (if ((1:Int)==0)=true then _ else _) _ _ s
 rw [if_neg (by decide)]
 refine wpAny_bind (slicePart_ pl (wpAny_bind (slicePart_ pu (wpAny_bind (wpAny_pure ?_)))))
 show wpAny _ _ (match Builtin.Slice.sliceAdjust lo hi 1 (n:Int) with | (lo,hi)=>pure (lo,(1:Int),Builtin.Slice.slicePlaces lo hi 1)) _ _ s
 rw [adjust_gen lo hi n]
 show wpAny _ _ (pure (((sIx n 0 lo:Nat):Int),(1:Int),Builtin.Slice.slicePlaces ((sIx n 0 lo:Nat):Int) ((sIx n n hi:Nat):Int) 1)) _ _ s
 rw [places_gen]
 exact wpAny_pure h
theorem pick_gen (xs:Array Value) (i k:Nat):((List.range k).filterMap fun (m:Nat)=>xs[((i:Int)+(m:Int)*1).toNat]?).toArray=((xs.toList.drop i).take k).toArray:=by
 have e:(fun (m:Nat)=>xs[((i:Int)+(m:Int)*1).toNat]?)=fun m=>xs[i+m]?:=by
  funext m
  have:((i:Int)+(m:Int)*1).toNat=i+m:=by omega
  rw [this]
 rw [e]
 have:=pick_run xs i k
 rw [List.filterMap_map] at this
 have e2:((fun x=>xs[x]?) ∘ fun x=>i+x)=fun m=>xs[i+m]?:=rfl
 rw [e2] at this
 rw [this]
theorem getItem_tuple_cut {t sl:Addr} {items:Array Value} {vl vu:Value} {lo hi:Option Int} {Q:Value→Shared→Prop} (ht:IsTup s.heap t items) (hs:s.heap.IsSliceOf sl vl vu .none) (pl:IsPart vl lo) (pu:IsPart vu hi)
  (hw:¬ (sIx items.size 0 lo=0∧sIx items.size items.size hi=items.size))
  (h:Q (.ref s.heap.objs.size) { s with heap:=s.heap.push { cls:=.type "tuple",data:=.seq ((items.toList.drop (sIx items.size 0 lo)).take (sIx items.size items.size hi-sIx items.size 0 lo)).toArray } })
  (hsz:items.size≤sizeLine):wpAny (model prog w) A (getItem (.ref t) (.ref sl)) Q E s:=by
 have htake:sizeOk (.seq ((items.toList.drop (sIx items.size 0 lo)).take (sIx items.size items.size hi-sIx items.size 0 lo)).toArray):=by
  show ((items.toList.drop (sIx items.size 0 lo)).take (sIx items.size items.size hi-sIx items.size 0 lo)).toArray.size≤sizeLine
  rw [size_toArray,length_take,length_drop,Array.length_toList]
  omega
 have hj:sIx items.size items.size hi≤items.size:=sIx_le _ _ (Nat.le_refl _) hi
 obtain ⟨os,hos,hcs,hds⟩:=id hs
 have hTs:s.TypeIs (.ref sl) "slice" := ⟨os,hos,hcs⟩
 unfold getItem
 try with_reducible refine wpAny_holding ?_
 first | refine wpAny_bind (wpAny_pure ?_) | skip
 refine wpAny_bind (wpAny_sequenceKey ht.typeIs (by decide) ?_)
 refine wpAny_bind (wpAny_callSpecial?_slot (name:=Str.ofString "__getitem__") ht.typeIs PyProof.Rows.slot_tuple_getitem
  (wpAny_call_entry PyProof.Rows.slot_tuple_getitem ht.typeIs entry_tuple_getitem ?_ (args_tuple_getitem _ _)))
 show wpAny _ _ (Builtin.Tuple.tupleItemsOf (.ref t) >>= _) _ _ s
 refine wpAny_bind (tupleItemsOf_ ht ?_)
 refine wpAny_bind (wpAny_typeOf hTs ?_)
 rw [if_pos (by decide)]
 refine wpAny_bind (sliceApplied_gen hs pl pu ?_)
 have hno:¬ ((((sIx items.size 0 lo:Nat):Int)==0&&(1:Int)==1&&(sIx items.size items.size hi-sIx items.size 0 lo)==items.size)=true):=by
  intro q
  rw [Bool.and_eq_true,Bool.and_eq_true] at q
  have q1:((sIx items.size 0 lo:Nat):Int)=0:=eq_of_beq q.1.1
  have q2:sIx items.size items.size hi-sIx items.size 0 lo=items.size:=eq_of_beq q.2
  exact hw ⟨by omega,by omega⟩
 show wpAny _ _ (if (((sIx items.size 0 lo:Nat):Int)==0&&(1:Int)==1&&(sIx items.size items.size hi-sIx items.size 0 lo)==items.size)=true then _ else _) _ _ s
 rw [if_neg hno,pick_gen]
 first
  | exact wpAny_bind (m:=Builtin.Tuple.tupleExact _) (wpAny_newObj_type (wpAny_pure ⟨_,rfl,wpAny_pure h⟩) htake)
  | exact wpAny_bind (m:=Builtin.Tuple.tupleExact _) (wpAny_newObj_type (wpAny_bind (wpAny_pure (wpAny_pure ⟨_,rfl,wpAny_pure h⟩))) htake)
  | exact wpAny_bind (wpAny_bind (m:=Builtin.Tuple.tupleExact _) (wpAny_newObj_type (wpAny_pure (wpAny_pure ⟨_,rfl,wpAny_pure h⟩)) htake))
  | exact wpAny_bind (wpAny_bind (m:=Builtin.Tuple.tupleExact _) (wpAny_newObj_type (wpAny_pure ⟨_,rfl,wpAny_pure h⟩) htake))
end
end HT
namespace L2
open PySem PySem.Spec PyProof.Rows
noncomputable abbrev TO:=St→Hp→(Option Int→Hp→Prop)→Prop
noncomputable def PO (X:Cx) (e:Option Expr) (t:TO):Prop :=
 ∀ (pins:List (Addr×Obj)) (s:Shared) (σ:St) (H:Hp) (Q:Option Int→Hp→Prop),Inv X pins σ H s→t σ H Q →
  wpAny (model X.prog X.w) X.A (evalPart e X.env) (fun u s'=>∃ o H',Inv X pins σ H' s'∧IsPart u o∧Q o H') X.xe s
noncomputable abbrev Qvz:TO:=fun _ H Q=>Q none H
noncomputable abbrev Qv0 (t:TE):TO:=fun σ H Q=>t σ H fun x H1=>∃ i,x=.int i∧Q (some i) H1
theorem Qit {ns:List Int}:∀ {us:List Value},Vals (ns.map V.int) us→IntsAre us ns:=by
 induction ns with
 | nil=>intro us r;rw [map_nil] at r;cases r;exact .nil
 | cons n ns ih =>
  intro us r
  rw [map_cons] at r
  cases r with
  | cons r1 r2 =>
   obtain ⟨t,e⟩:=r1
   subst e
   exact .cons n t (ih r2)
section
variable {X:Cx} {e:Expr} {te:TE} {lo hi:Option Expr} {tl th:TO} {pos p2:Pos}
theorem Q3i:PO X none Qvz:=by
 intro pins s σ H Q I h
 rw [evalPart_none]
 exact wpAny_pure ⟨none,H,I,.none,h⟩
theorem Q3j (h:PE X e te):PO X (some e) (Qv0 te):=by
 intro pins s σ H Q I hw
 rw [evalPart_some]
 refine thn (h pins s σ H _ I hw) fun u s1 ⟨x,H1,I1,r1,q1⟩=>?_
 obtain ⟨i,rfl,q⟩:=q1
 obtain ⟨t,rfl⟩:=r1
 exact ⟨some i,H1,I1,.int i t,q⟩
noncomputable def SlR (X:Cx) (r:V→Option Int→Option Int→Hp→VK→Prop):Prop :=
 ∀ (pins:List (Addr×Obj)) (s:Shared) (σ:St) (H:Hp) (x:V) (v vl vu:Value) (lo hi:Option Int) (sl:Addr) (Q:VK),Inv X pins σ H s→RelV x v→s.heap.IsSliceOf sl vl vu .none→IsPart vl lo→IsPart vu hi→r x lo hi H Q →
  ∃ T id,typeLookup (.type T) "__getitem__" = pure (some (.builtin id))∧s.TypeIs v T∧wpAny (model X.prog X.w) X.A (getItem v (.ref sl)) (EP X pins σ Q) X.xe s
theorem SlR.or {r r':V→Option Int→Option Int→Hp→VK→Prop} (h:SlR X r) (h':SlR X r'):SlR X (fun x lo hi H Q=>r x lo hi H Q∨r' x lo hi H Q):=by
 intro pins s σ H x v vl vu lo hi sl Q I rx hs pl pu q
 rcases q with q | q
 ·exact h pins s σ H x v vl vu lo hi sl Q I rx hs pl pu q
 ·exact h' pins s σ H x v vl vu lo hi sl Q I rx hs pl pu q
noncomputable abbrev tSl (r:V→Option Int→Option Int→Hp→VK→Prop) (te:TE) (tl th:TO):TE:=fun σ H Q=>te σ H fun x H1=>tl σ H1 fun l H2=>th σ H2 fun u H3=>r x l u H3 Q
theorem Qzh {r:V→Option Int→Option Int→Hp→VK→Prop} (hr:SlR X r) (he:PE X e te) (hl:PO X lo tl) (hu:PO X hi th):PE X (.Subscript e (.Slice lo hi none p2) pos) (tSl r te tl th):=by
 intro pins s σ H Q I h
 refine Subscript_ (thn (he pins s σ H _ I h) fun v s1 ⟨x,H1,I1,r1,q1⟩=>?_)
 refine wpAny_Slice (thn (hl pins s1 σ H1 _ I1 q1) fun vl s2 ⟨l,H2,I2,pl,q2⟩=>thn (hu pins s2 σ H2 _ I2 q2) fun vu s3 ⟨u,H3,I3,pu,q3⟩=>?_)
 rw [evalPart_none]
 refine wpAny_pure ?_
 have I4:Inv X pins σ H3 { s3 with heap:=s3.heap.push { cls:=.type "slice",data:=.fields #[vl,vu,.none] } }:=I3.kept (t':=s3.toks) fun b ob q=>Heap.get?_push_of_some _ q
 obtain ⟨T,id,hT,ht,hg⟩:=hr pins { s3 with heap:=s3.heap.push { cls:=.type "slice",data:=.fields #[vl,vu,.none] } } σ H3 x v vl vu l u s3.heap.objs.size Q I4 r1 (Heap.IsSliceOf.new ..) pl pu q3
 show wpAny (model X.prog X.w) X.A (subscriptTail e (.Slice lo hi none p2) v (.ref s3.heap.objs.size)) (EP X pins σ Q) X.xe { s3 with heap:=s3.heap.push { cls:=.type "slice",data:=.fields #[vl,vu,.none] } }
 exact tail_any (ops:=[.ref s3.heap.objs.size,v]) ht hT hg (by with_unfolding_all rfl)
noncomputable def Qg7 (xs:List V) (lo hi:Option Int):List V:=(xs.drop (HT.sIx xs.length 0 lo)).take (HT.sIx xs.length xs.length hi-HT.sIx xs.length 0 lo)
theorem Qg8 (xs:List V) (lo hi:Option Int):(Qg7 xs lo hi).length≤xs.length:=by
 unfold Qg7
 rw [length_take,length_drop]
 omega
noncomputable def rSlT (K:PySem.W.Frag):V→Option Int→Option Int→Hp→VK→Prop:=fun x lo hi H Q=>∃ a xs,x=.ref a∧SqT K H a xs ∧
 ¬ (HT.sIx xs.length 0 lo=0∧HT.sIx xs.length xs.length hi=xs.length)∧∀ p,H p=none→Q (.ref p) (upd H p (.tup (Qg7 xs lo hi)))
theorem Q8w:SlR X (rSlT X.K):=by
 intro pins s σ H x v vl vu lo hi sl Q I rx hs pl pu h
 obtain ⟨a,xs,rfl,hx,hw,q⟩:=h
 cases rx
 obtain ⟨its,r,ht,hz⟩:=I.tuple hx
 have hlen:its.toArray.size=xs.length:=by rw [size_toArray];exact r.length.symm
 refine ⟨"tuple",_,PyProof.Rows.slot_tuple_getitem.lookup,ht.typeIs,?_⟩
 refine HT.getItem_tuple_cut ht hs pl pu (by rw [hlen];exact hw) ?_ (by rw [hlen];exact hz)
 rw [hlen]
 refine ⟨.ref s.heap.objs.size,_,I.laid (t':=s.toks) (o:=.tup (Qg7 xs lo hi)) (fun b ob q=>Heap.get?_push_of_some _ q) (Nat.le_refl _) ?_,rfl,q _ (I.hok.fresh (Nat.le_refl _))⟩
 exact ⟨Nat.le_trans (Qg8 xs lo hi) hz,_,(r.drop (HT.sIx xs.length 0 lo)).take (HT.sIx xs.length xs.length hi-HT.sIx xs.length 0 lo),IsTupD.new _ _⟩
noncomputable def Qacd (K:PySem.W.Frag):R2:=fun x y H Q=>∃ a b xs ys,x=.ref a∧y=.ref b∧SqT K H a xs∧SqT K H b ys∧xs≠[]∧xs.length+ys.length≤sizeLine ∧
 (ys=[]→Q (.ref a) H)∧(ys≠[]→∀ p,H p=none→Q (.ref p) (upd H p (.tup (xs++ys))))
theorem Vals.nil_iff {xs:List V} {us:List Value} (r:Vals xs us):us=[]↔xs=[]:=by
 cases r with
 | nil=>simp
 | cons _ _=>simp
theorem Q3k:OpR X (binaryOp .Add) (Qacd X.K):=by
 intro pins s σ H x y v u Q I rx ry h
 obtain ⟨a,b,xs,ys,rfl,rfl,ha,hb,hx,hz,q1,q2⟩:=h
 cases rx
 cases ry
 obtain ⟨its,r1,p1,_⟩:=I.tuple ha
 obtain ⟨its2,r2,p2,_⟩:=I.tuple hb
 refine HT.cat_tup p1 p2 (fun z=>hx (r1.nil_iff.mp z)) (fun z=>⟨.ref a,H,I,rfl,q1 (r2.nil_iff.mp z)⟩) (fun z=>?_) (by rw [←r1.length,←r2.length];exact hz)
 refine ⟨.ref s.heap.objs.size,_,I.laid (t':=s.toks) (o:=.tup (xs++ys)) (fun b ob q=>Heap.get?_push_of_some _ q) (Nat.le_refl _) ?_,rfl,q2 (fun w=>z (r2.nil_iff.mpr w)) _ (I.hok.fresh (Nat.le_refl _))⟩
 exact ⟨by rw [length_append];exact hz,_,r1.append r2,IsTupD.new _ _⟩
end
noncomputable def ixN (n:Nat) (i:Int):Option Nat:=if 0≤i then (if i<n then some i.toNat else none) else if -(n:Int)≤i then some (i+n).toNat else none
noncomputable def atI {α:Type} (xs:List α) (i:Int):Option α:=(ixN xs.length i).bind fun j=>xs[j]?
theorem Qv1 {n:Nat} {i:Int} {j:Nat} (h:ixN n i=some j):seqIndex? i n=some j∧j<n ∧ -(n:Int)≤i∧i<n:=by
 unfold ixN at h
 by_cases h0:0≤i
 ·rw [if_pos h0] at h
  by_cases h1:i<n
  ·rw [if_pos h1] at h
   have e:i.toNat=j:=Option.some.inj h
   exact ⟨by rw [seqIndex_of h0 h1,e],by omega,by omega,h1⟩
  ·rw [if_neg h1] at h;cases h
 ·rw [if_neg h0] at h
  by_cases h1:-(n:Int)≤i
  ·rw [if_pos h1] at h
   have e:(i+n).toNat=j:=Option.some.inj h
   exact ⟨by rw [seqIndex_neg (by omega) h1,e],by omega,h1,by omega⟩
  ·rw [if_neg h1] at h;cases h
theorem Qqb {α:Type} {xs:List α} {i:Int} {v:α} (h:atI xs i=some v):∃ j,seqIndex? i xs.length=some j∧xs[j]?=some v∧j<xs.length ∧ -(xs.length:Int)≤i∧i<xs.length:=by
 unfold atI at h
 cases e:ixN xs.length i with
 | none=>rw [e] at h;cases h
 | some j =>
  rw [e] at h
  obtain ⟨h1,h2,h3,h4⟩:=Qv1 e
  exact ⟨j,h1,h,h2,h3,h4⟩
theorem Qhw {α:Type} {xs:List α} {j:Nat} {v:α} (h:xs[j]?=some v):atI xs (j:Int)=some v:=by
 have hj:j<xs.length:=(List.getElem?_eq_some_iff.mp h).1
 have e:ixN xs.length (j:Int)=some j:=by
  unfold ixN
  rw [if_pos (by omega),if_pos (by omega)];simp
 unfold atI;rw [e];exact h
noncomputable def Qlz (b:Expr):Prop:=∀ o i,subscripted b false o i=operate [o,i] (getItem o i)
noncomputable def IxR (X:Cx) (r:R2):Prop :=
 ∀ (value slice:Expr) (pins:List (Addr×Obj)) (s:Shared) (σ:St) (H:Hp) (x y:V) (v u:Value) (Q:VK),Inv X pins σ H s→RelV x v→RelV y u→r x y H Q →
  subscripted slice false v u=operate [v,u] (getItem v u)→wpAny (model X.prog X.w) X.A (subscriptTail value slice v u) (EP X pins σ Q) X.xe s
noncomputable def MtR (X:Cx) (id:String) (r:V→List V→Hp→VK→Prop):Prop :=
 ∀ (pins:List (Addr×Obj)) (s:Shared) (σ:St) (H:Hp) (x:V) (xs:List V) (v:Value) (us:List Value) (Q:VK),Inv X pins σ H s→RelV x v→Vals xs us→r x xs H Q →
  wpAny (model X.prog X.w) X.A (call (.builtin id) (v::us)) (EP X pins σ Q) X.xe s
section
variable {X:Cx} {a b:Expr} {ta tb:TE} {pos:Pos}
theorem IxR.or {r r':R2} (h:IxR X r) (h':IxR X r'):IxR X (fun x y H Q=>r x y H Q∨r' x y H Q):=by
 intro value slice pins s σ H x y v u Q I rx ry q hs
 rcases q with q | q
 ·exact h value slice pins s σ H x y v u Q I rx ry q hs
 ·exact h' value slice pins s σ H x y v u Q I rx ry q hs
theorem Qace {r:R2} (hr:IxR X r) (ha:PE X a ta) (hb:PE X b tb) (hs:Qlz b):PE X (.Subscript a b pos) (tOp r ta tb):=by
 intro pins s σ H Q I h
 exact Subscript_ (Q8h ha hb I h fun v u s2 x y H2 I2 rx ry q=>hr a b pins s2 σ H2 x y v u Q I2 rx ry q (hs _ _))
noncomputable def rIxL (K:PySem.W.Frag):R2:=fun x y H Q=>∃ p xs i v,x=.ref p∧y=.int i∧SqL K H p xs∧atI xs i=some v∧Q v H
noncomputable def rIxT (K:PySem.W.Frag):R2:=fun x y H Q=>∃ p xs i v,x=.ref p∧y=.int i∧SqT K H p xs∧atI xs i=some v∧Q v H
noncomputable def rIxS:R2:=fun x y H Q=>∃ z i c,x=.str z∧y=.int i∧z.length≤sizeLine∧atI z.cps.toList i=some c∧Q (.str ⟨#[c]⟩) H
theorem Q3l:IxR X (rIxL X.K):=by
 intro value slice pins s σ H x y v u Q I rx ry h hs
 obtain ⟨p,xs,i,z,rfl,rfl,hq,he,q⟩:=h
 cases rx
 obtain ⟨t,rfl⟩:=ry
 obtain ⟨its,r,pl,hz⟩:=I.list hq
 obtain ⟨j,h1,h2,h3,h4,h5⟩:=Qqb he
 obtain ⟨w,ew,rw'⟩:=r.get h2
 have hl:=r.length
 have hn:=Qml
 have fin:EP X pins σ Q w s:=⟨z,H,I,rw',q⟩
 by_cases h0:0≤i
 ·have hj:i.toNat=j:=by
   rw [seqIndex_of h0 h5] at h1
   exact Option.some.inj h1
  exact item_listR pl.isList h0 (by omega) (by rw [hj];simpa using ew) fin hs
 ·have hj:(i+(its.toArray.size:Int)).toNat=j:=by
   rw [seqIndex_neg (by omega) h4] at h1
   rw [size_toArray,←hl]
   exact Option.some.inj h1
  exact subscriptTail_builtinR (x:=w) pl.isList.typeIs slot_list_getitem.lookup
   (wpAny_getItem_list_neg (Q:=fun r s'=>r=w∧EP X pins σ Q r s') pl.isList (by omega) (by rw [size_toArray] <;> omega) (by omega) (by rw [hj];simpa using ew) ⟨rfl,fin⟩) hs
theorem Q8x:IxR X (rIxT X.K):=by
 intro value slice pins s σ H x y v u Q I rx ry h hs
 obtain ⟨p,xs,i,z,rfl,rfl,hq,he,q⟩:=h
 cases rx
 obtain ⟨t,rfl⟩:=ry
 obtain ⟨its,r,pl,hz⟩:=I.tuple hq
 obtain ⟨j,h1,h2,h3,h4,h5⟩:=Qqb he
 obtain ⟨w,ew,rw'⟩:=r.get h2
 have hl:=r.length
 have hn:=Qml
 have fin:EP X pins σ Q w s:=⟨z,H,I,rw',q⟩
 exact subscriptTail_builtinR (x:=w) pl.typeIs slot_tuple_getitem.lookup
  (getItem_tuple (j:=j) (Q:=fun r s'=>r=w∧EP X pins σ Q r s') pl (by omega) (by omega) (by rw [size_toArray,←hl];exact h1) (by simpa using ew) ⟨rfl,fin⟩) hs
theorem Q8y:IxR X rIxS:=by
 intro value slice pins s σ H x y v u Q I rx ry h hs
 obtain ⟨z,i,c,rfl,rfl,hz,he,q⟩:=h
 obtain ⟨t,rfl⟩:=rx
 obtain ⟨t',rfl⟩:=ry
 obtain ⟨j,h1,h2,h3,h4,h5⟩:=Qqb he
 have hl:z.cps.toList.length=z.length:=by simp [Str.length]
 rw [hl] at h1 h4 h5
 have hn:=Qml
 exact tail_any (typeIs_str s z t) slot_str_getitem.lookup (getItem_str (c:=c) (by
  have e1:decide (i < -(2^63:Int))=false:=decide_eq_false (by omega)
  have e2:decide (i≥2^63)=false:=decide_eq_false (by omega)
  rw [e1,e2,Bool.or_false]) (by rw [h1];simpa using h2) ⟨.str ⟨#[c]⟩,H,I.tok _,⟨_,rfl⟩,q⟩) hs
noncomputable def rIx (K:PySem.W.Frag):R2:=fun x y H Q=>rIxL K x y H Q∨rIxT K x y H Q∨rIxS x y H Q
theorem Q8z:IxR X (rIx X.K):=Q3l.or (Q8x.or Q8y)
theorem Qt2 (its:List Value) (n j:Nat) (u:Value):Obj.mapSeq (·.setIfInBounds j u) { cls:=.type "list",data:=.seq its.toArray n }={ cls:=.type "list",data:=.seq (its.set j u).toArray n }:=by
 simp [Obj.mapSeq]
theorem Inv.lst {pins:List (Addr×Obj)} {σ:St} {H:Hp} {s:Shared} {p:Addr} {xs:List V} (I:Inv X pins σ H s) (h:H p=some (.lst xs)) :
  ∃ (its:List Value) (n:Nat),Vals xs its∧s.heap.get? p=some { cls:=.type "list",data:=.seq its.toArray n }∧xs.length≤sizeLine:=by
 obtain ⟨z,its,n,r,e⟩:=I.hok p _ h
 exact ⟨its,n,r,e,z⟩
theorem Inv.lstUpd {pins:List (Addr×Obj)} {σ:St} {H:Hp} {s:Shared} {p:Addr} {xs ys:List V} {its its':List Value} {n n':Nat} {f:Obj→Obj} (I:Inv X pins σ H s) (h:H p=some (.lst xs))
  (ho:s.heap.get? p=some { cls:=.type "list",data:=.seq its.toArray n }) (hf:f { cls:=.type "list",data:=.seq its.toArray n }={ cls:=.type "list",data:=.seq its'.toArray n' }) (r:Vals ys its') (hz:ys.length≤sizeLine) (t:Nat) :
  Inv X pins σ (upd H p (.lst ys)) { s with heap:=s.heap.update p f,toks:=t }:=by
 have e:(s.heap.update p f).get? p=some { cls:=.type "list",data:=.seq its'.toArray n' }:=by
  rw [Heap.get?_update_self f ho (by rw [hf] <;> rfl),hf]
 refine I.write (x:=p) (e:=p) (by rw [h];trivial) (.inl rfl) (fun b u hb q=>(Heap.get?_update_other _ _ (Ne.symm hb)).trans q) ⟨_,e⟩ ?_
 exact ⟨hz,its',n',r,e⟩
noncomputable def Qv2:V→V→V→Hp→(Hp→Prop)→Prop:=fun o i v H Q=>∃ p xs k j,o=.ref p∧i=.int k∧H p=some (.lst xs)∧ixN xs.length k=some j∧Q (upd H p (.lst (xs.set j v)))
theorem Qzi:PSet X Qv2:=by
 intro pins s σ H o i v ov iv u Q I ro ri rv h
 obtain ⟨p,xs,k,j,rfl,rfl,hp,hj,q⟩:=h
 cases ro
 obtain ⟨t,rfl⟩:=ri
 obtain ⟨its,n,r,ho,hz⟩:=I.lst hp
 obtain ⟨h1,h2,h3,h4⟩:=Qv1 hj
 have hl:=r.length
 have hn:=Qml
 have I':Inv X pins σ (upd H p (.lst (xs.set j v))) { s with heap:=s.heap.update p (Obj.mapSeq (·.setIfInBounds j u)) } :=
  I.lstUpd hp ho (Qt2 its n j u) (r.set rv j) (by rw [length_set];exact hz) s.toks
 by_cases h0:0≤k
 ·have hk:k.toNat=j:=by
   rw [seqIndex_of h0 h4] at h1
   exact Option.some.inj h1
  exact PySem.W.ki_setAt ho h0 (by omega) (by rw [size_toArray,←hl];exact h4) (by rw [hk];exact ⟨_,I',q⟩)
 ·have hk:(k+(its.toArray.size:Int)).toNat=j:=by
   rw [seqIndex_neg (by omega) h3] at h1
   rw [size_toArray,←hl]
   exact Option.some.inj h1
  exact PySem.W.ki_setBack ho (by omega) (by rw [size_toArray,←hl];exact h3) (by omega) (by rw [hk];exact ⟨_,I',q⟩)
theorem Qqc (lo hi:Option Int) (n:Nat):(sliceBounds lo hi none n).1=((HT.sIx n 0 lo:Nat):Int)∧(sliceBounds lo hi none n).2.1=((HT.sIx n n hi:Nat):Int)∧(sliceBounds lo hi none n).2.2=1:=by
 refine ⟨?_,?_,rfl⟩
 ·cases lo with
  | none=>simp [sliceBounds,HT.sIx]
  | some i =>
   simp only [sliceBounds,HT.sIx,Option.getD_none,show (1:Int)>0 by decide,if_true]
   by_cases h:i<0
   ·simp only [h,if_true] <;> omega
   ·simp only [h,if_false] <;> omega
 ·cases hi with
  | none=>simp [sliceBounds,HT.sIx]
  | some i =>
   simp only [sliceBounds,HT.sIx,Option.getD_none,show (1:Int)>0 by decide,if_true]
   by_cases h:i<0
   ·simp only [h,if_true] <;> omega
   ·simp only [h,if_false] <;> omega
theorem Qon (its:List Value) (lo hi:Option Int):slicePick its.toArray lo hi none=((its.drop (HT.sIx its.length 0 lo)).take (HT.sIx its.length its.length hi-HT.sIx its.length 0 lo)).toArray:=by
 obtain ⟨h1,h2,h3⟩:=Qqc lo hi its.toArray.size
 unfold slicePick
 rw [h1,h2,h3]
 simp only [sliceRange_one,pick_run,size_toArray] <;> rfl
noncomputable def rSlL (K:PySem.W.Frag):V→Option Int→Option Int→Hp→VK→Prop:=fun x lo hi H Q=>∃ a xs,x=.ref a∧SqL K H a xs∧∀ p,H p=none→Q (.ref p) (upd H p (.lst (Qg7 xs lo hi)))
theorem Q3m:SlR X (rSlL X.K):=by
 intro pins s σ H x v vl vu lo hi sl Q I rx hs pl pu h
 obtain ⟨a,xs,rfl,hx,q⟩:=h
 cases rx
 obtain ⟨its,r,ht,hz⟩:=I.list hx
 have hlen:=r.length
 refine ⟨"list",_,slot_list_getitem.lookup,ht.isList.typeIs,?_⟩
 refine wpAny_getItem_list_slice ht.isList hs pl pu .none (by simp) ?_ (by rw [size_toArray] <;> omega)
 rw [Qon,←hlen]
 refine ⟨.ref s.heap.objs.size,_,I.laid (t':=s.toks) (o:=.lst (Qg7 xs lo hi)) (fun b ob q=>Heap.get?_push_of_some _ q) (Nat.le_refl _) ?_,rfl,q _ (I.hok.fresh (Nat.le_refl _))⟩
 exact ⟨Nat.le_trans (Qg8 xs lo hi) hz,_,0,(r.drop (HT.sIx xs.length 0 lo)).take (HT.sIx xs.length xs.length hi-HT.sIx xs.length 0 lo),Heap.get?_push_size _ rfl⟩
theorem Qqd:CallR X (.builtin "len") (fun xs H Q=>∃ p ys,xs=[.ref p]∧(SqL X.K H p ys∨SqT X.K H p ys)∧Q (.int ys.length) H):=by
 intro pins s σ H xs us Q I r h
 obtain ⟨p,ys,rfl,hq,q⟩:=h
 obtain ⟨u,rfl,rx⟩:=Qgz r
 cases rx
 have hn:=Qml
 rcases hq with hq | hq
 ·obtain ⟨its,r',pl,hz⟩:=I.list hq
  have hlen:=r'.length
  exact Calls.call_len_list pl.isList (by simp only [size_toArray] <;> omega) ⟨.int ys.length,H,I.tok _,⟨s.toks+1,by rw [size_toArray,hlen]⟩,q⟩
 ·obtain ⟨its,r',pl,hz⟩:=I.tuple hq
  have hlen:=r'.length
  exact len_tuple pl (by simp only [size_toArray] <;> omega) ⟨.int ys.length,H,I.tok _,⟨s.toks+1,by rw [size_toArray,hlen]⟩,q⟩
theorem CallR.or {f:Value} {r r':List V→Hp→VK→Prop} (h:CallR X f r) (h':CallR X f r'):CallR X f (fun xs H Q=>r xs H Q∨r' xs H Q):=by
 intro pins s σ H xs us Q I rs q
 rcases q with q | q
 ·exact h pins s σ H xs us Q I rs q
 ·exact h' pins s σ H xs us Q I rs q
theorem Qqe:CallR X (.type "list") (fun xs H Q=>∃ p ys,xs=[.ref p]∧(SqL X.K H p ys∨SqT X.K H p ys)∧∀ l,H l=none→Q (.ref l) (upd H l (.lst ys))):=by
 intro pins s σ H xs us Q I r h
 obtain ⟨p,ys,rfl,hq,q⟩:=h
 obtain ⟨u,rfl,rx⟩:=Qgz r
 cases rx
 have fin:∀ (its:List Value),Vals ys its→ys.length≤sizeLine→∀ (h':Heap) (c':Nat),(∀ b o',s.heap.get? b=some o'→h'.get? b=some o') →
   h'.get? s.heap.objs.size=some { cls:=.type "list",dict:=none,data:=.seq its.toArray c',slots:=#[] }→EP X pins σ Q (.ref s.heap.objs.size) { s with heap:=h' }:=fun its r' hz h' c' kp e =>
  ⟨.ref s.heap.objs.size,_,I.laid (t':=s.toks) kp (Nat.le_refl _) (show ObjOk X.prog X.w _ h' _ (.lst ys) from ⟨hz,its,c',r',e⟩),rfl,q _ (I.hok.fresh (Nat.le_refl _))⟩
 rcases hq with hq | hq
 ·obtain ⟨its,r',pl,hz⟩:=I.list hq
  have hlen:=r'.length
  obtain ⟨o,ho,hc,n,hd⟩:=pl.isList
  exact call_list_seq p (.inl rfl) ho hc hd (fun h' c' kp e=>fin its r' hz h' c' kp e) (by simp only [size_toArray] <;> omega)
 ·obtain ⟨its,r',pl,hz⟩:=I.tuple hq
  have hlen:=r'.length
  obtain ⟨o,ho,hc,n,hd⟩:=pl
  exact call_list_seq p (.inr rfl) ho hc hd (fun h' c' kp e=>fin its r' hz h' c' kp e) (by simp only [size_toArray] <;> omega)
theorem Qoo:CallR X (.type "tuple") (fun xs H Q=>∃ p ys,xs=[.ref p]∧((SqL X.K H p ys∧∀ l,H l=none→Q (.ref l) (upd H l (.tup ys)))∨(SqT X.K H p ys∧Q (.ref p) H))):=by
 intro pins s σ H xs us Q I r h
 obtain ⟨p,ys,rfl,h⟩:=h
 obtain ⟨u,rfl,rx⟩:=Qgz r
 cases rx
 rcases h with ⟨hq,q⟩ | ⟨hq,q⟩
 ·obtain ⟨its,r',pl,hz⟩:=I.list hq
  have hlen:=r'.length
  refine call_tuple_list pl.isList (fun h' kp=>?_) (by simp only [size_toArray] <;> omega)
  have I1:Inv X pins σ H { s with heap:=h' }:=I.kept (t':=s.toks) kp
  have I2:Inv X pins σ (upd H h'.objs.size (.tup ys)) { s with heap:=h'.push { cls:=.type "tuple",data:=.seq its.toArray } } :=
   I1.laid (t':=s.toks) (fun b o e=>Heap.get?_push_of_some _ e) (Nat.le_refl _) (show ObjOk X.prog X.w _ _ _ (.tup ys) from ⟨hz,its,r',IsTupD.new _ _⟩)
  exact ⟨.ref h'.objs.size,_,I2,rfl,q _ (I1.hok.fresh (Nat.le_refl _))⟩
 ·obtain ⟨its,r',pl,hz⟩:=I.tuple hq
  exact call_tuple_same pl ⟨.ref p,H,I,rfl,q⟩
noncomputable def tyV (K:PySem.W.Frag) (T:String) (x:V) (H:Hp):Prop:=match x with
 | .str _=>T = "str"
 | .int _=>T = "int"
 | .ref p=>(T = "list" ∧ ∃ xs,SqL K H p xs)∨(T = "tuple" ∧ ∃ o,K.lookup p=some o∧o.cls=.type "tuple" ∧ o.dict=none) ∨
   (T = "dict" ∧ ((∃ kvs,H p=some (.dK kvs))∨∃ kvs,H p=some (.dT kvs)))∨(T = "set" ∧ ∃ S n,H p=some (.set S n))
 | _=>False
theorem Q80 {pins:List (Addr×Obj)} {σ:St} {H:Hp} {s:Shared} {T:String} {x:V} {v:Value} (I:Inv X pins σ H s) (r:RelV x v) (ty:tyV X.K T x H) :
  s.TypeIs v T∧∀ a,v=.ref a→∃ ob,s.heap.get? a=some ob∧ob.dict=none:=by
 cases x with
 | str z =>
  obtain ⟨t,rfl⟩:=r
  cases (show T = "str" from ty)
  exact ⟨typeIs_str s z t,fun _ e=>nomatch e⟩
 | int i =>
  obtain ⟨t,rfl⟩:=r
  cases (show T = "int" from ty)
  exact ⟨typeIs_int s i t,fun _ e=>nomatch e⟩
 | ref p =>
  cases r
  rcases ty with ⟨rfl,xs,hq⟩ | ⟨rfl,o,hk,hc,hd⟩ | ⟨rfl,hk⟩ | ⟨rfl,S,n,hk⟩
  ·obtain ⟨its,_,pl,_⟩:=I.list hq
   refine ⟨pl.isList.typeIs,fun a e=>?_⟩
   cases e
   obtain ⟨o,n,e,c,hd,_⟩:=pl
   exact ⟨o,e,hd⟩
  ·refine ⟨⟨o,I.kIn p o hk,hc⟩,fun a e=>?_⟩
   cases e
   exact ⟨o,I.kIn _ o hk,hd⟩
  ·have z:∃ o,s.heap.get? p=some o∧o.ExactDict:=by
    rcases hk with ⟨kvs,hk⟩ | ⟨kvs,hk⟩
    ·obtain ⟨_,_,_,_,o,_,_,e,ex,_⟩:=I.hok p _ hk
     exact ⟨o,e,ex⟩
    ·obtain ⟨_,_,_,_,o,_,_,e,ex,_⟩:=I.hok p _ hk
     exact ⟨o,e,ex⟩
   obtain ⟨o,e,ex⟩:=z
   refine ⟨⟨o,e,ex.1⟩,fun a e2=>?_⟩
   cases e2
   exact ⟨o,e,ex.2.1⟩
  ·obtain ⟨o,_,_,_,e,ex,_⟩:=I.hok p _ hk
   refine ⟨⟨o,e,ex.1⟩,fun a e2=>?_⟩
   cases e2
   exact ⟨o,e,ex.2.1⟩
 | _=>exact False.elim ty
noncomputable abbrev tBM (K:PySem.W.Frag) (T:String) (r:V→List V→Hp→VK→Prop) (to:TE) (t:TA):TE:=fun σ H Q=>to σ H fun x H1=>tyV K T x H1∧t σ H1 fun xs H2=>r x xs H2 Q
variable {o e:Expr} {es:List Expr} {to:TE} {t:TA} {name:Str} {apos cpos:Pos} {T id:String} {r:V→List V→Hp→VK→Prop}
theorem Qacj (pa:PlainAttrs T) (slot:Slot T name id) (hty:typeOf (.builtin id)=pure (.type "method_descriptor")) (hm:MtR X id r) (ho:PE X o to) (ha:PA X (e::es) t)
  (hbase:attributeBase o name X.env (eval o X.env)=eval o X.env:=by rfl)
  (hfew:((backTo cpos (starEach (e::es) X.env)).all (fun x=>!x.1)&&(backToKw cpos (keywordEach [] X.env)).all (fun x=>x.1.isSome)
   && decide ((e::es).length+([]:List Keyword).length+(if ([]:List Keyword).isEmpty then 0 else 1)<30))=true:=by rfl)
  (hline:(apos.endLine==cpos.line)=true:=by rfl) (hs:starEach (e::es) X.env=(false,eval e X.env)::starEach es X.env:=by rfl) (hplain:(backTo cpos (starEach es X.env)).any (·.1)=false:=by rfl) :
  PE X (.Call (.Attribute o name apos) (e::es) [] cpos) (tBM X.K T r to t):=by
 intro pins s σ H Q I h
 refine wpAny_Call_method_late hbase hfew hline rfl (thn (ho pins s σ H _ I h) fun v s1 ⟨x,H1,I1,r1,ty,q1⟩=>?_)
 obtain ⟨h1,h2⟩:=Q80 I1 r1 ty
 refine ⟨T,id,pa,slot,hty,h1,h2,?_⟩
 have hA:=ha cpos pins s1 σ H1 _ I1 q1
 rw [hs] at hA ⊢
 refine Calls.callWith_builtin (by show (false||(backTo cpos (starEach es X.env)).any (·.1))=false;rw [hplain] <;> rfl) (Calls.evalArgs_plain ?_)
 exact thn hA fun us s2 ⟨vs,H2,I2,r2,q2⟩=>hm pins s2 σ H2 x vs v us Q I2 r1 r2 q2
end
noncomputable def MtM (X:Cx) (id:String) (r:V→List V→Hp→VK→Prop):Prop :=
 ∀ (pins:List (Addr×Obj)) (s:Shared) (σ:St) (H:Hp) (x:V) (xs:List V) (v:Value) (us:List Value) (Q:VK),Inv X pins σ H s→RelV x v→Vals xs us→r x xs H Q →
  wpAny (model X.prog X.w) X.A (call (.builtin id) (v::us)) (EP X pins σ Q) X.xe s
theorem Vals.one:∀ {x:V} {us:List Value},Vals [x] us→∃ u,us=[u]∧RelV x u
 | _,_,.cons r .nil=>⟨_,rfl,r⟩
theorem Vals.rep {xs:List V} {us:List Value} (h:Vals xs us):∀ k:Nat,Vals (List.replicate k xs).flatten (List.replicate k us).flatten
 | 0=>.nil
 | k+1=>by
  rw [replicate_succ,replicate_succ,List.flatten_cons,List.flatten_cons]
  exact Vals.append h (Vals.rep h k)
theorem Qki (its:List Value):∀ (k:Nat) (acc:List Value),
  List.foldl (fun x1 x2=>x1++x2) acc.toArray (List.replicate k its.toArray)=(acc++(List.replicate k its).flatten).toArray
 | 0,acc=>by simp
 | k+1,acc=>by
  have e:acc.toArray++its.toArray=(acc++its).toArray:=by simp
  have e2:(acc++its)++(List.replicate k its).flatten=acc++(List.replicate (k+1) its).flatten:=by
   rw [replicate_succ,List.flatten_cons,append_assoc]
  rw [←e2,←Qki its k (acc++its),←e,replicate_succ,foldl_cons]
section
variable {X:Cx} {pins:List (Addr×Obj)} {σ:St} {H:Hp} {s:Shared} {l b:Addr} {xs ys zs:List V}
theorem Inv.lset {its its':List Value} {n:Nat} {f:Array Value→Array Value} {t':Nat} (I:Inv X pins σ H s) (hH:H l=some (.lst xs))
  (e:s.heap.get? l=some { cls:=.type "list",data:=.seq its.toArray n }) (hf:f its.toArray=its'.toArray) (hv:Vals ys its') (hz:ys.length≤sizeLine) :
  Inv X pins σ (upd H l (.lst ys)) { s with heap:=s.heap.update l (Obj.mapSeq f),toks:=t' }:=by
 have q:=PySem.IsL.update e f
 rw [hf] at q
 refine I.write (x:=l) (e:=l) (by rw [hH];exact trivial) (.inl rfl) (fun b' u hb hu=>(Heap.get?_update_other s.heap (Obj.mapSeq f) (Ne.symm hb)).trans hu) ⟨_,q⟩ ?_
 exact ⟨hz,its',_,hv,q⟩
theorem Inv.lnew {its:List Value} {t':Nat} (I:Inv X pins σ H s) (hv:Vals ys its) (hz:ys.length≤sizeLine) :
  Inv X pins σ (upd H s.heap.objs.size (.lst ys)) { s with heap:=s.heap.push { cls:=.type "list",data:=.seq its.toArray },toks:=t' } :=
 I.laid (fun _ _ q=>Heap.get?_push_of_some _ q) (Nat.le_refl _) ⟨hz,its,0,hv,Heap.get?_push_size _ rfl⟩
theorem Inv.fresh (I:Inv X pins σ H s):H s.heap.objs.size=none:=I.hok.fresh (Nat.le_refl _)
theorem Inv.lstM (I:Inv X pins σ H s) (hH:H l=some (.lst xs)):xs.length≤sizeLine∧∃ (its:List Value) (n:Nat),Vals xs its∧xs.length=its.length∧s.heap.get? l=some { cls:=.type "list",data:=.seq its.toArray n }:=by
 obtain ⟨z,its,n,r,e⟩:=I.hok l _ hH
 exact ⟨z,its,n,r,r.length,e⟩
theorem Qrx {n:Nat} (h:n≤sizeLine):Builtin.List.listTooLong n=false:=by
 unfold Builtin.List.listTooLong
 exact decide_eq_false (by omega)
end
section
variable {X:Cx}
noncomputable def Ql0:V→List V→Hp→VK→Prop:=fun x vs H Q=>∃ l xs y,x=.ref l∧vs=[y]∧H l=some (.lst xs)∧xs.length<sizeLine∧Q .non (upd H l (.lst (xs++[y])))
theorem Qkj:MtM X "list.append" Ql0:=by
 intro pins s σ H x vs v us Q I rx rv h
 obtain ⟨l,xs,y,rfl,rfl,hH,hz,q⟩:=h
 cases rx
 obtain ⟨u,rfl,ru⟩:=rv.one
 obtain ⟨z,its,n,r,hl,e⟩:=I.lstM hH
 refine call_meets F.slot_list_append ⟨_,e,rfl⟩ F.entry_list_append (F.args_list_append_2 _ _) (PySem.list_append l its.toArray n u (by rw [size_toArray];omega)) ⟨e,?_⟩
 refine ⟨.non,_,I.lset (its':=its++[u]) hH e (by simp) (r.append (.cons ru .nil)) ?_,rfl,q⟩
 rw [length_append,length_singleton]
 omega
noncomputable def rCat:R2:=fun x y H Q=>∃ l b xs zs,x=.ref l∧y=.ref b∧H l=some (.lst xs)∧H b=some (.lst zs)∧xs.length+zs.length≤sizeLine∧∀ p,H p=none→Q (.ref p) (upd H p (.lst (xs++zs)))
theorem Q81:OpR X (binaryOp .Add) rCat:=by
 intro pins s σ H x y v u Q I rx ry h
 obtain ⟨l,b,xs,zs,rfl,rfl,hH,hB,hz,q⟩:=h
 cases rx
 cases ry
 obtain ⟨z,its,n,r,hl,e⟩:=I.lstM hH
 obtain ⟨z2,its2,n2,r2,hl2,e2⟩:=I.lstM hB
 refine PySem.P.add_list e e2 ?_ (by rw [size_toArray,size_toArray];omega)
 have ea:its.toArray++its2.toArray=(its++its2).toArray:=by simp
 rw [ea]
 exact ⟨.ref _,_,I.lnew (t':=s.toks) (r.append r2) (by rw [length_append];omega),rfl,q _ I.fresh⟩
noncomputable def rRep:R2:=fun x y H Q=>∃ l k xs,x=.ref l∧y=.int k∧H l=some (.lst xs) ∧ -(2^63)≤k∧k<2^63∧xs.length*k.toNat≤sizeLine ∧
 ∀ p,H p=none→Q (.ref p) (upd H p (.lst (List.replicate k.toNat xs).flatten))
theorem Qje {α:Type} (xs:List α) (k:Nat):(List.replicate k xs).flatten.length=k*xs.length:=by
 induction k with
 | zero=>simp
 | succ k ih=>rw [replicate_succ,List.flatten_cons,length_append,ih,Nat.succ_mul,Nat.add_comm]
theorem Q82:OpR X (binaryOp .Mult) rRep:=by
 intro pins s σ H x y v u Q I rx ry h
 obtain ⟨l,k,xs,rfl,rfl,hH,h1,h2,hz,q⟩:=h
 cases rx
 obtain ⟨t,rfl⟩:=ry
 obtain ⟨z,its,n,r,hl,e⟩:=I.lstM hH
 have hlen:its.toArray.size*k.toNat≤sizeLine:=by rw [size_toArray,←hl];exact hz
 have hcap:¬ its.toArray.size*k.toNat>(2^63-1) / 8:=by
  have:(sizeLine:Nat)≤(2^63-1) / 8:=by decide
  omega
 have hfit:¬ (!Builtin.List.listFitsIndex k)=true:=by
  rw [fitsIndex_both h1 h2]
  exact Bool.false_ne_true
 have hlong:¬ Builtin.List.listTooLong (its.toArray.size*k.toNat)=true:=by
  rw [Qrx hlen]
  exact Bool.false_ne_true
 have hnew:List.foldl (fun x1 x2=>x1++x2) #[] (List.replicate (if its.toArray.isEmpty=true then 0 else k.toNat) its.toArray)=(List.replicate k.toNat its).flatten.toArray:=by
  have f0:∀ m:Nat,List.foldl (fun x1 x2=>x1++x2) #[] (List.replicate m its.toArray)=(List.replicate m its).flatten.toArray:=fun m=>by
   have:=Qki its m []
   rw [List.nil_append] at this
   exact this
  rw [f0]
  cases its with
  | nil=>simp
  | cons a r'=>rw [if_neg (by simp)]
 refine wpAny_binaryOp_repeat_ref (T := "list") (U := "int") (by decide) ⟨_,e,rfl⟩ (fun s'=>typeIs_int s' k t) noFill_list_mul F.fills_int_mul F.slot_int_rmul repeat_list F.slot_int_index.lookup
  (call_meets F.slot_int_rmul (typeIs_int s k t) F.entry_int_rmul (F.args_int_rmul_2 _ _) (int___rmul___int_list k t l its.toArray n)
   ⟨e,rfl,⟨_,e,rfl⟩,call_meets F.slot_list_mul ⟨_,e,rfl⟩ F.entry_list_mul (F.args_list_mul_2 _ _) (AutoListH.list___mul___list_int_3 l its.toArray n k t hfit hcap hlong) ⟨e,?_⟩⟩)
 rw [hnew]
 exact ⟨.ref _,_,I.lnew (t':=s.toks) (r.rep k.toNat) (by rw [Qje,Nat.mul_comm];exact hz),rfl,q _ I.fresh⟩
end
section
variable {prog:Program} {w:World} {A:Around} {E:Value→Shared→Prop} {s:Shared}
end
section
variable {X:Cx}
end
end L2
namespace Att
open PySem PySem.W PySem.Calls PyProof.Rows
theorem ints_of_wellAll {P:Params} {h:Heap}:∀ (ns:List Int) (vs:List Value),WellAll P h vs (ns.map WData.int)→IntsAre vs ns:=by
 intro ns
 induction ns with
 | nil =>
  intro vs w
  rw [map_nil] at w
  cases w
  exact .nil
 | cons n ns ih =>
  intro vs w
  rw [map_cons] at w
  cases w with
  | cons a b =>
   cases a
   exact .cons _ _ (ih _ b)
theorem script_of {l:OpenLaw} {n:Nat} (hn:l.most=some n) {P:Params} {h:Heap} {args:List WData} {vals:List Value}
  (hpre:l.row.toRowW.claim.pre args=true) (hwl:WellAll P h vals args) :
  ∃ a vs ns,vals=[Value.ref a]∧args=[WData.list (ns.map WData.int)]∧h.get? a=some { cls:=.type "list",data:=.seq vs.toArray }∧IntsAre vs ns∧ns.length≤n:=by
 have hsh:WShape.hasAll [] args [.list .int]=true:=(pre_splitW hpre).1
 have hc:l.pre.holds [] { args:=args }=true:=(pre_splitW hpre).2
 obtain ⟨d,r,rfl,h1,h2⟩:=hasAllW_cons hsh
 obtain rfl:=hasAllW_nil h2
 obtain ⟨xs,rfl,h3⟩:=hasW_list h1
 obtain ⟨ns,rfl⟩:=items_int h3
 have hlen:ns.length≤n:=by
  unfold OpenLaw.pre at hc
  have h4:(WTm.not (.lt (.lit (.int (n:Int))) (.len (.arg 0)))).holds [] { args:=[.list (ns.map .int)] }=true:=by
   have h4:=(holds_andW hc).1
   rw [hn] at h4
   exact h4
  have h5:=condW_of h4 (w_not (w_lt w_lit (w_len_list (w_arg rfl))))
  rw [length_map] at h5
  refine Nat.le_of_not_lt fun q=>?_
  have q':(n:Int)<((ns.length:Nat):Int):=by omega
  first
   | (rw [decide_eq_true q'] at h5;exact absurd h5 (by decide))
   | (simp at h5;omega)
 cases hwl with
 | cons w1 w2 =>
  cases w2
  cases w1 with
  | list ho hall=>exact ⟨_,_,ns,rfl,rfl,ho,ints_of_wellAll ns _ hall,hlen⟩
theorem post_true (l:OpenLaw) (args:List WData):l.row.toRowW.claim.post args (.bool true) args=true :=
 postW_of (r:=l.row.toRowW) (X:=(true==true))
  (show WShape.has [] (.bool true) .bool=true by first | rfl | decide | simp [WShape.has,WShape.arms,WShape.armsAll])
  (show (WTm.eq .res (.lit (.bool true))).value [] { args:=args,res:=some (.bool true),after:=args }=some (.bool (true==true)) from w_eq_bool (w_res rfl) w_lit) rfl
theorem attach_call {l:OpenLaw} {n:Nat} {q:Program} {loose:List Str} {XP:(Str→Option Value)→Heap→Prop} {YP:World→Heap→Prop} {d:DefRec}
  (hn:l.most=some n) (hdf:d.params.defaults=[])
  (call:∀ (w:World) (s₀ s₁:Shared) (mg mb:Str→Option Value) (fa:Addr) (o:Obj) (pm cd doc:Value) (a:Addr) (vs:List Value) (ns:List Int),
   Ground q loose [] XP w s₀ mg mb s₁.heap→YP w s₁.heap →
   s₁.heap.get? fa=some o→o.data=.func (docDef d.name d.params d.body d.scope pm cd doc)→s₁.heap.CodeRec cd d.name→mg d.name=some (.ref fa) →
   s₁.heap.get? a=some { cls:=.type "list",data:=.seq vs.toArray }→IntsAre vs ns→ns.length≤n→s₁.gens = #[] →
   codeAny (model l.prog w) callerA (.call (.ref fa) ⟨[.ref a],[]⟩) (fun r s'=>r=.ok (.ret (.bool true))∧OldK s₁.heap s'.heap∧s'.os=s₁.os∧AllBare s'.gens) s₁) :
  WalkO q loose XP YP l.row.toRowW d [] (fun f vs=>PySem.call f vs):=by
 intro w s₀ s₁ mg mb G Y fa o pm cd doc dV kV ho hd hcd hD hmg hg args vals as hpre hlay hrd hwl hlo
 obtain rfl:dV=.none:=Dflts.none hD hdf
 obtain rfl:kV=.none:=Dflts.noKw hD
 obtain ⟨a,vs,ns,rfl,rfl,hobj,hints,hlen⟩:=script_of hn hpre hwl
 refine enter_call (codeAny_mono (call w s₀ s₁ mg mb fa o pm cd doc a vs ns G Y ho (fd_plain hd) hcd hmg hobj hints hlen hg) fun r s' hq=>?_)
 obtain ⟨rfl,h2,h3,h4⟩:=hq
 exact ⟨.inl ⟨.bool true,.bool true,[],rfl,fun _=>rfl,.bool true,post_true l _,fun _=>⟨List.Pairwise.nil,fun _ hm=>(nomatch hm)⟩⟩,h2,h3,h4⟩
section
variable {prog:Program} {w:World} {A:Around} {E:Value→Shared→Prop} {s:Shared} {K:Frag}
end
end Att
namespace L2
open PySem PySem.Spec PyProof.Rows
theorem Qpa:∀ {vs:List Value} {ns:List Int},IntsAre vs ns→Vals (ns.map V.int) vs
 | _,_,.nil=>.nil
 | _,_,.cons n t h=>.cons ⟨t,rfl⟩ (Qpa h)
noncomputable def Q3n (H:Hp):Prop:=∀ b,H b=none∨∃ o xs,H b=some (.frz o (.lst xs))
theorem Qzj {P:Program} {w:World} {K:PySem.W.Frag} {mg mb:Str→Option Value} {CX:CXT} {k:Nat} {fa a:Addr} {fd:FuncData} {x:Str} {sp:Sp} {s₁:Shared} {vs:List Value} {ns:List Int}
  (KX:K.In s₁.heap) (hns:s₁.heap.Ns mainGlobals mg) (hb:s₁.heap.Ns builtinsNs mb) (hbb:∀ x:Str,x ≠ "__name__" → mb x=bootBuiltins x) (hlim:s₁.heap.NoLimit) (hg:s₁.gens = #[])
  (ha:s₁.heap.get? a=some { cls:=.type "list",data:=.seq vs.toArray }) (hi:IntsAre vs ns) (hl:ns.length≤sizeLine) (hr:Room k callerA)
  (F:∀ base:Heap,K.In base→base.Ns mainGlobals mg→FnOk P w K mg base CX k fa fd [x] sp) (hbind:∀ (s:Shared) (u:Value),BindsTo s fd ⟨[u],[]⟩ [(x,u)])
  (hsp:∀ H:Hp,Q3n H→SqL K H a (ns.map V.int)→sp [.ref a] H (fun v _=>v=.bl true) fun _ _ _=>False)
  (hCX:∀ H e s',CX [] H s₁ (fun _ _ _=>False) e s'→False)
  (hbm:∃ bm ob,mg "__builtins__" = some (.ref bm)∧bm≠builtinsNs∧s₁.heap.get? bm=some ob∧ob.cls=.type "module" ∧ ob.dict=some builtinsNs∧ob.data=.plain) (hT:∀ a q,¬ Qy3 K a q) :
  codeAny (model P w) callerA (.call (.ref fa) ⟨[.ref a],[]⟩) (fun r s'=>r=.ok (.ret (.bool true))∧OldK s₁.heap s'.heap∧s'.os=s₁.os∧AllBare s'.gens) s₁:=by
 have rv:=Qpa hi
 have lenV:=hi.length
 -- from an abstract heap in which nothing but the script may be tracked
 have core:∀ H:Hp,Q3n H→SqL K H a (ns.map V.int)→HOk P w H s₁.heap→(∀ b,H b≠none→b=a)→(H a≠none→K.lookup a=none) →
   codeAny (model P w) callerA (.call (.ref fa) ⟨[.ref a],[]⟩) (fun r s'=>r=.ok (.ret (.bool true))∧OldK s₁.heap s'.heap∧s'.os=s₁.os∧AllBare s'.gens) s₁:=by
  intro H hO hS hok hA hK
  have base_of:∀ {b:Addr} {o:Obj},s₁.heap.get? b=some o→H b=none→(Qp9 s₁.heap H).get? b=some o:=fun e n=>Qy2 e n
  have noA:∀ {b:Addr} {o:Obj} {es:Array DictEntry} {ep:Nat},s₁.heap.get? b=some o→o.data=.dict es ep→H b=none:=fun {b o es ep} e d=>by
   cases q:H b with
   | none=>rfl
   | some u =>
    have e':b=a:=hA b (by rw [q];simp)
    subst e'
    rw [ha] at e;cases e
    have d':Data.seq vs.toArray _=Data.dict es ep:=d
    cases d'
  have noS:∀ {b:Addr} {o:Obj},s₁.heap.get? b=some o→o.data=.plain→H b=none:=fun {b o} e d=>by
   cases q:H b with
   | none=>rfl
   | some u =>
    have e':b=a:=hA b (by rw [q];simp)
    subst e'
    rw [ha] at e;cases e
    cases (show Data.seq vs.toArray _=Data.plain from d)
  have nsK:∀ {b:Addr} {m:Str→Option Value},s₁.heap.Ns b m→(Qp9 s₁.heap H).Ns b m:=fun {b m} ⟨o,es,ep,e,d,r⟩=>⟨o,es,ep,base_of e (noA e d),d,r⟩
  have hKb:K.In (Qp9 s₁.heap H):=fun b o e=>base_of (KX b o e) (by
   cases q:H b with
   | none=>rfl
   | some u =>
    have e':b=a:=hA b (by rw [q];simp)
    subst e'
    rw [hK (by rw [q];simp)] at e;cases e)
  have hM:Mod K mg (Qp9 s₁.heap H):=⟨hKb,nsK hns,⟨mb,nsK hb,hbb⟩,let ⟨mc,h1,h2⟩:=hlim;⟨mc,nsK h1,h2⟩,let ⟨bm,ob,b1,b2,b3,b4,b5,b6⟩:=hbm;⟨bm,ob,b1,b2,base_of b3 (noS b3 b6),b4,b5,b6⟩⟩
  have e0:Env0 P w K mg (Qp9 s₁.heap H) callerA [] s₁ H:=⟨rfl,hM,fun b o e=>Q2z e,Nat.le_of_eq (Qxk _ _),trivial,⟨fun b hb=>absurd (show b∈([]:List Addr) from hb) (by simp),fun a q z=>(hT a q z).elim⟩,hok,.of_eq hg⟩
  refine codeAny_mono ((F _ hKb (nsK hns)).run callerA [] s₁ H ⟨[.ref a],[]⟩ [.ref a] [.ref a] _ _ hr e0 (hbind s₁ (.ref a)) (.cons rfl .nil) (hsp H hO hS)) fun r s' h=>?_
  cases r with
  | error e=>exact (hCX H e s' h).elim
  | ok fl =>
   cases fl with
   | next=>exact False.elim h
   | brk=>exact False.elim h
   | cont=>exact False.elim h
   | ret u =>
    obtain ⟨v,H',os,bare,un,hok',r',q⟩:=h
    have q':v=.bl true:=q
    subst q'
    obtain rfl:u=Value.bool true:=r'
    refine ⟨rfl,OldK.of_keep fun b o e=>?_,os,bare⟩
    cases q:H b with
    | none=>exact un.keep b o e q (by intro z;exact absurd (show b∈([]:List Addr) from z) (by simp)) (by simp)
    | some u =>
     rcases hO b with z | ⟨ob,xs,z⟩
     ·rw [q] at z;cases z
     ·have z2:=un.frzs b ob _ z
      obtain ⟨e1,_⟩:=hok b _ z
      obtain ⟨e2,_⟩:=hok' b _ z2
      rw [e] at e1;cases e1
      exact e2
 cases hk:K.lookup a with
 | some o =>
  -- the script is one of the module's own objects
  have e:=KX a o hk
  rw [ha] at e
  cases e
  refine core (fun _=>none) (fun _=>.inl rfl) (.inr ⟨_,vs.toArray,_,hk,rfl,rfl,rfl,by rw [size_toArray,lenV];exact hl,by simpa using rv⟩) (fun b u z=>by have z':(none:Option HO)=some u:=z;cases z') (fun b z=>absurd rfl z) fun z=>absurd rfl z
 | none =>
  refine core (fun b=>if b=a then some (.frz { cls:=.type "list",data:=.seq vs.toArray } (.lst (ns.map V.int))) else none) (fun b=>?_) (.inl (.inr ⟨{ cls:=.type "list",data:=.seq vs.toArray },if_pos rfl⟩)) (fun b u z=>?_) (fun b z=>?_) fun _=>hk
  ·by_cases hb:b=a
   ·exact .inr ⟨_,_,if_pos hb⟩
   ·exact .inl (if_neg hb)
  ·by_cases hb:b=a
   ·have z':=(if_pos hb).symm.trans z
    cases z'
    subst hb
    exact ⟨ha,by rw [length_map];exact hl,vs,_,rv,ha⟩
   ·have z':=(if_neg hb).symm.trans z
    cases z'
  ·by_cases hb:b=a
   ·exact hb
   ·exact absurd (if_neg hb) z
noncomputable abbrev KOf {K:PySem.W.Frag} {h:Heap} (_:K.In h):PySem.W.Frag:=K
theorem Q3o {l:PySem.W.OpenLaw} {n k:Nat} {q:Program} {loose:List Str} {XP:(Str→Option Value)→Heap→Prop} {YP:World→Heap→Prop} {d:DefRec} {K:Params→PySem.W.Frag} {CX:World→CXT} {sp:World→Sp} {x:Str}
  (hn:l.most=some n) (hn2:n≤sizeLine) (hdf:d.params.defaults=[]) (hr:Room k callerA)
  (hY:∀ (w:World) (h:Heap),YP w h→(K w.params).In h)
  (F:∀ (w:World) (mg:Str→Option Value) (fa:Addr) (h:Heap),(K w.params).In h→h.Ns mainGlobals mg→mg d.name=some (.ref fa) →
   ∃ fd:FuncData,(∀ (s:Shared) (u:Value),BindsTo s fd ⟨[u],[]⟩ [(x,u)]) ∧
    ∀ base:Heap,(K w.params).In base→base.Ns mainGlobals mg→FnOk l.prog w (K w.params) mg base (CX w) k fa fd [x] (sp w))
  (hsp:∀ (w:World) (H:Hp) (a:Addr) (ns:List Int),ns.length≤n→Q3n H→SqL (K w.params) H a (ns.map V.int)→sp w [.ref a] H (fun v _=>v=.bl true) fun _ _ _=>False)
  (hCX:∀ (w:World) (H:Hp) (s:Shared) (e:Value) (s':Shared),CX w [] H s (fun _ _ _=>False) e s'→False) (hT:∀ (w:World) a q,¬ Qy3 (K w.params) a q) :
  PySem.W.WalkO q loose XP YP l.row.toRowW d [] (fun f vs=>PySem.call f vs):=by
 refine Att.attach_call hn hdf fun w s₀ s₁ mg mb fa o pm cd doc a vs ns G Y ho hd hcd hmg hobj hints hlen hg=>?_
 have KX:=hY w _ Y
 obtain ⟨fd,hb,hF⟩:=F w mg fa _ KX G.T.g hmg
 exact Qzj KX G.T.g G.T.b G.T.builtins G.T.nolimit hg hobj hints (Nat.le_trans hlen hn2) hr hF hb (fun H hO hS=>hsp w H a ns hlen hO hS) (fun H e s'=>hCX w H s₁ e s') G.T.bmain (hT w)
theorem Qzk {l:PySem.W.OpenLaw} {n k:Nat} {q:Program} {loose:List Str} {XP:(Str→Option Value)→Heap→Prop} {YP:World→Heap→Prop} {d:DefRec} {K:Params→PySem.W.Frag} {CX:CXT} {sp:PySem.W.Frag→Sp} {x:Str}
  (hn:l.most=some n) (hn2:n≤sizeLine) (hdf:d.params.defaults=[]) (hr:Room k callerA)
  (hY:∀ (w:World) (h:Heap),YP w h→(K w.params).In h)
  (F:∀ (w:World) (mg:Str→Option Value) (fa:Addr) (h:Heap),(K w.params).In h→h.Ns mainGlobals mg→mg d.name=some (.ref fa) →
   ∃ fd:FuncData,(∀ (s:Shared) (u:Value),BindsTo s fd ⟨[u],[]⟩ [(x,u)]) ∧
    ∀ base:Heap,(K w.params).In base→base.Ns mainGlobals mg→FnOk l.prog w (K w.params) mg base CX k fa fd [x] (sp (K w.params)))
  (hsp:∀ (K:PySem.W.Frag) (H:Hp) (a:Addr) (ns:List Int),ns.length≤n→Q3n H→SqL K H a (ns.map V.int)→sp K [.ref a] H (fun v _=>v=.bl true) fun _ _ _=>False)
  (hCX:∀ (H:Hp) (s:Shared) (e:Value) (s':Shared),CX [] H s (fun _ _ _=>False) e s'→False) (hT:∀ (w:World) a q,¬ Qy3 (K w.params) a q) :
  PySem.W.WalkO q loose XP YP l.row.toRowW d [] (fun f vs=>PySem.call f vs) :=
 Q3o (K:=K) (CX:=fun _=>CX) (sp:=fun w=>sp (K w.params)) hn hn2 hdf hr hY F (fun w H a ns h1 h2 h3=>hsp (K w.params) H a ns h1 h2 h3) (fun _ H s e s'=>hCX H s e s') hT
noncomputable def Qek (s:Stmt):Arguments:=match s with
 | .FunctionDef _ a _ _ _ _ _ _ _ _=>a
 | _=>{ posonlyargs:=[],args:=[],vararg:=none,kwonlyargs:=[],kw_defaults:=[],kwarg:=none,defaults:=[] }
noncomputable def Qbq (s:Stmt):List Stmt:=match s with
 | .FunctionDef _ _ b _ _ _ _ _ _ _=>b
 | _=>[]
noncomputable def Qg (s:Stmt):Scope:=match s with
 | .FunctionDef _ _ _ _ _ _ sc _ _ _=>sc
 | _=>{ kind:=.function,names:=[],isGenerator:=false,isCoroutine:=false }
noncomputable abbrev CX0:CXT:=fun _ _ _ _ _ _=>False
noncomputable abbrev E0:XK:=fun _ _ _=>False
theorem Qacm {X:Cx}:Qt1 CX0 X E0:=fun _ _ _ _ _ _ _ h=>h.elim
structure Fun (K:PySem.W.Frag) (x qual:Str) (st:Stmt) (f:Addr) (fd:FuncData):Prop where
 ex:∃ (oc:Value) (od:Option Addr) (kV doc pm:Value) (an:Option Addr) (cdv ct:Value) (osl:Array (Option Value)),
  fd=PySem.W.fnOf x qual (Qek st) (Qbq st) (Qg st) .none kV doc pm an cdv ct∧K.lookup f=some ⟨oc,od,.func fd,osl⟩∧PySem.W.codeIn K cdv qual=true
 kp:PySem.W.keepIn K (.ref f)=true
section
variable {P:Program} {w:World} {K:PySem.W.Frag} {mg:Str→Option Value} {base:Heap}
theorem Fun.ok {x qual:Str} {st:Stmt} {f:Addr} {fd:FuncData} {N ps:List Str} {k:Nat} {sp:Sp} (F:Fun K x qual st f fd) (S:FnScope N ps (Qg st)) (len:∀ vs H Q E,sp vs H Q E→vs.length=ps.length)
  (hbody:∀ (cdv:Value) (A:Around) (outer:List Env) (s:Shared) (H:Hp) (vs:List V) (Q:VK) (E:XK),Room k (A.deeper (envOfC qual (Qg st) s.heap.objs.size f cdv))→sp vs H Q E →
   ∃ t,PSs (Qif (fun _=>true) CX0 P w K mg base N qual (Qg st) f cdv A outer s H E).nox (Qbq st) t∧t { nx:=fun _ H'=>Q .non H',rt:=Q } (Qcr N vs) H):FnOk P w K mg base CX0 (k+1) f fd ps sp:=by
 obtain ⟨oc,od,kV,doc,pm,an,cdv,ct,osl,rfl,lk,hcd⟩:=F.ex
 refine Q6i (g:=fun _=>true) lk hcd S len fun A outer s H vs Q E hr hsp=>?_
 obtain ⟨t,h,q⟩:=hbody cdv A outer s H vs Q E hr hsp
 exact ⟨t,h.nox,q⟩
theorem Fun.binds {x qual:Str} {st:Stmt} {f:Addr} {fd:FuncData} {ps:List Str} (F:Fun K x qual st f fd)
  (h:∀ (kV doc pm:Value) (an:Option Addr) (cdv ct:Value) (us:List Value),us.length=ps.length→bindArgs (PySem.W.fnOf x qual (Qek st) (Qbq st) (Qg st) .none kV doc pm an cdv ct) ⟨us,[]⟩=pure (ps.zip us)):Binds K fd ps []:=by
 obtain ⟨oc,od,kV,doc,pm,an,cdv,ct,osl,rfl,lk,hcd⟩:=F.ex
 exact .all (h kV doc pm an cdv ct)
theorem Q83 {x qual:Str} {st:Stmt} {f:Addr} {oc:Value} {od an:Option Addr} {osl:Array (Option Value)} {kV doc pm cdv ct:Value} (l:K.lookup f=some ⟨oc,od,.func (PySem.W.fnOf x qual (Qek st) (Qbq st) (Qg st) .none kV doc pm an cdv ct),osl⟩)
  (c:PySem.W.codeIn K cdv qual=true) (k:PySem.W.keepIn K (.ref f)=true):Fun K x qual st f (PySem.W.fnOf x qual (Qek st) (Qbq st) (Qg st) .none kV doc pm an cdv ct):=⟨⟨oc,od,kV,doc,pm,an,cdv,ct,osl,rfl,l,c⟩,k⟩
end
section
variable {X:Cx}
theorem pv (i:Nat) {x:Str} {pos:Pos} (hN:X.N[i]?=some x:=by rfl) (hv:Vis X.env.scope x:=by first | exact Or.inl rfl | exact Or.inr (Or.inl rfl) | exact Or.inr (Or.inr rfl)) (hd:(x==("__debug__" : Str))=false:=by decide)
  (hcd:(x==("__classdict__" : Str))=false:=by decide):PE X (.Name x pos) (Qom i):=Q7x hN hv hd hcd
end
theorem ite2 {c A B:Prop} [Decidable c] (h1:c→A) (h2:¬ c→B):if c then A else B:=by
 by_cases h:c
 ·rw [if_pos h]
  exact h1 h
 ·rw [if_neg h]
  exact h2 h
noncomputable def Same (H H':Hp):Prop:=∀ b o,H b=some o→H' b=some o
theorem Same.refl (H:Hp):Same H H:=fun _ _ h=>h
theorem Same.trans {H H1 H2:Hp} (a:Same H H1) (b:Same H1 H2):Same H H2:=fun c o h=>b c o (a c o h)
theorem Same.seq {K:PySem.W.Frag} {H H':Hp} {a:Addr} {xs:List V} (e:Same H H') (h:SqL K H a xs):SqL K H' a xs:=by
 rcases h with (h | ⟨o,h⟩) | h
 ·exact .inl (.inl (e _ _ h))
 ·exact .inl (.inr ⟨o,e _ _ h⟩)
 ·exact .inr h
structure LamT where
 qual:Str
 params:Arguments
 body:Expr
 scope:Scope
 caps:List Str
 ps:List Str
noncomputable def Qzl:List (Nat×LamT):=[]
section
variable {κ:Type} [DecidableEq κ]
end
section
variable {P:Program} {w:World} {H:Hp} {h:Heap} {a:Addr}
end
section
variable {X:Cx} {pins:List (Addr×Obj)} {σ:St} {H:Hp} {s:Shared} {a:Addr} {y v:V} {u r:Value} {o:Option V} {A:Around} {E:Value→Shared→Prop}
end
section
variable {X:Cx} {pins:List (Addr×Obj)} {σ:St} {H:Hp} {s:Shared} {a:Addr} {kvs:List (Key×V)} {k:Key} {u:Value} {A:Around} {E:Value→Shared→Prop}
end
section
variable {X:Cx} {o i e value:Expr} {pos pos' tpos:Pos} {td ty tv:TE}
end
section
variable {X:Cx} {pos:Pos}
end
structure M1 (X:Cx) (o:Expr) (m:Str) (apos:Pos) (e:Expr) (cpos:Pos):Prop where
 base:attributeBase o m X.env (eval o X.env)=eval o X.env
 few:((backTo cpos (starEach [e] X.env)).all (fun x=>!x.1)&&(backToKw cpos (keywordEach [] X.env)).all (fun x=>x.1.isSome)
  && decide (([e]:List Expr).length+([]:List Keyword).length+(if ([]:List Keyword).isEmpty then 0 else 1)<30))=true
 line:(apos.endLine==cpos.line)=true
 trees:backTo cpos (starEach [e] X.env)=[(false,eval e X.env)]
structure M2 (X:Cx) (o:Expr) (m:Str) (apos:Pos) (e f:Expr) (cpos:Pos):Prop where
 base:attributeBase o m X.env (eval o X.env)=eval o X.env
 few:((backTo cpos (starEach [e,f] X.env)).all (fun x=>!x.1)&&(backToKw cpos (keywordEach [] X.env)).all (fun x=>x.1.isSome)
  && decide (([e,f]:List Expr).length+([]:List Keyword).length+(if ([]:List Keyword).isEmpty then 0 else 1)<30))=true
 line:(apos.endLine==cpos.line)=true
 trees:backTo cpos (starEach [e,f] X.env)=[(false,eval e X.env),(false,eval f X.env)]
section
variable {X:Cx} {pins:List (Addr×Obj)} {σ:St} {H:Hp} {s:Shared} {a:Addr} {y d:V} {u r:Value} {o:Option V} {A:Around} {E:Value→Shared→Prop}
end
section
variable {X:Cx} {o e f:Expr} {apos cpos:Pos} {td ty tx:TE}
end
section
variable {X:Cx} {pins:List (Addr×Obj)} {σ:St} {H:Hp} {s:Shared} {a:Addr} {kvs:List (Key×V)} {A:Around} {E:Value→Shared→Prop}
end
section
variable {X:Cx} {pins:List (Addr×Obj)} {σ:St} {H:Hp} {s:Shared} {a:Addr} {y:V} {u:Value} {A:Around} {E:Value→Shared→Prop}
end
noncomputable def Qjf (env:Env):List (Str×NameKind)→List (Str×Addr)→List (Str×Addr)
 | [],acc=>acc
 | (n,k)::r,acc=>if k==.free then Qjf env r ((n,(env.cells.lookup n).getD 0)::acc) else Qjf env r acc
theorem Qiu {env:Env}:∀ (names:List (Str×NameKind)) (acc:List (Str×Addr)),(∀ x∈names,x.2=.free→∃ c,env.cells.lookup x.1=some c) →
  (forIn names acc (fun (x:Str×NameKind) (cs:List (Str×Addr))=>(if (x.2==.free)=true then do let a ← cellOf env x.1;pure (ForInStep.yield ((x.1,a)::cs)) else pure (ForInStep.yield cs):Sem (ForInStep (List (Str×Addr))))))=(pure (Qjf env names acc):Sem (List (Str×Addr)))
 | [],acc,_=>by rw [List.forIn_nil];rfl
 | (n,k)::r,acc,h=>by
  have hr:∀ x∈r,x.2=.free→∃ c,env.cells.lookup x.1=some c:=fun x hx=>h x (mem_cons_of_mem _ hx)
  rw [List.forIn_cons]
  unfold Qjf
  by_cases hk:(k==NameKind.free)=true
  ·obtain ⟨c,hc⟩:=h (n,k) mem_cons_self (by simpa using hk)
   have hc':env.cells.lookup n=some c:=hc
   rw [if_pos hk]
   simp only [hk,if_true,cellOf,hc',pure_bind,Option.getD_some]
   exact Qiu r _ hr
  ·rw [if_neg hk]
   simp only [hk,if_false,pure_bind,Bool.false_eq_true]
   exact Qiu r _ hr
theorem Qmm {env:Env} {scope:Scope} (h:∀ x∈scope.names,x.2=.free→∃ c,env.cells.lookup x.1=some c):closureFor scope env=pure (Qjf env scope.names []):=by
 have q:=Qiu (env:=env) scope.names [] h
 unfold closureFor
 simp only [bind_pure_comp] at q ⊢
 have e:(fun (x:Str×NameKind) (r:List (Str×Addr))=>(if (x.2==NameKind.free)=true then (fun a=>ForInStep.yield ((x.1,a)::r)) <$> cellOf env x.1 else pure (ForInStep.yield r):Sem (ForInStep (List (Str×Addr)))))=(fun (x:Str×NameKind) (cs:List (Str×Addr))=>(match x with | (name,kind)=>if (kind==NameKind.free)=true then (fun a=>ForInStep.yield ((name,a)::cs)) <$> cellOf env name else pure (ForInStep.yield cs):Sem (ForInStep (List (Str×Addr))))):=by
  funext x cs
  obtain ⟨n,k⟩:=x
  rfl
 rw [e] at q
 simpa using q
theorem Qcs {env:Env} {x:Str} {c:Addr}:∀ (names:List (Str×NameKind)) (acc:List (Str×Addr)),(∀ y∈names,y.2=.free→∃ c,env.cells.lookup y.1=some c)→(Qjf env names acc).lookup x=some c →
  acc.lookup x=some c∨env.cells.lookup x=some c
 | [],acc,_,h=>.inl h
 | (n,k)::r,acc,hf,h=>by
  have hr:∀ x∈r,x.2=.free→∃ c,env.cells.lookup x.1=some c:=fun x hx=>hf x (mem_cons_of_mem _ hx)
  unfold Qjf at h
  by_cases hk:(k==NameKind.free)=true
  ·rw [if_pos hk] at h
   obtain ⟨d,hd⟩:=hf (n,k) mem_cons_self (by simpa using hk)
   have hd':env.cells.lookup n=some d:=hd
   rcases Qcs r _ hr h with q | q
   ·rw [List.lookup_cons,hd'] at q
    by_cases hx:(x==n)=true
    ·rw [hx] at q
     have e:x=n:=by simpa using hx
     subst e
     simp only [Option.getD_some] at q
     exact .inr (hd'.trans q)
    ·have hx':(x==n)=false:=by simpa using hx
     rw [hx'] at q
     exact .inl q
   ·exact .inr q
  ·rw [if_neg hk] at h
   exact Qcs r _ hr h
theorem Qjg {env:Env} {x:Str}:∀ (names:List (Str×NameKind)) (acc:List (Str×Addr)),((x,NameKind.free)∈names∨∃ c,acc.lookup x=some c)→∃ c,(Qjf env names acc).lookup x=some c
 | [],acc,h=>by
  rcases h with h | h
  ·cases h
  ·exact h
 | (n,k)::r,acc,h=>by
  unfold Qjf
  by_cases hk:(k==NameKind.free)=true
  ·rw [if_pos hk]
   refine Qjg r _ ?_
   by_cases hx:(x==n)=true
   ·exact .inr ⟨_,by rw [List.lookup_cons,hx]⟩
   ·have hx':(x==n)=false:=by simpa using hx
    rcases h with h | ⟨c,h⟩
    ·rcases mem_cons.mp h with e | h
     ·cases e;simp at hx
     ·exact .inl h
    ·exact .inr ⟨c,by rw [List.lookup_cons,hx'];exact h⟩
  ·rw [if_neg hk]
   refine Qjg r _ ?_
   rcases h with h | h
   ·rcases mem_cons.mp h with e | h
    ·cases e;simp at hk
    ·exact .inl h
   ·exact .inr h
theorem Qcw {x:Str} {c:Addr}:∀ (names:List (Str×NameKind)) (n:Nat) (acc:List (Str×Addr)),(cellsFrom n names acc).lookup x=some c→acc.lookup x=some c∨(n≤c∧(x,NameKind.cell)∈names)
 | [],_,_,h=>.inl h
 | (y,k)::r,n,acc,h=>by
  unfold cellsFrom at h
  by_cases hk:(k==NameKind.cell)=true
  ·rw [if_pos hk] at h
   have hk':k=.cell:=by simpa using hk
   rcases Qcw r _ _ h with q | ⟨q1,q2⟩
   ·rw [List.lookup_cons] at q
    by_cases hx:(x==y)=true
    ·rw [hx] at q
     cases q
     exact .inr ⟨Nat.le_refl _,by rw [show x=y by simpa using hx,hk'];exact mem_cons_self⟩
    ·rw [show (x==y)=false by simpa using hx] at q
     exact .inl q
   ·exact .inr ⟨by omega,mem_cons_of_mem _ q2⟩
  ·rw [if_neg hk] at h
   rcases Qcw r _ _ h with q | ⟨q1,q2⟩
   ·exact .inl q
   ·exact .inr ⟨q1,mem_cons_of_mem _ q2⟩
theorem Qd5 {x:Str} {c:Addr}:∀ (names:List (Str×NameKind)) (n:Nat) (acc:List (Str×Addr)),(x,NameKind.cell)∈names→(cellsFrom n names acc).lookup x=some c→n≤c
 | [],_,_,h,_=>by cases h
 | (y,k)::r,n,acc,hm,h=>by
  unfold cellsFrom at h
  by_cases hk:(k==NameKind.cell)=true
  ·rw [if_pos hk] at h
   by_cases hx:(x==y)=true
   ·rcases Qcw r _ _ h with q | ⟨q1,q2⟩
    ·rw [List.lookup_cons,hx] at q
     cases q
     exact Nat.le_refl _
    ·omega
   ·rcases mem_cons.mp hm with e | hm
    ·cases e;simp at hx
    ·have:=Qd5 r _ _ hm h
     omega
  ·rw [if_neg hk] at h
   rcases mem_cons.mp hm with e | hm
   ·cases e;simp at hk
   ·exact Qd5 r _ _ hm h
theorem Qfi:∀ (names:List (Str×NameKind)) (n:Nat) (acc:List (Str×Addr)),(∀ x c,acc.lookup x=some c→c<n)→(∀ x y c,acc.lookup x=some c→acc.lookup y=some c→x=y) →
  ∀ x y c,(cellsFrom n names acc).lookup x=some c→(cellsFrom n names acc).lookup y=some c→x=y
 | [],_,_,_,hi=>hi
 | (z,k)::r,n,acc,hb,hi=>by
  unfold cellsFrom
  by_cases hk:(k==NameKind.cell)=true
  ·rw [if_pos hk]
   refine Qfi r (n+1) _ (fun x c h=>?_) (fun x y c h1 h2=>?_)
   ·rw [List.lookup_cons] at h
    by_cases hx:(x==z)=true
    ·rw [hx] at h;cases h;exact Nat.lt_succ_self _
    ·rw [show (x==z)=false by simpa using hx] at h
     exact Nat.lt_succ_of_lt (hb x c h)
   ·rw [List.lookup_cons] at h1 h2
    by_cases hx:(x==z)=true
    ·rw [hx] at h1;cases h1
     by_cases hy:(y==z)=true
     ·rw [show x=z by simpa using hx,show y=z by simpa using hy]
     ·rw [show (y==z)=false by simpa using hy] at h2
      exact absurd (hb y n h2) (Nat.lt_irrefl _)
    ·rw [show (x==z)=false by simpa using hx] at h1
     by_cases hy:(y==z)=true
     ·rw [hy] at h2;cases h2
      exact absurd (hb x n h1) (Nat.lt_irrefl _)
     ·rw [show (y==z)=false by simpa using hy] at h2
      exact hi x y c h1 h2
  ·rw [if_neg hk]
   exact Qfi r n acc hb hi
theorem Qds {names:List (Str×NameKind)}:∀ (names:List (Str×NameKind)) (h:Heap) (acc:List (Str×Addr)),(∀ x c,acc.lookup x=some c→∃ v,h.IsCell c v)→∀ x c,(cellsFrom h.objs.size names acc).lookup x=some c→∃ v,(pushCells h names).IsCell c v
 | [],_,_,hi=>hi
 | (z,k)::r,h,acc,hi=>by
  unfold cellsFrom pushCells
  by_cases hk:(k==NameKind.cell)=true
  ·rw [if_pos hk,if_pos hk]
   have q:=Qds (names:=names) r (h.push { cls:=.type "cell",data:=.cell none }) ((z,h.objs.size)::acc) (fun x c hx=>by
    rw [List.lookup_cons] at hx
    by_cases hz:(x==z)=true
    ·rw [hz] at hx;cases hx
     exact ⟨none,⟨_,Heap.get?_push_size _ rfl,rfl⟩⟩
    ·rw [show (x==z)=false by simpa using hz] at hx
     obtain ⟨v,w⟩:=hi x c hx
     exact ⟨v,w.keeps fun b o e=>Heap.get?_push_of_some _ e⟩)
   rwa [Heap.size_push] at q
  ·rw [if_neg hk,if_neg hk]
   exact Qds (names:=names) r h acc hi
theorem Qle {M:Model} {A:Around} {E:Value→Shared→Prop} {s:Shared} {scope:Scope} {globals:Addr} {cl:List (Str×Addr)} {qual:Str} {env:Env} {Q:Env→Shared→Prop}
  (hQ:Q { scope:=scope,locals:=s.heap.objs.size,globals:=globals,cells:=cellsFrom (s.heap.objs.size+1) scope.names cl,qual:=qual,func:=none,code:=env.code,frame:=env.frame,builtins:=env.builtins } { s with heap:=pushCells (s.heap.push { cls:=.type "dict",data:=.dict #[] }) scope.names }) :
  wpAny M A (newFunctionEnv scope globals cl [] qual none .none (some env)) Q E s:=by
 simp only [newFunctionEnv,Option.isSome_some,if_true]
 refine wpAny_bind (wpAny_alloc ?_)
 refine wpAny_bind (wpAny_layCells _ (fun name kind cells=>by cases hkc:kind==NameKind.cell <;> simp [hkc]) _ _ _ _ ?_)
 rw [show ({ s with heap:=s.heap.push { cls:=.type "dict",data:=.dict #[] } }:Shared).heap.objs.size=s.heap.objs.size+1 from Heap.size_push ..]
 simp only [List.forIn_nil,pure_bind]
 exact wpAny_pure hQ
theorem Qjh {prog:Program} {w:World} {A:Around} {R:Result→Shared→Prop} {s:Shared} {elt target iter:Expr} {ifs:List Expr} {scope:Scope} {pos:Pos} {it acc:Value} {env:Env} (I:Nat→Shared→Prop)
  (turn:∀ n s,I n s→wpAny (model prog w) A (pyNext it) (fun r s1=>match r with
   | none=>R (.ok .next) s1
   | some v=>wpAny (model prog w) A (letOwnedTupleGo target it v) (fun _ s1'=>wpAny (model prog w) A (assign target env v) (fun _ s2 =>
     wpAny (model prog w) A (forIn ifs true fun c r=>if r=true then do let ok ← isTrue c env (eval c env);pure (ForInStep.yield ok) else pure (ForInStep.yield r)) (fun ok s3 =>
      if ok=true then wpAny (model prog w) A (eval elt env) (fun x s4 =>
       wpAny (model prog w) A (call (.builtin "list.append") [acc,x]) (fun _ s5=>∃ m,m<n∧I m s5) (fun _ _=>False) s4) (fun _ _=>False) s3
      else ∃ m,m<n∧I m s3) (fun _ _=>False) s2) (fun _ _=>False) s1') (fun _ _=>False) s1) (fun _ _=>False) s)
  (n:Nat) (h:I n s) :
  codeAny (model prog w) A (.compLoop (.ListComp elt [⟨target,iter,ifs,0⟩] scope pos) 0 it acc env) R s:=by
 refine codeAny_loop rfl I (fun n s hI=>?_) n h
 show wpAny _ A ((compTurn (.ListComp elt [⟨target,iter,ifs,0⟩] scope pos) 0 it acc env).onRaise (fun x=>do noteFrame x env;theTreesLotGoes x)) _ _ s
 refine wpAny_noted ?_
 rw [compTurn_list]
 refine wpAny_bind (wpAny_standAt (wpAny_bind (wpAny_mono (turn n s hI) (fun r s1 h1=>?_) fun _ _ h'=>h'.elim)))
 cases r with
 | none=>exact wpAny_pure h1
 | some v =>
  refine wpAny_bind (wpAny_mono h1 (fun _ s1' h1'=>wpAny_bind (wpAny_mono h1' (fun _ s2 h2=>wpAny_bind (wpAny_mono h2 (fun ok s3 h3=>?_) fun _ _ h'=>h'.elim)) fun _ _ h'=>h'.elim)) fun _ _ h'=>h'.elim)
  cases ok with
  | false=>exact wpAny_pure ⟨rfl,h3⟩
  | true =>
   exact wpAny_bind (wpAny_bind (wpAny_mono h3 (fun x s4 h4=>wpAny_bind (wpAny_mono h4 (fun _ s5 h5=>wpAny_pure (wpAny_pure ⟨rfl,h5⟩)) fun _ _ h'=>h'.elim)) fun _ _ h'=>h'.elim))
noncomputable def Q8 (X:Cx) (scope:Scope) (N:List Str) (s:Shared) (H:Hp) (fp:List Addr):Cx where
 prog:=X.prog
 w:=X.w
 K:=X.K
 mg:=X.mg
 base:=X.base
 A:=X.A
 N:=N
 s₀:=s
 H₀:=H
 env:={ scope:=relabel scope X.env,locals:=s.heap.objs.size,globals:=X.env.globals,cells:=cellsFrom (s.heap.objs.size+1) scope.names (Qjf X.env scope.names []),qual:=X.env.qual,func:=none,code:=X.env.code,frame:=X.env.frame,builtins:=X.env.builtins }
 outer:=X.stack
 stack:=X.stack
 ex:=fp
 fn:=fun x=>decide ((x,NameKind.cell)∈scope.names)
 calm:=X.calm
 pn:=[]
 xe:=fun _ _=>False
noncomputable def Qef (js:List (Option Nat)) (σ:St):St:=js.map fun o=>match o with | none=>none | some j=>(σ[j]?).join
noncomputable def Qim (X:Cx) (scope:Scope) (N:List Str) (js:List (Option Nat)):Bool :=
 (N.length==js.length)&&(N.zip js).all fun p=>match p.2 with
  | none=>true
  | some j=>X.N[j]?==some p.1&&(scope.names.lookup p.1==some .free&&(X.env.scope.names.lookup p.1==some .cell||X.env.scope.names.lookup p.1==some .free))
noncomputable def scOk (X:Cx) (scope:Scope):Bool :=
 scope.names.all fun p=>(p.2 != .free||(X.env.scope.names.lookup p.1==some .cell||X.env.scope.names.lookup p.1==some .free))&&scope.names.lookup p.1==some p.2
section
variable {X:Cx} {pins:List (Addr×Obj)} {σ:St} {H:Hp} {s:Shared} {scope:Scope}
theorem scOk.get (h:scOk X scope=true) {p:Str×NameKind} (hp:p∈scope.names):(p.2=.free→X.env.scope.names.lookup p.1=some .cell∨X.env.scope.names.lookup p.1=some .free)∧scope.names.lookup p.1=some p.2:=by
 have q:=all_eq_true.mp h p hp
 rw [Bool.and_eq_true] at q
 refine ⟨fun e=>?_,by simpa using q.2⟩
 have q1:=q.1
 rw [e] at q1
 simpa using q1
theorem scOk.cells (I:Inv X pins σ H s) (h:scOk X scope=true):∀ x∈scope.names,x.2=.free→∃ c,X.env.cells.lookup x.1=some c:=fun x hx e=>I.ok.has x.1 ((scOk.get h hx).1 e)
theorem scOk.one (h:scOk X scope=true) {x:Str} {k j:NameKind} (e:(x,k)∈scope.names) (e':(x,j)∈scope.names):k=j:=by
 have q1:=(scOk.get h e).2
 have q2:=(scOk.get h e').2
 exact Option.some.inj (q1.symm.trans q2)
theorem Qkk (I:Inv X pins σ H s) (h:scOk X scope=true) {n:Nat} {x:Str} {c:Addr} (e:(cellsFrom n scope.names (Qjf X.env scope.names [])).lookup x=some c):X.env.cells.lookup x=some c∨(n≤c∧(x,NameKind.cell)∈scope.names):=by
 rcases Qcw _ _ _ e with q | q
 ·rcases Qcs _ _ (scOk.cells I h) q with z | z
  ·cases z
  ·exact .inl z
 ·exact .inr q
theorem Qdl {env:Env} {x:Str} {k:NameKind}:∀ {names:List (Str×NameKind)},(names.map fun (n,k)=>if (k==NameKind.free&&env.scope.kind==.function&&env.kindOf n==some .cell) then (n,NameKind.cell) else (n,k)).lookup x=some k →
  names.lookup x=some k∨(k=.cell∧names.lookup x=some .free)
 | [],h=>by cases h
 | (n,j)::r,h=>by
  rw [map_cons] at h
  replace h:List.lookup x ((if (j==NameKind.free&&env.scope.kind==.function&&env.kindOf n==some .cell)=true then (n,NameKind.cell) else (n,j))::_)=some k:=h
  by_cases hc:(j==NameKind.free&&env.scope.kind==.function&&env.kindOf n==some .cell)=true
  ·rw [if_pos hc,List.lookup_cons] at h
   rw [List.lookup_cons]
   by_cases hx:(x==n)=true
   ·rw [hx] at h ⊢
    cases h
    simp only [Bool.and_eq_true] at hc
    exact .inr ⟨rfl,by rw [show j=.free by simpa using hc.1.1]⟩
   ·rw [show (x==n)=false by simpa using hx] at h ⊢
    exact Qdl h
  ·rw [if_neg hc,List.lookup_cons] at h
   rw [List.lookup_cons]
   by_cases hx:(x==n)=true
   ·rw [hx] at h ⊢
    exact .inl h
   ·rw [show (x==n)=false by simpa using hx] at h ⊢
    exact Qdl h
theorem Qf6 {env:Env} {x:Str}:∀ {names:List (Str×NameKind)},names.lookup x=some .free →
  (names.map fun (n,k)=>if (k==NameKind.free&&env.scope.kind==.function&&env.kindOf n==some .cell) then (n,NameKind.cell) else (n,k)).lookup x=some .cell ∨
  (names.map fun (n,k)=>if (k==NameKind.free&&env.scope.kind==.function&&env.kindOf n==some .cell) then (n,NameKind.cell) else (n,k)).lookup x=some .free
 | [],h=>by cases h
 | (n,j)::r,h=>by
  rw [map_cons]
  show List.lookup x ((if (j==NameKind.free&&env.scope.kind==.function&&env.kindOf n==some .cell)=true then (n,NameKind.cell) else (n,j))::_)=some .cell∨List.lookup x ((if (j==NameKind.free&&env.scope.kind==.function&&env.kindOf n==some .cell)=true then (n,NameKind.cell) else (n,j))::_)=some .free
  rw [List.lookup_cons] at h
  by_cases hx:(x==n)=true
  ·rw [hx] at h
   cases h
   by_cases hc:(NameKind.free==NameKind.free&&env.scope.kind==.function&&env.kindOf n==some .cell)=true
   ·rw [if_pos hc,List.lookup_cons,hx];exact .inl rfl
   ·rw [if_neg hc,List.lookup_cons,hx];exact .inr rfl
  ·rw [show (x==n)=false by simpa using hx] at h
   by_cases hc:(j==NameKind.free&&env.scope.kind==.function&&env.kindOf n==some .cell)=true
   ·rw [if_pos hc,List.lookup_cons,show (x==n)=false by simpa using hx];exact Qf6 h
   ·rw [if_neg hc,List.lookup_cons,show (x==n)=false by simpa using hx];exact Qf6 h
theorem Q3p {N:List Str} {fp:List Addr} (I:Inv X pins σ H s) (hk:scope.kind=.function) (h:scOk X scope=true) (hf:∀ b∈fp,Qis X pins H b) (ho:∀ b∈fp,∃ o,s.heap.get? b=some o∧∀ v,o.data≠.cell v):(Q8 X scope N s H fp).Ok where
 mod:=I.ok.mod
 kind:=hk
 glob:=I.ok.glob
 blt:=I.ok.blt
 above:=Nat.le_refl _
 inj:=fun x y c h1 h2=>Qfi _ _ _ (fun z c hz=>by
   rcases Qcs _ _ (scOk.cells I h) hz with q | q
   ·cases q
   ·obtain ⟨v,w⟩:=I.cell z c q
    exact Nat.lt_succ_of_lt w.lt) (fun y z c h1 h2=>by
   rcases Qcs _ _ (scOk.cells I h) h1 with q | q
   ·cases q
   ·rcases Qcs _ _ (scOk.cells I h) h2 with q' | q'
    ·cases q'
    ·exact I.ok.inj y z c q q') x y c h1 h2
 has:=fun x hx=>by
  have key:(x,NameKind.cell)∈scope.names∨(x,NameKind.free)∈scope.names:=by
   rcases hx with hx | hx
   ·rcases Qdl hx with q | ⟨_,q⟩
    ·exact .inl (PySem.mem_of_lookup q)
    ·exact .inr (PySem.mem_of_lookup q)
   ·rcases Qdl hx with q | ⟨q,_⟩
    ·exact .inr (PySem.mem_of_lookup q)
    ·cases q
  rcases key with q | q
  ·have e:scope.names.lookup x=some .cell:=(scOk.get h q).2
   exact Option.isSome_iff_exists.mp (PySem.W.cellsFrom_some scope.names _ _ (.inl e))
  ·obtain ⟨c,hc⟩:=Qjg (env:=X.env) scope.names [] (.inl q)
   exact Option.isSome_iff_exists.mp (PySem.W.cellsFrom_some scope.names _ _ (.inr (by rw [hc];rfl)))
 cab:=fun x c hx hc=>Nat.le_of_succ_le (Qd5 _ _ _ (of_decide_eq_true hx) hc)
 hd:=I.ok.hd
 frames:=I.ok.frames
 stk:=.inl rfl
 exf:=fun b hb=>by
  obtain ⟨o,e,d⟩:=ho b hb
  refine ⟨Nat.ne_of_lt (Heap.lt_size e),fun x c hc z=>?_⟩
  rcases Qkk I h hc with q | ⟨q,_⟩
  ·exact (hf b hb).2.2.2.2.1 x c q z
  ·rw [z] at q
   exact absurd (Nat.lt_of_lt_of_le (Heap.lt_size e) (Nat.le_of_succ_le q)) (Nat.lt_irrefl _)
 bs:=I.bs
 bsz:=Nat.le_trans I.ok.bsz I.sz
 noex:=fun b o e hb=>by
  rcases (hf b hb).2.2.2.1 with q | q
  ·exact I.ok.noex b o e q
  ·exact absurd (Nat.lt_of_lt_of_le (Heap.lt_size e) (Nat.le_trans I.ok.bsz q)) (Nat.lt_irrefl _)
 exfs:=fun b hb hs=>by
  rcases mem_cons.mp (I.stkSub b hs) with q | q
  ·exact (hf b hb).2.1 q
  ·exact (hf b hb).2.2.1 q
 funs:=I.stack
 frf:=⟨I.stkFree,I.tab⟩
theorem Qry {N:List Str} {js:List (Option Nat)} {fp:List Addr} (I:Inv X pins σ H s) (hk:scope.kind=.function) (h:scOk X scope=true) (hc:Qim X scope N js=true) (hf:∀ b∈fp,Qis X pins H b) (ho:∀ b∈fp,∃ o,s.heap.get? b=some o∧∀ v,o.data≠.cell v) :
  Inv (Q8 X scope N s H fp) [] (Qef js σ) H { s with heap:=pushCells (s.heap.push { cls:=.type "dict",data:=.dict #[] }) scope.names }:=by
 have kp:∀ b o,s.heap.get? b=some o→(pushCells (s.heap.push { cls:=.type "dict",data:=.dict #[] }) scope.names).get? b=some o:=fun b o e=>pushCells_keeps _ _ _ _ (Heap.get?_push_of_some _ e)
 have hcap:N.length=js.length∧∀ p∈N.zip js,∀ j,p.2=some j→X.N[j]?=some p.1∧scope.names.lookup p.1=some .free∧(X.env.scope.names.lookup p.1=some .cell∨X.env.scope.names.lookup p.1=some .free):=by
  unfold Qim at hc
  rw [Bool.and_eq_true] at hc
  refine ⟨by simpa using hc.1,fun p hp j e=>?_⟩
  have q:=all_eq_true.mp hc.2 p hp
  rw [e] at q
  simpa using q
 refine ⟨Q3p I hk h hf ho,rfl,I.bare,Un.kept kp,?_,fun x c e=>?_,I.hok.fresh (Nat.le_refl _),fun x c e=>?_,fun p hp=>absurd (show p∈([]:List (Addr×Obj)) from hp) (by simp),I.hok.kept kp,?_⟩
 ·refine ⟨fun _=>none,(Heap.Ns.new s.heap (.type "dict")).keeps (pushCells_keeps _ _),fun i x v h1 h2 h3=>?_⟩
  obtain ⟨o,ho1,ho2⟩:∃ o,js[i]?=some o∧(match o with | none=>none | some j=>(σ[j]?).join)=some v:=by
   unfold Qef at h2
   rw [getElem?_map] at h2
   cases e:js[i]? with
   | none=>rw [e] at h2;cases h2
   | some o=>rw [e] at h2;exact ⟨o,rfl,Option.some.inj h2⟩
  cases o with
  | none=>cases ho2
  | some j =>
   have hz:(x,some j)∈N.zip js:=mem_of_getElem? (i:=i) (by rw [List.getElem?_zip_eq_some];exact ⟨h1,ho1⟩)
   obtain ⟨q1,q2,q3⟩:=hcap.2 _ hz j rfl
   have hσ:σ[j]?=some (some v):=by
    have ho2:(σ[j]?).join=some v:=ho2
    cases e:σ[j]? with
    | none=>rw [e] at ho2;cases ho2
    | some w=>rw [e] at ho2;exact congrArg some ho2
   obtain ⟨m,hn,hl⟩:=I.loc
   obtain ⟨u,r,l⟩:=hl j x v q1 hσ (by rcases q3 with z | z;exact .inr (.inl z);exact .inr (.inr z))
   refine ⟨u,r,.inr ⟨Qf6 q2,?_⟩⟩
   have fin:∀ c,X.env.cells.lookup x=some c→s.heap.IsCell c (some u)→∃ c,(cellsFrom (s.heap.objs.size+1) scope.names (Qjf X.env scope.names [])).lookup x=some c∧(pushCells (s.heap.push { cls:=.type "dict",data:=.dict #[] }) scope.names).IsCell c (some u):=fun c hc hv=>by
    obtain ⟨d,hd⟩:=Qjg (env:=X.env) scope.names [] (.inl (PySem.mem_of_lookup q2))
    obtain ⟨c',hc'⟩:=Option.isSome_iff_exists.mp (PySem.W.cellsFrom_some scope.names (s.heap.objs.size+1) (Qjf X.env scope.names []) (.inr (by rw [hd];rfl)))
    refine ⟨c',hc',?_⟩
    rcases Qkk I h hc' with z | ⟨_,z⟩
    ·rw [hc] at z;cases z
     exact hv.keeps kp
    ·have:=scOk.one h z (PySem.mem_of_lookup q2)
     cases this
   rcases l with ⟨hk,_⟩ | ⟨_,c,hc,hv⟩
   ·have hk:X.env.scope.names.lookup x=some .local:=hk
    rcases q3 with z | z <;> (rw [z] at hk;cases hk)
   ·exact fin c hc hv
 ·have q:=Qds (names:=[]) scope.names (s.heap.push { cls:=.type "dict",data:=.dict #[] }) (Qjf X.env scope.names []) (fun y d hd=>by
   rcases Qcs _ _ (scOk.cells I h) hd with z | z
   ·cases z
   ·obtain ⟨v,w⟩:=I.cell y d z
    exact ⟨v,w.keeps fun b o e=>Heap.get?_push_of_some _ e⟩)
  rw [Heap.size_push] at q
  exact q x c e
 ·rcases Qkk I h e with q | ⟨q,_⟩
  ·rcases I.freeC x c q with z | ⟨_,z⟩
   ·exact .inl z
   ·refine .inr ⟨?_,z⟩
    show decide ((x,NameKind.cell)∈scope.names)=false
    refine decide_eq_false fun hx=>?_
    have h1:=Qd5 _ _ _ hx e
    obtain ⟨v,w⟩:=I.cell x c q
    exact absurd (Nat.lt_of_lt_of_le (Nat.lt_succ_of_lt w.lt) h1) (Nat.lt_irrefl _)
  ·exact .inl (I.hok.fresh (Nat.le_of_succ_le q))
 ·show (Qef js σ).length=N.length
  unfold Qef
  rw [length_map,hcap.1]
end
noncomputable def Q6j (J:It) (l:Addr) (σ:St) (H1:Hp) (g:TG) (tc:TT) (te:TE) (Q:VK):Prop:=∃ W:Nat→Nat→List V→St→Hp→Prop,
 (∃ m,W 0 m [] σ (upd H1 l (.lst [])))∧∀ i m ys σ2 H2,W i m ys σ2 H2 →
  (J.stop i H2∧Q (.ref l) H2) ∨
  (J.go i H2∧∀ x H3,J.yld i H2 x H3→g x σ2 H3 fun σ4 H4=>tc σ4 H4 fun b H5 =>
   if b=true then te σ4 H5 fun y H6=>H6 l=some (.lst ys)∧ys.length<sizeLine∧∃ m',m'<m∧W (i+1) m' (ys++[y]) σ4 (upd H6 l (.lst (ys++[y])))
   else ∃ m',m'<m∧W (i+1) m' ys σ4 H5)
noncomputable abbrev Qpb (wi:TI) (js:List (Option Nat)) (g:TG) (tc:TT) (te:TE):TE:=fun σ H Q=>wi σ H fun J H1=>∀ l,H1 l=none→Q6j J l (Qef js σ) H1 g tc te Q
noncomputable def PTs (X:Cx) (ifs:List Expr) (t:TT):Prop :=
 ∀ (pins:List (Addr×Obj)) (s:Shared) (σ:St) (H:Hp) (Q:Bool→Hp→Prop),Inv X pins σ H s→t σ H Q →
  wpAny (model X.prog X.w) X.A (forIn ifs true fun c r=>if r=true then do let ok ← isTrue c X.env (eval c X.env);pure (ForInStep.yield ok) else pure (ForInStep.yield r)) (TP X pins σ Q) X.xe s
noncomputable abbrev tYes:TT:=fun _ H Q=>Q true H
theorem Q3q {X:Cx}:PTs X [] tYes:=fun pins s σ H Q I h=>wpAny_tests_nil ⟨H,I,h⟩
theorem Q3r {X:Cx} {c:Expr} {t:TT} (h:PT X c t):PTs X [c] t:=fun pins s σ H Q I q=>wpAny_tests_one (h pins s σ H Q I q)
theorem Qzm {X:Cx} {tg elt iter:Expr} {ifs:List Expr} {scope:Scope} {pos:Pos} {N:List Str} {js:List (Option Nat)} {wi:TI} {g:TG} {tc:TT} {te:TE} (hcalm:X.calm=true)
  (hi:PI X tg iter wi) (hg:∀ s H fp,PG (Q8 X scope N s H fp) tg g) (hc:∀ s H fp,PTs (Q8 X scope N s H fp) ifs tc) (he:∀ s H fp,PE (Q8 X scope N s H fp) elt te)
  (hk:scope.kind=.function:=by rfl) (h1:scOk X scope=true:=by rfl) (h2:Qim X scope N js=true:=by rfl)
  (hs:∀ x,foldedSetIterable iter X.env x=pure x:=by intro _;rfl):PE X (.ListComp elt [⟨tg,iter,ifs,0⟩] scope pos) (Qpb wi js g tc te):=by
 intro pins s σ H Q I h
 rw [eval_ListComp]
 refine wpAny_comprehension_free (use:=none) rfl hs (Qmm (scOk.cells I h1)) hk (fun x hx hl=>by rw [(scOk.get h1 hx).2,hl]) ?_
 refine thn (hi pins s σ H _ I h) fun v s1 h1'=>thn h1' fun itv s2 h2'=>?_
 obtain ⟨it,fp,tn,J,H2,e,I2,T,st2,f2,q⟩:=h2'
 subst e
 refine wpAny_newObj_type ?_
 have hl:H2 s2.heap.objs.size=none:=I2.hok.fresh (Nat.le_refl _)
 obtain ⟨W,⟨m0,w0⟩,turn⟩:=q _ hl
 have I3:Inv X pins σ (upd H2 s2.heap.objs.size (.lst [])) { s2 with heap:=s2.heap.push { cls:=.type "list",data:=.seq ([]:List Value).toArray } }:=I2.lnew (t':=s2.toks) (ys:=[]) .nil (Nat.zero_le _)
 generalize hs3:({ s2 with heap:=s2.heap.push { cls:=.type "list",data:=.seq ([]:List Value).toArray } }:Shared)=s3 at I3
 generalize hH3:upd H2 s2.heap.objs.size (.lst [])=H3 at I3 w0
 generalize hl':s2.heap.objs.size=l at turn hH3 hl
 have kp3:∀ b o,s2.heap.get? b=some o→s3.heap.get? b=some o:=fun b o e=>by rw [←hs3];exact Heap.get?_push_of_some _ e
 have ob3:∀ b∈fp,∃ o,s3.heap.get? b=some o∧∀ v,o.data≠.cell v:=fun b hb=>by
  obtain ⟨o,e,d⟩:=T.obj _ _ st2 b hb
  exact ⟨o,kp3 b o e,d⟩
 have f3:∀ b∈fp,Qis X pins H3 b:=fun b hb=>by
  obtain ⟨o,e,d⟩:=T.obj _ _ st2 b hb
  refine ⟨?_,(f2 b hb).2⟩
  rw [←hH3,Qab (Nat.ne_of_lt (by rw [←hl'];exact Heap.lt_size e))]
  exact (f2 b hb).1
 refine Qle ?_
 have I4:=Qry (N:=N) (js:=js) I3 hk h1 h2 f3 ob3
 have st4:tn 0 (pushCells (s3.heap.push { cls:=.type "dict",data:=.dict #[] }) scope.names):=T.keep _ _ _ st2 fun b hb o e=>pushCells_keeps _ _ _ _ (Heap.get?_push_of_some _ (kp3 b o e))
 have fr4:∀ b∈fp,H3 b=none:=fun b hb=>(f3 b hb).1
 have fpX:∀ {H':Hp},(∀ b∈fp,H' b=none)→∀ b∈fp,Qis (Q8 X scope N s3 H3 fp) [] H' b:=fun hn b hb=>by
  have ok:=I4.ok
  refine ⟨hn b hb,(ok.exf b hb).1,ok.exfs b hb,.inl hb,(ok.exf b hb).2,fun p hp=>absurd (show p∈([]:List (Addr×Obj)) from hp) (by simp)⟩
 -- the block's end
 have fin:∀ {σ':St} {H':Hp} {s':Shared},Inv (Q8 X scope N s3 H3 fp) [] σ' H' s'→Q (.ref l) H'→compPost (model X.prog X.w) X.A X.xe none (EP X pins σ Q) (.ref l) s3.heap.objs.size (.ok .next) s':=fun {σ' H' s'} I' q'=>by
  obtain ⟨m,hn,_⟩:=id I'.loc
  refine ⟨m,hn,fun h' hsb=>⟨.ref l,H',?_,rfl,q'⟩⟩
  have hfr:H' s3.heap.objs.size=none:=I'.free
  refine I3.call' (s':={ s' with heap:=h' }) (ch:=fp) I'.os ⟨fun b o e n hb hx=>?_,fun b o e n hb hx=>?_,I'.base.free,fun b o e hx=>?_,I'.base.tups,I'.base.frzs,I'.base.tbls⟩ (fun b u e=>?_) I'.bare (fun b hb=>⟨(f3 b hb).2.2.2.1,(f3 b hb).2.1,(f3 b hb).2.2.2.2.1,(f3 b hb).2.2.2.2.2⟩)
  ·exact (hsb.2 b (Nat.ne_of_lt (Heap.lt_size e))).trans (I'.base.keep b o e n hb hx)
  ·obtain ⟨sl,z⟩:=I'.base.slot b o e n hb hx
   exact ⟨sl,(hsb.2 b (Nat.ne_of_lt (Heap.lt_size e))).trans z⟩
  ·obtain ⟨o',z⟩:=I'.base.there b o e hx
   exact ⟨o',(hsb.2 b (Nat.ne_of_lt (Heap.lt_size e))).trans z⟩
  ·refine (I'.hok b u e).stay (fun c w' hc z=>(hsb.2 c ?_).trans z) (fun _ z=>z) fun _ _ z=>z
   rintro rfl
   rcases hc with rfl | hc
   ·rw [hfr] at e;cases e
   ·rw [hfr] at hc;cases hc
 have loop:codeAny (model X.prog X.w) X.A (.compLoop (.ListComp elt [⟨tg,iter,ifs,0⟩] scope pos) 0 (.ref it) (.ref l) (Q8 X scope N s3 H3 fp).env) (compPost (model X.prog X.w) X.A X.xe none (EP X pins σ Q) (.ref l) s3.heap.objs.size)
   { s3 with heap:=pushCells (s3.heap.push { cls:=.type "dict",data:=.dict #[] }) scope.names }:=by
  refine Qjh (fun n s'=>∃ i ys σ' H',Inv (Q8 X scope N s3 H3 fp) [] σ' H' s'∧tn i s'.heap∧(∀ b∈fp,H' b=none)∧W i n ys σ' H') ?_ m0 ⟨0,[],Qef js σ,H3,I4,st4,fr4,w0⟩
  rintro n s5 ⟨i,ys,σ5,H5,I5,st5,fr5,w5⟩
  rcases turn i n ys σ5 H5 w5 with ⟨stop,qn⟩ | ⟨go,step⟩
  ·refine thn (T.done (Q8 X scope N s3 H3 fp) rfl rfl rfl hcalm i [] s5 σ5 H5 _ I5 (fpX fr5) st5 stop) fun r s6 ⟨hr,I6⟩=>?_
   subst hr
   exact fin I6 qn
  ·refine thn (T.item (Q8 X scope N s3 H3 fp) rfl rfl rfl hcalm i [] s5 σ5 H5 _ I5 (fpX fr5) st5 go) fun r s6 ⟨u,hr,h6⟩=>?_
   subst hr
   refine thn h6 fun _ s7 ⟨x,H7,I7,r7,y7,st7,fr7⟩=>?_
   have I7':=I7.pinned (fpX fr7) (T.obj _ _ st7)
   have again:∀ {σ8:St} {H8:Hp} {s8:Shared} {ys8:List V},Inv (Q8 X scope N s3 H3 fp) ([]++Qkh fp s7.heap) σ8 H8 s8→(∃ m',m'<n∧W (i+1) m' ys8 σ8 H8) →
     ∃ m,m<n∧∃ i ys σ' H',Inv (Q8 X scope N s3 H3 fp) [] σ' H' s8∧tn i s8.heap∧(∀ b∈fp,H' b=none)∧W i m ys σ' H':=fun {σ8 H8 s8 ys8} I8 ⟨m',hm,w8⟩=>by
    refine ⟨m',hm,i+1,ys8,σ8,H8,I8.unpinned,T.keep _ _ _ st7 fun b hb o e=>(I8.pin (b,o) (mem_append_right _ (mem_append_right _ (Qb8 hb e)))).1,fun b hb=>?_,w8⟩
    obtain ⟨o,e,d⟩:=T.obj _ _ st7 b hb
    exact (I8.pin (b,o) (mem_append_right _ (mem_append_right _ (Qb8 hb e)))).2.1
   refine thn (hg s3 H3 fp _ s7 σ5 H7 x u _ I7' r7 (step x H7 y7)) fun _ s8 ⟨σ8,H8,I8,q8⟩=>?_
   refine thn (hc s3 H3 fp _ s8 σ8 H8 _ I8 q8) fun ok s9 ⟨H9,I9,q9⟩=>?_
   cases ok with
   | false =>
    rw [if_neg Bool.false_ne_true] at q9 ⊢
    exact again I9 q9
   | true =>
    rw [if_pos rfl] at q9 ⊢
    refine thn (he s3 H3 fp _ s9 σ8 H9 _ I9 q9) fun y s10 ⟨vy,H10,I10,r10,a10,z10,q10⟩=>?_
    refine thn (Qkj (X:=Q8 X scope N s3 H3 fp) _ s10 σ8 H10 (.ref l) [vy] (.ref l) [y] (fun _ H'=>∃ m',m'<n∧W (i+1) m' (ys++[vy]) σ8 H') I10 rfl (.cons r10 .nil) ⟨l,ys,vy,rfl,rfl,a10,z10,q10⟩) fun _ s11 ⟨_,H11,I11,_,q11⟩=>?_
    exact again I11 q11
 first
  | exact codeAny_compStart_list loop (T.self _ 0 _ _ _ st4 loop)
  | (rw [← hs3] at loop st4
     exact codeAny_compStart_list loop (T.self _ 0 _ _ _ st4 loop))
section
variable {X:Cx}
theorem Qrz:CallR X (.builtin "isinstance") (fun xs H Q=>∃ x T t b,xs=[x,.ty T]∧TyOf X.K H x t∧PySem.W.kitOne X.K t (.type T)=some b∧Q (.bl b) H):=by
 intro pins s σ H xs us Q I r h
 obtain ⟨x,T,t,b,rfl,ty,e,q⟩:=h
 obtain ⟨u,w',rfl,rx,ry⟩:=Qrv r
 obtain rfl:w'=Value.type T:=ry
 exact Qxt I rx ty e fun tk=>⟨.bl b,H,I.tok _,rfl,q⟩
noncomputable def Qlu:V→Bool
 | .bl b=>b
 | .int i=>i != 0
 | _=>false
noncomputable def Qmn:V→Bool
 | .bl _=>true
 | .int _=>true
 | .non=>true
 | _=>false
theorem Qr0 {A:Around} {s:Shared} {x:V} {v:Value} {Q:Bool→Shared→Prop} {E:Value→Shared→Prop} (r:RelV x v) (f:Qmn x=true) (h:Q (Qlu x) s):wpAny (model X.prog X.w) A (truthy v) Q E s:=by
 cases x with
 | bl b=>cases r;exact wpAny_truthy_bool h
 | int i=>obtain ⟨t,rfl⟩:=r;exact truthy_int h
 | non=>cases r;exact truthy_none h
 | _=>exact absurd (show false=true from f) Bool.false_ne_true
theorem Qt3 {α:Type} (f:α→Bool) (d:α) (xs:List α):((List.range xs.length).all fun i=>f (xs.getD i d))=xs.all f:=by
 rw [Bool.eq_iff_iff,all_eq_true,all_eq_true]
 constructor
 ·intro h x hx
  obtain ⟨i,hi,rfl⟩:=List.getElem_of_mem hx
  have:=h i (mem_range.mpr hi)
  rwa [getD_eq_getElem?_getD,getElem?_eq_getElem hi,Option.getD_some] at this
 ·intro h i hi
  have hi:=mem_range.mp hi
  rw [getD_eq_getElem?_getD,getElem?_eq_getElem hi,Option.getD_some]
  exact h _ (getElem_mem hi)
theorem Qt4 {α:Type} (f:α→Bool) (d:α) (xs:List α):((List.range xs.length).any fun i=>f (xs.getD i d))=xs.any f:=by
 rw [Bool.eq_iff_iff,any_eq_true,any_eq_true]
 constructor
 ·rintro ⟨i,hi,h⟩
  have hi:=mem_range.mp hi
  rw [getD_eq_getElem?_getD,getElem?_eq_getElem hi,Option.getD_some] at h
  exact ⟨_,getElem_mem hi,h⟩
 ·rintro ⟨x,hx,h⟩
  obtain ⟨i,hi,rfl⟩:=List.getElem_of_mem hx
  exact ⟨i,mem_range.mpr hi,by rw [getD_eq_getElem?_getD,getElem?_eq_getElem hi,Option.getD_some];exact h⟩
theorem Qzn (hc:X.calm=true):CallR X (.builtin "all") (fun xs H Q=>∃ p ys,xs=[.ref p]∧SqL X.K H p ys∧ys.all Qmn=true∧Q (.bl (ys.all Qlu)) H):=by
 intro pins s σ H xs us Q I r h
 obtain ⟨p,ys,rfl,hq,hf,q⟩:=h
 obtain ⟨u,rfl,rx⟩:=Qgz r
 cases rx
 obtain ⟨its,r',pl,hz⟩:=I.list hq
 have hlt:p<s.heap.objs.size:=by obtain ⟨_,e,_⟩:=pl.isList;exact Heap.lt_size e
 have hlen:=r'.length
 refine call_all_walk (wpAny_pyIter_list pl.isList ?_)
 refine ⟨s.heap.objs.size,[s.heap.objs.size,p],[s.heap.objs.size],its.toArray.size,_,_,fun i=>Qlu (ys.getD i .non),rfl,Walks.list (A:=X.A.in1) (I.ok.hd hc) _ p (Nat.ne_of_lt hlt) its.toArray,
  ⟨⟨_,Heap.get?_push_size _ rfl,rfl,rfl⟩,pl.isList.push _⟩,fun i v s' Q' E' hP hQ=>?_,fun h' tk hk=>?_⟩
 ·have hi:its[i]?=some v:=by simpa using hP
  have hy:∃ y,ys[i]?=some y:=by
   have:=(List.getElem?_eq_some_iff.mp hi).1
   exact ⟨ys[i],getElem?_eq_getElem (by omega)⟩
  obtain ⟨y,hy⟩:=hy
  obtain ⟨v',hv',rv⟩:=r'.get hy
  rw [hi] at hv';cases hv'
  refine Qr0 (X:=X) rv (all_eq_true.mp hf y (mem_of_getElem? hy)) ?_
  have hQ:Q' (Qlu (ys.getD i V.non)) s':=hQ
  rw [getD_eq_getElem?_getD,hy,Option.getD_some] at hQ
  exact hQ
 ·rw [size_toArray,←hlen,Qt3]
  exact ⟨.bl _,H,I.kept fun b x e=>hk b x (fun hm=>by rw [mem_singleton.mp hm] at e;exact Nat.lt_irrefl _ (Heap.lt_size e)) (Heap.get?_push_of_some _ e),rfl,q⟩
theorem Qzo (hc:X.calm=true):CallR X (.builtin "any") (fun xs H Q=>∃ p ys,xs=[.ref p]∧SqL X.K H p ys∧ys.all Qmn=true∧Q (.bl (ys.any Qlu)) H):=by
 intro pins s σ H xs us Q I r h
 obtain ⟨p,ys,rfl,hq,hf,q⟩:=h
 obtain ⟨u,rfl,rx⟩:=Qgz r
 cases rx
 obtain ⟨its,r',pl,hz⟩:=I.list hq
 have hlt:p<s.heap.objs.size:=by obtain ⟨_,e,_⟩:=pl.isList;exact Heap.lt_size e
 have hlen:=r'.length
 refine call_any_walk (wpAny_pyIter_list pl.isList ?_)
 refine ⟨s.heap.objs.size,[s.heap.objs.size,p],[s.heap.objs.size],its.toArray.size,_,_,fun i=>Qlu (ys.getD i .non),rfl,Walks.list (A:=X.A.in1) (I.ok.hd hc) _ p (Nat.ne_of_lt hlt) its.toArray,
  ⟨⟨_,Heap.get?_push_size _ rfl,rfl,rfl⟩,pl.isList.push _⟩,fun i v s' Q' E' hP hQ=>?_,fun h' tk hk=>?_⟩
 ·have hi:its[i]?=some v:=by simpa using hP
  have hy:∃ y,ys[i]?=some y:=by
   have:=(List.getElem?_eq_some_iff.mp hi).1
   exact ⟨ys[i],getElem?_eq_getElem (by omega)⟩
  obtain ⟨y,hy⟩:=hy
  obtain ⟨v',hv',rv⟩:=r'.get hy
  rw [hi] at hv';cases hv'
  refine Qr0 (X:=X) rv (all_eq_true.mp hf y (mem_of_getElem? hy)) ?_
  have hQ:Q' (Qlu (ys.getD i V.non)) s':=hQ
  rw [getD_eq_getElem?_getD,hy,Option.getD_some] at hQ
  exact hQ
 ·rw [size_toArray,←hlen,Qt4]
  exact ⟨.bl _,H,I.kept fun b x e=>hk b x (fun hm=>by rw [mem_singleton.mp hm] at e;exact Nat.lt_irrefl _ (Heap.lt_size e)) (Heap.get?_push_of_some _ e),rfl,q⟩
theorem Qxw (hc:X.calm=true):CallR X (.builtin "max") (fun xs H Q=>∃ (p:Addr) (ns:List Int),xs=[.ref p]∧SqL X.K H p (ns.map V.int)∧ns≠[]∧∀ M,M∈ns→(∀ a∈ns,a≤M)→Q (.int M) H):=by
 intro pins s σ H xs us Q I r h
 obtain ⟨p,ns,rfl,hq,hne,q⟩:=h
 obtain ⟨u,rfl,rx⟩:=Qgz r
 cases rx
 obtain ⟨its,r',pl,hz⟩:=I.list hq
 have hi:IntsAre its ns:=Qit r'
 obtain ⟨xs,e⟩:=hi.allInts.items
 have hns:ns=xs.toList.map (·.1):=by rw [←hi.numsOf,←nums_intItems,←e]
 have hsz:0<xs.size:=by
  have h3:0<ns.length:=List.length_pos_iff.mpr hne
  rw [hns,length_map,Array.length_toList] at h3;exact h3
 have hl:=pl.isList
 rw [e] at hl
 refine max_intList (I.ok.hd hc) hl hsz fun v h' tk hv hk=>?_
 obtain ⟨t,rfl⟩:=intItems_at hv
 obtain ⟨h1,h2⟩:=argBest_gt (numAt xs) (xs.size-1)
 refine ⟨.int _,H,I.kept hk,⟨t,rfl⟩,q _ ?_ fun a ha=>?_⟩
 ·rw [hns,numAt_eq];exact getD_mem (by rw [length_map,Array.length_toList];omega)
 ·rw [hns] at ha
  obtain ⟨j,hj,rfl⟩:=mem_getD ha
  rw [length_map,Array.length_toList] at hj
  rw [←numAt_eq];exact h2 j (by omega)
theorem Qxx (hc:X.calm=true):CallR X (.builtin "min") (fun xs H Q=>∃ (p:Addr) (ns:List Int),xs=[.ref p]∧SqL X.K H p (ns.map V.int)∧ns≠[]∧∀ M,M∈ns→(∀ a∈ns,M≤a)→Q (.int M) H):=by
 intro pins s σ H xs us Q I r h
 obtain ⟨p,ns,rfl,hq,hne,q⟩:=h
 obtain ⟨u,rfl,rx⟩:=Qgz r
 cases rx
 obtain ⟨its,r',pl,hz⟩:=I.list hq
 have hi:IntsAre its ns:=Qit r'
 obtain ⟨xs,e⟩:=hi.allInts.items
 have hns:ns=xs.toList.map (·.1):=by rw [←hi.numsOf,←nums_intItems,←e]
 have hsz:0<xs.size:=by
  have h3:0<ns.length:=List.length_pos_iff.mpr hne
  rw [hns,length_map,Array.length_toList] at h3;exact h3
 have hl:=pl.isList
 rw [e] at hl
 refine min_intList (I.ok.hd hc) hl hsz fun v h' tk hv hk=>?_
 obtain ⟨t,rfl⟩:=intItems_at hv
 obtain ⟨h1,h2⟩:=argBest_lt (numAt xs) (xs.size-1)
 refine ⟨.int _,H,I.kept hk,⟨t,rfl⟩,q _ ?_ fun a ha=>?_⟩
 ·rw [hns,numAt_eq];exact getD_mem (by rw [length_map,Array.length_toList];omega)
 ·rw [hns] at ha
  obtain ⟨j,hj,rfl⟩:=mem_getD ha
  rw [length_map,Array.length_toList] at hj
  rw [←numAt_eq];exact h2 j (by omega)
theorem Qxy (hc:X.calm=true):CallR X (.builtin "sum") (fun xs H Q=>∃ (p:Addr) (ns:List Int),xs=[.ref p]∧SqL X.K H p (ns.map V.int)∧Q (.int ns.sum) H):=by
 intro pins s σ H xs us Q I r h
 obtain ⟨p,ns,rfl,hq,q⟩:=h
 obtain ⟨u,rfl,rx⟩:=Qgz r
 cases rx
 obtain ⟨its,r',pl,hz⟩:=I.list hq
 have hi:IntsAre its ns:=Qit r'
 obtain ⟨xs,hx⟩:=hi.allInts.items
 have hl':s.heap.IsList p (intItems xs):=hx ▸ pl.isList
 refine sum_intListG (I.ok.hd hc) hl' fun h' tk t' hk=>?_
 have e1:ns=xs.toList.map (·.1):=by
  rw [←nums_intItems,←hx]
  exact (show numsOf its.toArray.toList=ns from hi.numsOf).symm
 have e2:preSum (numAt xs) xs.size=ns.sum:=by
  rw [preSum_eq,take_of_length_le (by simp),e1]
 rw [e2]
 exact ⟨.int _,H,I.kept hk,⟨t',rfl⟩,q⟩
end
open PySem.AutoSeq1 (wpAny_loadPart')
theorem Same.upd {H:Hp} {a:Addr} {o:HO} (h:H a=none):Same H (upd H a o):=fun b u e=>by rw [Qab (Qcq e h)];exact e
theorem Qqf (l:Addr) (items:Array Value) (n:Nat) (b:Addr) (items2:Array Value) (n2:Nat) (dd:Option Addr) (sl:Array (Option Value)) (hs0:¬(!items.isEmpty&&Builtin.List.listTooLong (items.size+items2.size))=true) (hs1:items.size≤sizeLine) (hs2:items.size+items2.size≤sizeLine+1) :
  Meets (Builtin.«list.extend» ⟨[.ref l,.ref b],[]⟩) (fun _ R s=>s.heap.get? l=some { cls:=.type "list",dict:=none,data:=.seq items n,slots:=#[] }∧s.heap.get? b=some { cls:=.type "tuple",dict:=dd,data:=.seq items2 n2,slots:=sl }∧R (.ok (.ret Value.none)) { s with heap:=s.heap.update l (Obj.mapSeq fun x=>x++items2),toks:=s.toks }) :=
 .of_wp fun prog w A R s h=>by
  obtain ⟨hp,g,d,tk,os⟩:=s;obtain ⟨hl,hb,h⟩:=h;have f1:=AutoSeq1.idx_int;have f2:=AutoSeq1.sub_tuple_tuple;have f3:=AutoSeq1.sub_list_list;have f4:=AutoSeq1.sub_tuple_list;have f5:=AutoSeq1.sub_list_tuple
  have hz':(items++items2).size≤sizeLine+1:=by rw [Array.size_append];exact hs2
  wp_walk using (wpAny_updateSeq hl rfl (hz:=hs1) (_hz':=hz')),wpAny_loadPart' hl,wpAny_loadPart' hb;exact ⟨_,rfl,h⟩
theorem Qt5 (l:Addr) (items:Array Value) (n:Nat) (x:Int) (u:Tok) (dd:Option Addr) (sl:Array (Option Value)) (h0:¬ (x < -(2^63)||x≥2^63)=true) (h1:¬ (items.isEmpty||x==1)=true) (h2:¬ (x≤0||items.isEmpty)=true) (h3:¬ items.size*x>(2^63-1) / 8) (h4:¬ Builtin.Tuple.tupleTooMany (items.size*x)=true)
  (hz:(List.foldl (fun x1 x2=>x1++x2) #[] (List.replicate x.toNat items)).size≤sizeLine) :
  Meets (Builtin.«tuple.__mul__» ⟨[.ref l,.int x u],[]⟩) (fun _ R s=>s.heap.get? l=some { cls:=.type "tuple",dict:=dd,data:=.seq items n,slots:=sl }∧R (.ok (.ret (Value.ref s.heap.objs.size))) { s with heap:=s.heap.push { cls:=Value.type "tuple",data:=Data.seq (List.foldl (fun x1 x2=>x1++x2) #[] (List.replicate x.toNat items)) },toks:=s.toks }) :=
 .of_wp fun prog w A R s h=>by
  obtain ⟨hp,g,d,tk,os⟩:=s;obtain ⟨hl,h⟩:=h;have f1:=AutoSeq1.idx_int
  wp_walk using wpAny_loadPart' hl
  rw [if_neg h0]
  wp_walk using wpAny_loadPart' hl
  rw [if_neg h3]
  wp_walk using wpAny_loadPart' hl
  exact ⟨_,rfl,h⟩
theorem Qr1 (l:Addr) (items:Array Value) (n:Nat) (x:Int) (u:Tok) (dd:Option Addr) (sl:Array (Option Value)) (h0:¬ (x < -(2^63)||x≥2^63)=true) (h1:(items.isEmpty||x==1)=true) :
  Meets (Builtin.«tuple.__mul__» ⟨[.ref l,.int x u],[]⟩) (fun _ R s=>s.heap.get? l=some { cls:=.type "tuple",dict:=dd,data:=.seq items n,slots:=sl }∧R (.ok (.ret (Value.ref l))) s) :=
 .of_wp fun prog w A R s h=>by
  obtain ⟨hp,g,d,tk,os⟩:=s;obtain ⟨hl,h⟩:=h;have f1:=AutoSeq1.idx_int
  wp_walk using wpAny_loadPart' hl
  rw [if_neg h0]
  wp_walk using wpAny_loadPart' hl
  exact ⟨_,rfl,h⟩
theorem Qmo (a:Int) (t:Tok) (l:Addr) (items:Array Value) (n:Nat) (dd:Option Addr) (sl:Array (Option Value)) :
  Meets (Builtin.«int.__rmul__» ⟨[.int a t,.ref l],[]⟩) (fun _ R s=>s.heap.get? l=some { cls:=.type "tuple",dict:=dd,data:=.seq items n,slots:=sl }∧R (.ok (.ret Value.notImplemented)) s) :=
 .of_wp fun prog w A R s h=>by obtain ⟨hp,g,d,tk,os⟩:=s;obtain ⟨hl,h⟩:=h;wp_walk;exact ⟨_,rfl,h⟩
theorem Qkl:fillsNumberSlot (.type "tuple") "mul" = pure false :=
 PySem.fillsNumberSlot_seq (id := "tuple.__mul__") (r:=some (.builtin "tuple.__rmul__")) F.slot_tuple_mul.lookup (by decide +kernel) F.slot_tuple_rmul.lookup (by decide +kernel)
theorem Qqg:seqRepeat? (.type "tuple")=pure (some (.builtin "tuple.__mul__")):=by
 unfold seqRepeat?
 rw [PySem.seqSlot_of (T := "tuple") (name := "__mul__") (id := "tuple.__mul__") F.slot_tuple_mul.lookup (by decide +kernel),PySem.seqSlot_of (T := "tuple") (name := "__rmul__") (id := "tuple.__rmul__") F.slot_tuple_rmul.lookup (by decide +kernel)]
 rfl
section
variable {X:Cx}
noncomputable def Qg9 (K:PySem.W.Frag):V→List V→Hp→VK→Prop:=fun x vs H Q=>∃ l b xs zs,x=.ref l∧vs=[.ref b]∧H l=some (.lst xs)∧SqT K H b zs∧xs.length+zs.length≤sizeLine∧Q .non (upd H l (.lst (xs++zs)))
theorem Qt6:MtM X "list.extend" (Qg9 X.K):=by
 intro pins s σ H x vs v us Q I rx rv h
 obtain ⟨l,b,xs,zs,rfl,rfl,hH,hB,hz,q⟩:=h
 cases rx
 obtain ⟨u,rfl,ru⟩:=rv.one
 cases ru
 obtain ⟨z,its,n,r,hl,e⟩:=I.lstM hH
 obtain ⟨its2,r2,⟨⟨cls,dd,data,sl⟩,e2,hc,n2,hd⟩,_⟩:=I.tuple hB
 simp only at hc hd
 subst hc hd
 have hl2:=r2.length
 have hsz:its.toArray.size+its2.toArray.size≤sizeLine:=by rw [size_toArray,size_toArray];omega
 have hlong:¬ (!its.toArray.isEmpty&&Builtin.List.listTooLong (its.toArray.size+its2.toArray.size))=true:=by
  rw [Qrx hsz,Bool.and_false]
  exact Bool.false_ne_true
 refine call_meets F.slot_list_extend ⟨_,e,rfl⟩ F.entry_list_extend (F.args_list_extend_2 _ _)
  (Qqf l its.toArray n b its2.toArray n2 dd sl hlong (by rw [size_toArray];omega) (by omega)) ⟨e,e2,?_⟩
 refine ⟨.non,_,I.lset (its':=its++its2) hH e (by simp) (r.append r2) ?_,rfl,q⟩
 rw [length_append]
 omega
noncomputable def Q6k (K:PySem.W.Frag):R2:=fun x y H Q=>∃ a b xs ys,x=.ref a∧y=.ref b∧H a=some (.tup xs)∧H b=some (.tup ys)∧xs.length+ys.length≤sizeLine∧∀ p H',Same H H'→H' p=some (.tup (xs++ys))→(p=a∨p=b∨H p=none)→Q (.ref p) H'
theorem Q3s:OpR X (binaryOp .Add) (Q6k X.K):=by
 intro pins s σ H x y v u Q I rx ry h
 obtain ⟨a,b,xs,ys,rfl,rfl,ha,hb,hz,q⟩:=h
 by_cases hx:xs=[]
 ·cases rx
  cases ry
  subst hx
  obtain ⟨its,r1,⟨⟨cls,dd,data,sl⟩,e1,hc,n,hd⟩,_⟩:=I.tuple (SqT.of ha)
  obtain ⟨its2,r2,⟨⟨cls2,dd2,data2,sl2⟩,e2,hc2,n2,hd2⟩,_⟩:=I.tuple (SqT.of hb)
  simp only at hc hd hc2 hd2
  subst hc hd hc2 hd2
  cases r1
  exact concat_meets ⟨_,e1,rfl⟩ ⟨_,e2,rfl⟩ noFill_tuple_add seq_tuple_add PySem.F.slot_tuple_add PySem.F.entry_tuple_add (PySem.F.args_tuple_add_2 _ _)
   (tuple_addW0 a b _ _ n n2 dd dd2 sl sl2 rfl) ⟨e1,e2,⟨.ref b,H,I,rfl,q b H (Same.refl H) hb (.inr (.inl rfl))⟩⟩
 ·refine Q3k pins s σ H _ _ v u Q I rx ry ⟨a,b,xs,ys,rfl,rfl,SqT.of ha,SqT.of hb,hx,hz,fun e=>q a H (Same.refl H) (by rw [ha,e,append_nil]) (.inl rfl),fun _ p hp=>q p _ (Same.upd hp) Q6 (.inr (.inr hp))⟩
noncomputable def rSlS (K:PySem.W.Frag):V→Option Int→Option Int→Hp→VK→Prop:=fun x lo hi H Q=>∃ a xs,x=.ref a∧H a=some (.tup xs)∧∀ p H',Same H H'→H' p=some (.tup (Qg7 xs lo hi))→(p=a∨H p=none)→Q (.ref p) H'
theorem Q3t:SlR X (rSlS X.K):=by
 intro pins s σ H x v vl vu lo hi sl Q I rx hs pl pu h
 obtain ⟨a,xs,rfl,hx,q⟩:=h
 by_cases hw:HT.sIx xs.length 0 lo=0∧HT.sIx xs.length xs.length hi=xs.length
 ·cases rx
  obtain ⟨its,r,ht,hz⟩:=I.tuple (SqT.of (K:=X.K) hx)
  have hlen:its.toArray.size=xs.length:=by rw [size_toArray];exact r.length.symm
  refine ⟨"tuple",_,PyProof.Rows.slot_tuple_getitem.lookup,ht.typeIs,?_⟩
  have hcut:Qg7 xs lo hi=xs:=by
   unfold Qg7
   rw [hw.1,hw.2,drop_zero,Nat.sub_zero,List.take_length]
  obtain ⟨os,hos,hcs,hds⟩:=id hs
  have hTs:s.TypeIs (.ref sl) "slice" := ⟨os,hos,hcs⟩
  unfold getItem
  try with_reducible refine wpAny_holding ?_
  first | refine wpAny_bind (wpAny_pure ?_) | skip
  refine wpAny_bind (wpAny_sequenceKey ht.typeIs (by decide) ?_)
  refine wpAny_bind (wpAny_callSpecial?_slot (name:=Str.ofString "__getitem__") ht.typeIs PyProof.Rows.slot_tuple_getitem
   (wpAny_call_entry PyProof.Rows.slot_tuple_getitem ht.typeIs entry_tuple_getitem ?_ (args_tuple_getitem _ _)))
  show wpAny _ _ (Builtin.Tuple.tupleItemsOf (.ref a) >>= _) _ _ s
  refine wpAny_bind (tupleItemsOf_ ht ?_)
  refine wpAny_bind (wpAny_typeOf hTs ?_)
  rw [if_pos (by decide)]
  refine wpAny_bind (HT.sliceApplied_gen hs pl pu ?_)
  rw [hlen,hw.1,hw.2]
  show wpAny _ _ (if ((((0:Nat):Int)==0&&(1:Int)==1&&(xs.length-0)==xs.length)=true) then _ else _) _ _ s
  rw [if_pos (by simp)]
  have fin:EP X pins σ Q (.ref a) s:=⟨.ref a,H,I,rfl,q a H (Same.refl H) (by rw [hcut];exact hx) (.inl rfl)⟩
  refine wpAny_bind (wpAny_bind (wpAny_typeOf ht.typeIs (wpAny_pure ?_)))
  rw [if_pos (by decide)]
  exact wpAny_bind (wpAny_rule (wpAny_pure ⟨_,rfl,wpAny_pure fin⟩))
 ·exact Q8w pins s σ H _ v vl vu lo hi sl Q I rx hs pl pu ⟨a,xs,rfl,SqT.of hx,hw,fun p hp=>q p _ (Same.upd hp) Q6 (.inr hp)⟩
end
open PySem.AutoSeq1 (wpAny_loadPart')
section
variable {X:Cx}
noncomputable def Q6l:R2:=fun x y H Q=>∃ a k xs,x=.ref a∧y=.int k∧H a=some (.tup xs)∧xs≠[]∧1≤k∧k<2^31∧xs.length*k.toNat≤sizeLine∧∀ p H',Same H H'→H' p=some (.tup (List.replicate k.toNat xs).flatten)→(p=a∨H p=none)→Q (.ref p) H'
theorem Q3u:OpR X (binaryOp .Mult) Q6l:=by
 intro pins s σ H x y v u Q I rx ry h
 obtain ⟨a,k,xs,rfl,rfl,hH,hne,h1,h2,hz,q⟩:=h
 cases rx
 obtain ⟨t,rfl⟩:=ry
 obtain ⟨its,r,⟨⟨cls,dd,data,sl⟩,e,hc,n,hd⟩,_⟩:=I.tuple (SqT.of (K:=X.K) hH)
 simp only at hc hd
 subst hc hd
 have hl:=r.length
 have hn0:its≠[]:=fun z=>hne (r.nil_iff.mp z)
 have hem:its.toArray.isEmpty=false:=by
  cases its with
  | nil=>exact absurd rfl hn0
  | cons _ _=>rfl
 have h0:¬ (decide (k < -(2^63))||decide (k≥2^63))=true:=by
  simp only [Bool.or_eq_true,decide_eq_true_eq]
  omega
 refine wpAny_binaryOp_repeat_ref (T := "tuple") (U := "int") (by decide) ⟨_,e,rfl⟩ (fun s'=>typeIs_int s' k t) Qkl F.fills_int_mul F.slot_int_rmul Qqg F.slot_int_index.lookup
  (call_meets F.slot_int_rmul (typeIs_int s k t) F.entry_int_rmul (F.args_int_rmul_2 _ _) (Qmo k t a its.toArray n dd sl) ⟨e,rfl,⟨_,e,rfl⟩,?_⟩)
 by_cases hk:k=1
 ·subst hk
  refine call_meets F.slot_tuple_mul ⟨_,e,rfl⟩ F.entry_tuple_mul (F.args_tuple_mul_2 _ _) (Qr1 a its.toArray n 1 t dd sl h0 (by simp)) ⟨e,?_⟩
  exact ⟨.ref a,H,I,rfl,q a H (Same.refl H) (by rw [hH];simp) (.inl rfl)⟩
 ·have hlen:its.toArray.size*k.toNat≤sizeLine:=by rw [size_toArray,←hl];exact hz
  have hki:(its.toArray.size:Int)*k=((its.toArray.size*k.toNat:Nat):Int):=by
   rw [Int.natCast_mul,Int.toNat_of_nonneg (by omega)]
  have hs:sizeLine=16777216:=sizeLine_eq
  have hnew:List.foldl (fun x1 x2=>x1++x2) #[] (List.replicate k.toNat its.toArray)=(List.replicate k.toNat its).flatten.toArray:=by
   have:=Qki its k.toNat []
   rw [List.nil_append] at this
   exact this
  refine call_meets F.slot_tuple_mul ⟨_,e,rfl⟩ F.entry_tuple_mul (F.args_tuple_mul_2 _ _) (Qt5 a its.toArray n k t dd sl h0 (by rw [hem];simpa using hk) (by rw [hem];simp;omega)
   (by rw [hki];omega) (by rw [hki];unfold Builtin.Tuple.tupleTooMany;rw [decide_eq_true_eq];omega) (by rw [hnew,size_toArray,Qje,←hl,Nat.mul_comm];exact hz)) ⟨e,?_⟩
  rw [hnew]
  have I2:Inv X pins σ (upd H s.heap.objs.size (.tup (List.replicate k.toNat xs).flatten)) { s with heap:=s.heap.push { cls:=.type "tuple",data:=.seq (List.replicate k.toNat its).flatten.toArray },toks:=s.toks } :=
   I.laid (fun b o e=>Heap.get?_push_of_some _ e) (Nat.le_refl _) ⟨by rw [Qje,Nat.mul_comm];exact hz,_,r.rep k.toNat,IsTupD.new _ _⟩
  exact ⟨.ref _,_,I2,rfl,q _ _ (Same.upd I.fresh) Q6 (.inr I.fresh)⟩
end
section
variable {X:Cx}
theorem Qxz {j:Int} (h0:0<j) (h:j<2^64):j.natAbs.log2<9000:=by
 have h1:j.natAbs≠0:=by omega
 have h2:j.natAbs.log2<64:=(Nat.log2_lt h1).mpr (by omega)
 omega
noncomputable def CDv (i j:Int):Prop:=0<j∧j<2^64
theorem Qzp:CallR X (.builtin "divmod") (fun xs H Q=>∃ i j,xs=[.int i,.int j]∧CDv i j∧∀ p,H p=none→Q (.ref p) (upd H p (.tup [.int (i / j),.int (i%j)]))):=by
 intro pins s σ H xs us Q I r h
 obtain ⟨i,j,rfl,⟨h1,h2⟩,q⟩:=h
 obtain ⟨u,w',rfl,⟨t,rfl⟩,⟨t',rfl⟩⟩:=Qrv r
 refine divmod_int (by omega) ?_ (.inl (PyProof.noPylong_of_log2 (Qxz h1 h2)))
 rw [Int.fdiv_eq_ediv_of_nonneg i (by omega),Int.fmod_eq_emod_of_nonneg i (by omega)]
 have hn:H s.heap.objs.size=none:=I.hok.fresh (Nat.le_refl _)
 refine ⟨.ref s.heap.objs.size,_,?_,rfl,q _ hn⟩
 refine I.laid (fun b o e=>Heap.get?_push_of_some _ e) (Nat.le_refl _) ⟨by simp only [length_cons,length_nil];rw [sizeLine_eq];decide,[.int (i / j) s.toks,.int (i%j) (s.toks+1)],.cons ⟨_,rfl⟩ (.cons ⟨_,rfl⟩ .nil),?_⟩
 exact ⟨_,Heap.get?_push_size s.heap rfl,rfl,0,rfl,rfl⟩
noncomputable def Qmp (K:PySem.W.Frag):R2:=fun x y H Q=>(rI0 fun i j=>.int (i+j)) x y H Q∨rCat x y H Q∨Q6k K x y H Q
theorem uAdd:OpR X (binaryOp .Add) (Qmp X.K):=Q8j.or (Q81.or Q3s)
noncomputable def Q6m:R2:=fun x y H Q=>(rI CMul fun i j=>.int (i*j)) x y H Q∨rRep x y H Q∨Q6l x y H Q
theorem uMul:OpR X (binaryOp .Mult) Q6m:=Q8l.or (Q82.or Q3u)
noncomputable abbrev Qx0 (K:PySem.W.Frag) (tl:TE):TI:=fun σ H R=>tl σ H fun x H1=>∃ a,x=.ref a∧(((∃ xs,SqL K H1 a xs)∧R (Itl K a) H1)∨((∃ xs,SqT K H1 a xs)∧R (Itt K a) H1))
theorem Q84 {tg l:Expr} {tl:TE} (hl:PE X l tl):PI X tg l (Qx0 X.K tl):=by
 intro pins s σ H R I h
 refine thn (hl pins s σ H _ I h) fun v s1 ⟨x,H1,I1,r1,q1⟩=>?_
 obtain ⟨a,e,q⟩:=q1
 subst e
 cases r1
 rcases q with ⟨⟨xs,hq⟩,q⟩ | ⟨⟨xs,hq⟩,q⟩
 ·obtain ⟨its,rv,p,hz⟩:=I1.list hq
  refine wpAny_pyIter_list p.isList ?_
  refine ⟨s1.heap.objs.size,[s1.heap.objs.size],_,_,H1,rfl,I1.kept (t':=s1.toks) fun b o e=>Heap.get?_push_of_some _ e,Qxm a _,⟨_,Heap.get?_push_size _ rfl,rfl,rfl⟩,fun b hb=>?_,q⟩
  have e:b=s1.heap.objs.size:=by simpa using hb
  subst e
  exact I1.fpOk (Nat.le_refl _) (I1.hok.fresh (Nat.le_refl _))
 ·obtain ⟨its,rv,p,hz⟩:=I1.tuple hq
  refine wpAny_pyIter_tuple (show s1.heap.IsTuple a its.toArray from p) ?_
  refine ⟨s1.heap.objs.size,[s1.heap.objs.size],_,_,H1,rfl,I1.kept (t':=s1.toks) fun b o e=>Heap.get?_push_of_some _ e,Qty a _,⟨_,Heap.get?_push_size _ rfl,rfl,rfl⟩,fun b hb=>?_,q⟩
  have e:b=s1.heap.objs.size:=by simpa using hb
  subst e
  exact I1.fpOk (Nat.le_refl _) (I1.hok.fresh (Nat.le_refl _))
noncomputable def Qzq (K:PySem.W.Frag):V→Option Int→Option Int→Hp→VK→Prop:=fun x lo hi H Q=>rSlL K x lo hi H Q∨rSlS K x lo hi H Q
theorem uSl:SlR X (Qzq X.K):=Q3m.or Q3t
end
structure Dfn (K:PySem.W.Frag) (mg:Str→Option Value) (x:Str) (st:Stmt):Prop where
 ex:∃ f fd,Fun K x x st f fd∧mg x=some (.ref f)
noncomputable def Has (P:Program) (w:World) (K:PySem.W.Frag) (mg:Str→Option Value) (base:Heap) (x:Str) (ps:List Str) (k:Nat) (sp:Sp):Prop :=
 ∃ f fd,PySem.W.keepIn K (.ref f)=true∧mg x=some (.ref f)∧Binds K fd ps []∧FnOk P w K mg base CX0 k f fd ps sp
noncomputable def Q5 (x:Str) (st:Stmt) (ps:List Str):Prop:=∀ (kV doc pm:Value) (an:Option Addr) (cdv ct:Value) (us:List Value),us.length=ps.length→bindArgs (PySem.W.fnOf x x (Qek st) (Qbq st) (Qg st) .none kV doc pm an cdv ct) ⟨us,[]⟩=pure (ps.zip us)
section
variable {P:Program} {w:World} {K:PySem.W.Frag} {mg:Str→Option Value} {base:Heap}
theorem Q85 {x:Str} {st:Stmt} {N ps:List Str} {k:Nat} {sp:Sp} (d:Dfn K mg x st) (S:FnScope N ps (Qg st)) (bd:Q5 x st ps) (len:∀ vs H Q E,sp vs H Q E→vs.length=ps.length)
  (hbody:∀ (f:Addr) (cdv:Value) (A:Around) (outer:List Env) (s:Shared) (H:Hp) (vs:List V) (Q:VK) (E:XK),Room k (A.deeper (envOfC x (Qg st) s.heap.objs.size f cdv))→sp vs H Q E →
   ∃ t,PSs (Qif (fun _=>true) CX0 P w K mg base N x (Qg st) f cdv A outer s H E).nox (Qbq st) t∧t { nx:=fun _ H'=>Q .non H',rt:=Q } (Qcr N vs) H):Has P w K mg base x ps (k+1) sp:=by
 obtain ⟨f,fd,F,m⟩:=d.ex
 exact ⟨f,fd,F.kp,m,F.binds bd,F.ok S len fun cdv A outer s H vs Q E hr hs=>hbody f cdv A outer s H vs Q E hr hs⟩
end
theorem Qzr {X:Cx} {x:Str} {ps:List Str} {k:Nat} {sp:Sp} {e:Expr} {es:List Expr} {t:TA} {p pos:Pos} (h:Has X.prog X.w X.K X.mg X.base x ps k sp) (hr:Room k X.A) (ha:PA X (e::es) t) (hg:Gl X x:=by rfl)
  (hdb:(x==("__debug__" : Str))=false:=by decide) (he:starEach (e::es) X.env=(false,eval e X.env)::starEach es X.env:=by rfl) (hpl:(backTo pos (starEach es X.env)).any (·.1)=false:=by rfl) :
  PE X (.Call (.Name x p) (e::es) [] pos) (Qvx sp [] E0 t):=by
 obtain ⟨f,fd,kp,m,b,F⟩:=h
 exact Q3h F hr hg m kp b .nil Qacm ha hdb he hpl
inductive T where
 | non | bl (b:Bool) | int (i:Int) | str (x:Str) | tup (ts:List T) | lst (ts:List T) | dct (ks:List Key) (ts:List T) | dtt (ks:List (List Int)) (ts:List T) | clo (k:Nat) (ts:List T)
noncomputable def kIs (ks:List Int):List Key:=ks.map Sum.inl
noncomputable def CellsAt (H:Hp):List Addr→List V→Prop
 | [],vs=>vs=[]
 | c::cs,vs=>∃ v r oc u w,vs=v::r∧H c=some (.frz oc w)∧oc.data=.cell (some u)∧RelV v u∧CellsAt H cs r
noncomputable def CloAt (H:Hp) (f:Addr) (l:LamT) (us:List V):Prop:=∃ cs c' pm ctv,cs.Nodup∧cs.length=l.caps.length∧H f=some (.frz (PySem.W.kla_obj "<lambda>" l.qual l.params l.body l.scope (l.caps.zip cs) pm c' ctv) (.own f))∧H c'=some (.cod l.qual)∧CellsAt H cs us
theorem CellsAt.mono {H H':Hp} (h:Same H H'):∀ {cs:List Addr} {vs:List V},CellsAt H cs vs→CellsAt H' cs vs
 | [],_,r=>r
 | c::cs,_,r=>by
  obtain ⟨v,w,oc,u,w',e,a,b,d,q⟩:=r
  exact ⟨v,w,oc,u,w',e,h _ _ a,b,d,CellsAt.mono h q⟩
theorem CloAt.mono {H H':Hp} (h:Same H H') {f:Addr} {l:LamT} {us:List V} (r:CloAt H f l us):CloAt H' f l us:=by
 obtain ⟨cs,c',pm,ctv,a,b,c,d,e⟩:=r
 exact ⟨cs,c',pm,ctv,a,b,h _ _ c,h _ _ d,e.mono h⟩
mutual
noncomputable def Is (H:Hp):V→T→Prop
 | v,.non=>v=.non
 | v,.bl b=>v=.bl b
 | v,.int i=>v=.int i
 | v,.str x=>v=.str x
 | v,.tup ts=>ts.length≤100000∧∃ a vs,v=.ref a∧H a=some (.tup vs)∧IsL H vs ts
 | v,.lst ts=>ts.length≤100000∧∃ a vs,v=.ref a∧H a=some (.lst vs)∧IsL H vs ts
 | v,.dct ks ts=>∃ a vs,v=.ref a∧H a=some (.dK (ks.zip vs))∧ks.length=vs.length∧IsL H vs ts
 | v,.dtt ks ts=>ks.length≤100000∧∃ a vs,v=.ref a∧H a=some (.dT ((ks.map kIs).zip vs))∧ks.length=vs.length∧IsL H vs ts
 | v,.clo k ts=>∃ f us l,v=.ref f∧Qzl.lookup k=some l∧CloAt H f l us∧IsL H us ts
noncomputable def IsL (H:Hp):List V→List T→Prop
 | vs,[]=>vs=[]
 | vs,t::ts=>∃ v r,vs=v::r∧Is H v t∧IsL H r ts
end
mutual
theorem Is.mono {H H':Hp} (h:Same H H'):∀ {v:V} {t:T},Is H v t→Is H' v t
 | v,.non,r=>by unfold Is at r ⊢;exact r
 | v,.bl b,r=>by unfold Is at r ⊢;exact r
 | v,.int i,r=>by unfold Is at r ⊢;exact r
 | v,.str x,r=>by unfold Is at r ⊢;exact r
 | v,.tup ts,r=>by
  unfold Is at r ⊢
  obtain ⟨z,a,vs,e,ha,q⟩:=r
  exact ⟨z,a,vs,e,h _ _ ha,IsL.mono h q⟩
 | v,.lst ts,r=>by
  unfold Is at r ⊢
  obtain ⟨z,a,vs,e,ha,q⟩:=r
  exact ⟨z,a,vs,e,h _ _ ha,IsL.mono h q⟩
 | v,.dct ks ts,r=>by
  unfold Is at r ⊢
  obtain ⟨a,vs,e,ha,l,q⟩:=r
  exact ⟨a,vs,e,h _ _ ha,l,IsL.mono h q⟩
 | v,.dtt ks ts,r=>by
  unfold Is at r ⊢
  obtain ⟨z,a,vs,e,ha,l,q⟩:=r
  exact ⟨z,a,vs,e,h _ _ ha,l,IsL.mono h q⟩
 | v,.clo l ts,r=>by
  unfold Is at r ⊢
  obtain ⟨f,us,l,e,k,c,q⟩:=r
  exact ⟨f,us,l,e,k,c.mono h,IsL.mono h q⟩
theorem IsL.mono {H H':Hp} (h:Same H H'):∀ {vs:List V} {ts:List T},IsL H vs ts→IsL H' vs ts
 | vs,[],r=>by unfold IsL at r ⊢;exact r
 | vs,t::ts,r=>by
  unfold IsL at r ⊢
  obtain ⟨v,w,e,a,b⟩:=r
  exact ⟨v,w,e,Is.mono h a,IsL.mono h b⟩
end
theorem IsL.nil {H:Hp}:IsL H [] []:=by unfold IsL;rfl
theorem IsL.cons {H:Hp} {v:V} {t:T} {vs:List V} {ts:List T} (a:Is H v t) (b:IsL H vs ts):IsL H (v::vs) (t::ts):=by unfold IsL;exact ⟨v,vs,rfl,a,b⟩
theorem IsL.cons_inv {H:Hp} {vs:List V} {t:T} {ts:List T} (r:IsL H vs (t::ts)):∃ v w,vs=v::w∧Is H v t∧IsL H w ts:=by unfold IsL at r;exact r
theorem IsL.nil_inv {H:Hp} {vs:List V} (r:IsL H vs []):vs=[]:=by unfold IsL at r;exact r
theorem IsL.length {H:Hp}:∀ {ts:List T} {vs:List V},IsL H vs ts→vs.length=ts.length
 | [],vs,r=>by rw [r.nil_inv];rfl
 | t::ts,vs,r=>by
  obtain ⟨v,w,rfl,_,q⟩:=r.cons_inv
  rw [length_cons,length_cons,q.length]
theorem IsL.get {H:Hp}:∀ {ts:List T} {vs:List V} {i:Nat} {v:V},IsL H vs ts→vs[i]?=some v→∃ t,ts[i]?=some t∧Is H v t
 | [],vs,i,v,r,e=>by rw [r.nil_inv] at e;simp at e
 | t::ts,vs,0,v,r,e=>by
  obtain ⟨x,w,rfl,a,q⟩:=r.cons_inv
  rw [getElem?_cons_zero] at e ⊢
  cases e
  exact ⟨t,rfl,a⟩
 | t::ts,vs,i+1,v,r,e=>by
  obtain ⟨x,w,rfl,a,q⟩:=r.cons_inv
  rw [getElem?_cons_succ] at e ⊢
  exact IsL.get q e
theorem IsL.getT {H:Hp}:∀ {ts:List T} {vs:List V} {i:Nat} {t:T},IsL H vs ts→ts[i]?=some t→∃ v,vs[i]?=some v∧Is H v t
 | [],vs,i,v,r,e=>by simp at e
 | t::ts,vs,0,v,r,e=>by
  obtain ⟨x,w,rfl,a,q⟩:=r.cons_inv
  rw [getElem?_cons_zero] at e ⊢
  cases e
  exact ⟨x,rfl,a⟩
 | t::ts,vs,i+1,v,r,e=>by
  obtain ⟨x,w,rfl,a,q⟩:=r.cons_inv
  rw [getElem?_cons_succ] at e ⊢
  exact IsL.getT q e
theorem IsL.append {H:Hp}:∀ {ts us:List T} {vs ws:List V},IsL H vs ts→IsL H ws us→IsL H (vs++ws) (ts++us)
 | [],us,vs,ws,r,q=>by rw [r.nil_inv];exact q
 | t::ts,us,vs,ws,r,q=>by
  obtain ⟨x,w,rfl,a,r⟩:=r.cons_inv
  exact .cons a (r.append q)
theorem IsL.take {H:Hp}:∀ {ts:List T} {vs:List V} (n:Nat),IsL H vs ts→IsL H (vs.take n) (ts.take n)
 | _,_,0,_=>by rw [List.take_zero,List.take_zero];exact .nil
 | [],vs,n+1,r=>by rw [r.nil_inv];exact .nil
 | t::ts,vs,n+1,r=>by
  obtain ⟨x,w,rfl,a,r⟩:=r.cons_inv
  exact .cons a (r.take n)
theorem IsL.drop {H:Hp}:∀ {ts:List T} {vs:List V} (n:Nat),IsL H vs ts→IsL H (vs.drop n) (ts.drop n)
 | _,_,0,r=>r
 | [],vs,n+1,r=>by rw [r.nil_inv];exact .nil
 | t::ts,vs,n+1,r=>by
  obtain ⟨x,w,rfl,a,r⟩:=r.cons_inv
  exact r.drop n
theorem IsL.flat {H:Hp}:∀ (k:Nat) {ts:List T} {vs:List V},IsL H vs ts→IsL H (List.replicate k vs).flatten (List.replicate k ts).flatten
 | 0,ts,vs,r=>by simpa using IsL.nil
 | k+1,ts,vs,r=>by
  rw [replicate_succ,replicate_succ,List.flatten_cons,List.flatten_cons]
  exact r.append (IsL.flat k r)
theorem IsL.one {H:Hp} {v:V} {t:T} (a:Is H v t):IsL H [v] [t]:=.cons a .nil
theorem Is.int {H:Hp} {i:Int}:Is H (.int i) (.int i):=by unfold Is;rfl
theorem Is.bl {H:Hp} {b:Bool}:Is H (.bl b) (.bl b):=by unfold Is;rfl
theorem Is.non {H:Hp}:Is H .non .non:=by unfold Is;rfl
theorem Is.tup {H:Hp} {a:Addr} {vs:List V} {ts:List T} (h:H a=some (.tup vs)) (r:IsL H vs ts) (z:ts.length≤100000):Is H (.ref a) (.tup ts):=by unfold Is;exact ⟨z,a,vs,rfl,h,r⟩
theorem Is.lst {H:Hp} {a:Addr} {vs:List V} {ts:List T} (h:H a=some (.lst vs)) (r:IsL H vs ts) (z:ts.length≤100000):Is H (.ref a) (.lst ts):=by unfold Is;exact ⟨z,a,vs,rfl,h,r⟩
theorem Is.int_inv {H:Hp} {v:V} {i:Int} (r:Is H v (.int i)):v=.int i:=by unfold Is at r;exact r
theorem Is.tup_inv {H:Hp} {v:V} {ts:List T} (r:Is H v (.tup ts)):∃ a vs,v=.ref a∧H a=some (.tup vs)∧IsL H vs ts:=by unfold Is at r;exact r.2
theorem Is.tup_len {H:Hp} {v:V} {ts:List T} (r:Is H v (.tup ts)):ts.length≤100000:=by unfold Is at r;exact r.1
theorem Is.lst_len {H:Hp} {v:V} {ts:List T} (r:Is H v (.lst ts)):ts.length≤100000:=by unfold Is at r;exact r.1
theorem Is.lst_inv {H:Hp} {v:V} {ts:List T} (r:Is H v (.lst ts)):∃ a vs,v=.ref a∧H a=some (.lst vs)∧IsL H vs ts:=by unfold Is at r;exact r.2
theorem IsL.ints {H:Hp}:∀ (ns:List Int),IsL H (ns.map V.int) (ns.map T.int)
 | []=>.nil
 | n::ns=>.cons Is.int (IsL.ints ns)
theorem IsL.ints_inv {H:Hp}:∀ {ns:List Int} {vs:List V},IsL H vs (ns.map T.int)→vs=ns.map V.int
 | [],vs,r=>r.nil_inv
 | n::ns,vs,r=>by
  obtain ⟨x,w,rfl,a,r⟩:=r.cons_inv
  rw [a.int_inv,r.ints_inv]
  rfl
theorem Qct {n:Nat} (h:n≤100000):n≤sizeLine:=by rw [sizeLine_eq];omega
noncomputable def tyT:T→String
 | .non => "NoneType" | .bl _ => "bool" | .int _ => "int" | .str _ => "str" | .tup _ => "tuple" | .lst _ => "list" | .dct _ _ => "dict" | .dtt _ _ => "dict" | .clo _ _ => "function"
noncomputable def Qin:T→Bool
 | .clo _ _=>true
 | _=>false
theorem Is.tyOf {K:PySem.W.Frag} {H:Hp} {v:V} {t:T} (r:Is H v t) (hc:Qin t=false):TyOf K H v (.type (tyT t)):=by
 cases t with
 | non=>unfold Is at r;subst r;exact .non
 | bl b=>unfold Is at r;subst r;exact .bl b
 | int i=>unfold Is at r;subst r;exact .int i
 | str x=>unfold Is at r;subst r;exact .str x
 | tup ts=>obtain ⟨a,vs,rfl,h,_⟩:=r.tup_inv;exact .tup h
 | lst ts=>obtain ⟨a,vs,rfl,h,_⟩:=r.lst_inv;exact .lst h
 | dct ks ts=>unfold Is at r;obtain ⟨a,vs,rfl,h,_⟩:=r;exact .dK h
 | dtt ks ts=>unfold Is at r;obtain ⟨_,a,vs,rfl,h,_⟩:=r;exact .dT h
 | clo l ts=>cases hc
noncomputable def Qmq (a c:String):Bool:=a==c||(a == "bool" && c == "int")
theorem Q3v (K:PySem.W.Frag):∀ a∈["NoneType","bool","int","str","tuple","list","dict"],∀ c∈["int","bool","tuple","list","dict","str"],PySem.W.kitOne K (.type a) (.type c)=some (Qmq a c):=by
 intro a ha c hc
 simp only [mem_cons,not_mem_nil,or_false] at ha hc
 rcases ha with rfl | rfl | rfl | rfl | rfl | rfl | rfl <;> rcases hc with rfl | rfl | rfl | rfl | rfl | rfl <;> rfl
theorem Qx1 {X:Cx}:CallR X (.builtin "isinstance") (fun xs H Q=>∃ x c t,xs=[x,.ty c]∧Is H x t∧Qin t=false∧c∈["int","bool","tuple","list","dict","str"]∧Q (.bl (Qmq (tyT t) c)) H):=by
 intro pins s σ H xs us Q I r h
 obtain ⟨x,c,t,e,ty,nc,hc,q⟩:=h
 refine Qrz pins s σ H xs us Q I r ⟨x,c,_,_,e,ty.tyOf nc,Q3v X.K (tyT t) ?_ c hc,q⟩
 cases t <;> first | (cases nc;done) | simp [tyT]
noncomputable def Qam:Expr→Bool
 | .Starred _ _=>false
 | _=>true
theorem Qcx {e:Expr} {es:List Expr} {env:Env} (h:Qam e=true):starEach (e::es) env=(false,eval e env)::starEach es env:=by
 cases e <;> first | rfl | exact absurd h Bool.false_ne_true
theorem paC {X:Cx} {e:Expr} {es:List Expr} {te:TE} {t:TA} (ha:PE X e te) (hr:PA X es t) (hs:Qam e=true:=by rfl):PA X (e::es) (Qjd te t):=Q3g ha hr (Qcx hs)
section
variable {X:Cx} {e a b:Expr} {es:List Expr} {t:T} {ts:List T} {pos:Pos}
theorem PE.weak {te te':TE} (h:PE X e te) (q:∀ σ H Q,te' σ H Q→te σ H Q):PE X e te':=fun pins s σ H Q I hq=>h pins s σ H Q I (q _ _ _ hq)
theorem PA.weak {ta ta':TA} (h:PA X es ta) (q:∀ σ H Q,ta' σ H Q→ta σ H Q):PA X es ta':=fun pos pins s σ H Q I hq=>h pos pins s σ H Q I (q _ _ _ hq)
end
structure Wk (J:It) (xs:List V) (P:Hp→Prop):Prop where
 go:∀ i H,i<xs.length→P H→J.go i H
 yld:∀ i H x H',i<xs.length→P H→J.yld i H x H'→H'=H∧xs[i]?=some x
 stop:∀ i H,xs.length≤i→P H→J.stop i H
 mono:∀ H H',Same H H'→P H→P H'
section
variable {X:Cx}
noncomputable def Q86 (K:PySem.W.Frag):List V→Hp→VK→Prop:=fun xs H Q=>∃ p ys,xs=[.ref p]∧(SqL K H p ys∨SqT K H p ys)∧Q (.int ys.length) H
theorem kLen (K:PySem.W.Frag) (hK:X.K=K):CallR X (.builtin "len") (Q86 K):=by subst hK;exact Qqd
noncomputable def Q87 (K:PySem.W.Frag):List V→Hp→VK→Prop:=fun xs H Q=>∃ p ys,xs=[.ref p]∧SqL K H p ys∧ys.all Qmn=true∧Q (.bl (ys.all Qlu)) H
theorem kAll (K:PySem.W.Frag) (hK:X.K=K) (hc:X.calm=true):CallR X (.builtin "all") (Q87 K):=by subst hK;exact Qzn hc
noncomputable def Q88 (K:PySem.W.Frag):List V→Hp→VK→Prop:=fun xs H Q=>∃ p ys,xs=[.ref p]∧SqL K H p ys∧ys.all Qmn=true∧Q (.bl (ys.any Qlu)) H
theorem kAny (K:PySem.W.Frag) (hK:X.K=K) (hc:X.calm=true):CallR X (.builtin "any") (Q88 K):=by subst hK;exact Qzo hc
noncomputable def Qzs (K:PySem.W.Frag):List V→Hp→VK→Prop:=fun xs H Q=>∃ (p:Addr) (ns:List Int),xs=[.ref p]∧SqL K H p (ns.map V.int)∧ns≠[]∧∀ M,M∈ns→(∀ a∈ns,a≤M)→Q (.int M) H
theorem Qacp (K:PySem.W.Frag) (hK:X.K=K) (hc:X.calm=true):CallR X (.builtin "max") (Qzs K):=by subst hK;exact Qxw hc
noncomputable def Qzt (K:PySem.W.Frag):List V→Hp→VK→Prop:=fun xs H Q=>∃ (p:Addr) (ns:List Int),xs=[.ref p]∧SqL K H p (ns.map V.int)∧ns≠[]∧∀ M,M∈ns→(∀ a∈ns,M≤a)→Q (.int M) H
theorem Qacq (K:PySem.W.Frag) (hK:X.K=K) (hc:X.calm=true):CallR X (.builtin "min") (Qzt K):=by subst hK;exact Qxx hc
noncomputable def Qzu (K:PySem.W.Frag):List V→Hp→VK→Prop:=fun xs H Q=>∃ (p:Addr) (ns:List Int),xs=[.ref p]∧SqL K H p (ns.map V.int)∧Q (.int ns.sum) H
theorem Qacr (K:PySem.W.Frag) (hK:X.K=K) (hc:X.calm=true):CallR X (.builtin "sum") (Qzu K):=by subst hK;exact Qxy hc
noncomputable def Qqh (K:PySem.W.Frag):List V→Hp→VK→Prop:=fun xs H Q=>∃ p ys,xs=[.ref p]∧(SqL K H p ys∨SqT K H p ys)∧∀ l,H l=none→Q (.ref l) (upd H l (.lst ys))
theorem Q3w (K:PySem.W.Frag) (hK:X.K=K):CallR X (.type "list") (Qqh K):=by subst hK;exact Qqe
noncomputable def Qt7 (K:PySem.W.Frag):List V→Hp→VK→Prop:=fun xs H Q=>∃ p ys,xs=[.ref p]∧((SqL K H p ys∧∀ l,H l=none→Q (.ref l) (upd H l (.tup ys)))∨(SqT K H p ys∧Q (.ref p) H))
theorem Q89 (K:PySem.W.Frag) (hK:X.K=K):CallR X (.type "tuple") (Qt7 K):=by subst hK;exact Qoo
noncomputable def Q6n:List V→Hp→VK→Prop:=fun xs H Q=>∃ x c t,xs=[x,.ty c]∧Is H x t∧Qin t=false∧c∈["int","bool","tuple","list","dict","str"]∧Q (.bl (Qmq (tyT t) c)) H
theorem Qacs:CallR X (.builtin "isinstance") Q6n:=Qx1
theorem kAdd (K:PySem.W.Frag) (hK:X.K=K):OpR X (binaryOp .Add) (Qmp K):=by subst hK;exact uAdd
theorem kIx (K:PySem.W.Frag) (hK:X.K=K):IxR X (rIx K):=by subst hK;exact Q8z
theorem kSl (K:PySem.W.Frag) (hK:X.K=K):SlR X (Qzq K):=by subst hK;exact uSl
theorem kSeq (K:PySem.W.Frag) (hK:X.K=K) {tg l:Expr} {tl:TE} (hl:PE X l tl):PI X tg l (Qx0 K tl):=by subst hK;exact Q84 hl
theorem kTup (K:PySem.W.Frag) (hK:X.K=K) {es:List Expr} {k:Nat} {t:TGs} {n:Nat} {pos:Pos} (hc:X.calm=true) (h:PGs X es t)
  (hn:(assignEach es X.env).length=n:=by rfl) (hst:(assignEach es X.env).findIdx? (·.1)=none:=by rfl):PG X (.Tuple es k pos) (Q29 K n t):=by subst hK;exact Q8b hc h hn hst
theorem Qzv (K:PySem.W.Frag) (hK:X.K=K):MtM X "list.extend" (Qg9 K):=by subst hK;exact Qt6
theorem kBm (K:PySem.W.Frag) (hK:X.K=K) {T:String} {o e:Expr} {es:List Expr} {to:TE} {t:TA} {name:Str} {apos cpos:Pos} {id:String} {r:V→List V→Hp→VK→Prop} (pa:PlainAttrs T) (slot:Slot T name id) (hty:typeOf (.builtin id)=pure (.type "method_descriptor")) (hm:MtR X id r) (ho:PE X o to) (ha:PA X (e::es) t)
  (hbase:attributeBase o name X.env (eval o X.env)=eval o X.env:=by rfl)
  (hfew:((backTo cpos (starEach (e::es) X.env)).all (fun x=>!x.1)&&(backToKw cpos (keywordEach [] X.env)).all (fun x=>x.1.isSome)
   && decide ((e::es).length+([]:List Keyword).length+(if ([]:List Keyword).isEmpty then 0 else 1)<30))=true:=by rfl)
  (hline:(apos.endLine==cpos.line)=true:=by rfl) (hs:starEach (e::es) X.env=(false,eval e X.env)::starEach es X.env:=by rfl) (hplain:(backTo cpos (starEach es X.env)).any (·.1)=false:=by rfl) :
  PE X (.Call (.Attribute o name apos) (e::es) [] cpos) (tBM K T r to t):=by
 subst hK
 exact Qacj pa slot hty hm ho ha hbase hfew hline hs hplain
end
noncomputable def Tups (H H':Hp):Prop:=∀ a xs,H a=some (.tup xs)→H' a=some (.tup xs)
noncomputable def MkT (xs:List V) (H:Hp) (Q:VK):Prop:=xs.length≤sizeLine∧∀ p,H p=none→Q (.ref p) (upd H p (.tup xs))
noncomputable def MkL (xs:List V) (H:Hp) (Q:VK):Prop:=xs.length≤sizeLine∧∀ p,H p=none→Q (.ref p) (upd H p (.lst xs))
noncomputable abbrev Qact (t:TA):TE:=fun σ H Q=>t σ H fun xs H1=>MkT xs H1 Q
noncomputable abbrev Q6o (t:TA):TE:=fun σ H Q=>t σ H fun xs H1=>MkL xs H1 Q
structure QE (X:Cx) (e:Expr) (t:TE):Prop where
 h:PE X e t
structure QT (X:Cx) (e:Expr) (t:TT):Prop where
 h:PT X e t
structure QW (X:Cx) (e:Expr) (t:TT):Prop where
 h:PW X e t
structure QA (X:Cx) (es:List Expr) (t:TA):Prop where
 h:PA X es t
structure QS (X:Cx) (st:Stmt) (t:TS):Prop where
 h:PS X st t
structure QB (X:Cx) (st:List Stmt) (t:TS):Prop where
 h:PSs X st t
structure QI (X:Cx) (tg it:Expr) (t:TI):Prop where
 h:PI X tg it t
structure QG (X:Cx) (tg:Expr) (t:TG):Prop where
 h:PG X tg t
structure QGs (X:Cx) (tg:List Expr) (t:TGs):Prop where
 h:PGs X tg t
structure QC (X:Cx) (ifs:List Expr) (t:TT):Prop where
 h:PTs X ifs t
structure QO (X:Cx) (e:Option Expr) (t:TO):Prop where
 h:PO X e t
structure QOp (X:Cx) (f:Value→Value→Sem Value) (r:R2):Prop where
 h:OpR X f r
structure QUn (X:Cx) (f:Value→Sem Value) (r:V→Hp→VK→Prop):Prop where
 h:UnR X f r
structure QCl (X:Cx) (f:Value) (r:List V→Hp→VK→Prop):Prop where
 h:CallR X f r
structure QIx (X:Cx) (r:R2):Prop where
 h:IxR X r
structure QSl (X:Cx) (r:V→Option Int→Option Int→Hp→VK→Prop):Prop where
 h:SlR X r
structure QMt (X:Cx) (id:String) (r:V→List V→Hp→VK→Prop):Prop where
 h:MtR X id r
section
variable {X:Cx} {e a b:Expr} {es rest:List Expr} {te ta tb:TE} {t:TA} {tt uu tA tB':TT} {pos p p2:Pos} {x:Str}
theorem Qig (i:Nat) (hN:X.N[i]?=some x:=by rfl) (hv:Vis X.env.scope x:=by first | exact Or.inl rfl | exact Or.inr (Or.inl rfl) | exact Or.inr (Or.inr rfl)) (hd:(x==("__debug__" : Str))=false:=by decide)
  (hcd:(x==("__classdict__" : Str))=false:=by decide):QE X (.Name x pos) (Qom i):=⟨pv i hN hv hd hcd⟩
theorem Qr2 {i j}:QE X (.Constant (.int i) j pos) (tC (.int i)):=⟨Q7y⟩
theorem Q9a {b j}:QE X (.Constant (.bool b) j pos) (tC (.bl b)):=⟨Qabx⟩
theorem Qacu {j}:QE X (.Constant .none j pos) (tC .non):=⟨Q7z⟩
theorem Q9b {v:V} (h:∃ u,X.mg x=some u∧RelV v u) (hg:Gl X x:=by rfl) (hd:(x==("__debug__" : Str))=false:=by decide):QE X (.Name x pos) (tC v):=by
 obtain ⟨u,m,r⟩:=h
 exact ⟨Qvs hg m r hd⟩
theorem Qx2 (T:String) (hm:X.mg x=none) (hv:bootBuiltins x=some (.type T)) (hg:Gl X x:=by rfl) (hn:x ≠ "__name__" := by decide) (hd:(x==("__debug__" : Str))=false:=by decide):QE X (.Name x pos) (tC (.ty T)):=⟨Q21 (v:=.ty T) hg hm hv rfl hn hd⟩
theorem q_op {op:Operator} {r:R2} (ho:QOp X (binaryOp op) r) (ha:QE X a ta) (hb:QE X b tb):QE X (.BinOp a op b pos) (tOp r ta tb):=⟨Qab4 ho.h ha.h hb.h⟩
theorem q_un {op:UnaryOp} {r:V→Hp→VK→Prop} (ho:QUn X (unaryOp op) r) (ha:QE X a ta):QE X (.UnaryOp op a pos) (tUn r ta):=⟨Qab5 ho.h ha.h⟩
theorem Qacw (ha:QE X a ta):QE X (.UnaryOp .Not a pos) (Q6e ta):=⟨Q76 ha.h⟩
theorem Qacx {op} (ha:QE X a ta):QE X (.BoolOp op [a] pos) ta:=⟨Q74 ha.h⟩
theorem Qacy (ha:QE X a ta) (hb:QE X (.BoolOp .And (b::rest) pos) tb):QE X (.BoolOp .And (a::b::rest) pos) (Q6d ta tb):=⟨Q75 ha.h hb.h⟩
theorem Qacz {op:CmpOp} {r:R2} (ho:QOp X (compareOp op) r) (ha:QE X a ta) (hb:QE X b tb) (hm:behindInMarks op b=false):QE X (.Compare a [op] [b] pos) (tOp r ta tb):=⟨Q3d ho.h ha.h hb.h hm⟩
theorem Qzw {op:CmpOp} {r:R2} (ho:QOp X (compareOp op) r) (ha:QE X a ta) (hb:QE X b tb) (hm:behindInMarks op b=false):QT X (.Compare a [op] [b] pos) (Q6h (tOp r ta tb)):=⟨Q3e ho.h ha.h hb.h hm⟩
theorem Q9c (ha:QE X e te) (he:∀ whole,isTrue e X.env whole=(do let v ← whole;standAt e.pos;holding [v] (truthy v)):=by intro _;rfl):QT X e (tB te):=⟨Q70 ha.h he⟩
theorem Q9d (ha:QT X a tA):QT X (.UnaryOp .Not a pos) (tNot tA):=⟨Q73 ha.h⟩
theorem q_wt (ha:QW X e tA):QT X e tA:=⟨ha.h.pt⟩
theorem Q3x (ha:QT X a tA):QW X (.BoolOp .And [a] pos) tA:=⟨Q22 ha.h⟩
theorem Q9e (ha:QT X a tA):QW X (.BoolOp .Or [a] pos) tA:=⟨Q71 ha.h⟩
theorem Q9f (ha:QT X a tA) (hb:QW X (.BoolOp .And (b::rest) pos) tB'):QW X (.BoolOp .And (a::b::rest) pos) (tAnd tA tB'):=⟨Q72 ha.h hb.h⟩
theorem Qac0 (ha:QT X a tA) (hb:QW X (.BoolOp .Or (b::rest) pos) tB'):QW X (.BoolOp .Or (a::b::rest) pos) (tOr tA tB'):=⟨Qab0 ha.h hb.h⟩
theorem Qha:QA X [] Qt0:=⟨Q8r⟩
theorem Qdt (ha:QE X e te) (hr:QA X es t) (hs:Qam e=true:=by rfl):QA X (e::es) (Qjd te t):=⟨paC ha.h hr.h hs⟩
theorem Qac1 {x1} (h:QA X es t):QE X (.Tuple es x1 pos) (Qact t):=⟨Q8s h.h⟩
theorem Q6p (h:QA X es t):QE X (.List es pos) (Q6o t):=⟨Q8t h.h⟩
variable {ts:List T} {u:T}
theorem q_fn {ps:List Str} {k:Nat} {sp:Sp} (h:Has X.prog X.w X.K X.mg X.base x ps k sp) (hr:Room k X.A) (ha:QA X (e::es) t) (hg:Gl X x:=by rfl)
  (hdb:(x==("__debug__" : Str))=false:=by decide) (he:Qam e=true:=by rfl) (hpl:(backTo pos (starEach es X.env)).any (·.1)=false:=by rfl):QE X (.Call (.Name x p) (e::es) [] pos) (Qvx sp [] E0 t):=⟨Qzr h hr ha.h hg hdb (Qcx he) hpl⟩
theorem Q9g {id:String} {r:List V→Hp→VK→Prop} (hc:QCl X (.builtin id) r) (hm:X.mg x=none) (hv:bootBuiltins x=some (.builtin id)) (ha:QA X (e::es) t) (hg:Gl X x:=by rfl) (hn:x ≠ "__name__" := by decide) (hdb:(x==("__debug__" : Str))=false:=by decide)
  (he:Qam e=true:=by rfl) (hpl:(backTo pos (starEach es X.env)).any (·.1)=false:=by rfl):QE X (.Call (.Name x p) (e::es) [] pos) (tCB r t):=⟨Qzg hc.h hg hm hv ha.h hn hdb (Qcx he) hpl⟩
theorem Qac2 {T:String} {r:List V→Hp→VK→Prop} (hc:QCl X (.type T) r) (hm:X.mg x=none) (hv:bootBuiltins x=some (.type T)) (ha:QA X (e::es) t) (hg:Gl X x:=by rfl) (hn:x ≠ "__name__" := by decide) (hdb:(x==("__debug__" : Str))=false:=by decide)
  (he:Qam e=true:=by rfl) (hpl:(backTo pos (starEach es X.env)).any (·.1)=false:=by rfl):QE X (.Call (.Name x p) (e::es) [] pos) (tCB r t):=⟨Qxv hc.h hg hm hv ha.h hn hdb (Qcx he) hpl⟩
theorem Q3y (K:PySem.W.Frag) (hK:X.K=K) {T:String} {o:Expr} {to:TE} {name:Str} {apos cpos:Pos} {id:String} {r:V→List V→Hp→VK→Prop} (pa:PlainAttrs T) (slot:Slot T name id) (hty:typeOf (.builtin id)=pure (.type "method_descriptor")) (hm:QMt X id r) (ho:QE X o to) (ha:QA X (e::es) t)
  (hbase:attributeBase o name X.env (eval o X.env)=eval o X.env:=by rfl)
  (hfew:((backTo cpos (starEach (e::es) X.env)).all (fun x=>!x.1)&&(backToKw cpos (keywordEach [] X.env)).all (fun x=>x.1.isSome)
   && decide ((e::es).length+([]:List Keyword).length+(if ([]:List Keyword).isEmpty then 0 else 1)<30))=true:=by rfl)
  (hline:(apos.endLine==cpos.line)=true:=by rfl) (hs:Qam e=true:=by rfl) (hplain:(backTo cpos (starEach es X.env)).any (·.1)=false:=by rfl) :
  QE X (.Call (.Attribute o name apos) (e::es) [] cpos) (tBM K T r to t):=⟨kBm K hK pa slot hty hm.h ho.h ha.h hbase hfew hline (Qcx hs) hplain⟩
theorem q_ix {r:R2} (hr:QIx X r) (ha:QE X a ta) (hb:QE X b tb) (hs:Qlz b:=by exact fun _ _=>rfl):QE X (.Subscript a b pos) (tOp r ta tb):=⟨Qace hr.h ha.h hb.h hs⟩
theorem q_sl {r:V→Option Int→Option Int→Hp→VK→Prop} {lo hi:Option Expr} {tl th:TO} (hr:QSl X r) (he:QE X e te) (hl:QO X lo tl) (hu:QO X hi th):QE X (.Subscript e (.Slice lo hi none p2) pos) (tSl r te tl th):=⟨Qzh hr.h he.h hl.h hu.h⟩
theorem q_no:QO X none Qvz:=⟨Q3i⟩
theorem Qt8 (h:QE X e te):QO X (some e) (Qv0 te):=⟨Q3j h.h⟩
variable {tg:Expr}
theorem Qzx (K:PySem.W.Frag) (hK:X.K=K) (hl:QE X e te):QI X tg e (Qx0 K te):=⟨kSeq K hK hl.h⟩
theorem Q9h (hm:X.mg "range" = none) (ha:QA X [a] t) (hg:Gl X "range" := by rfl) (hs:Qam a=true:=by rfl):QI X tg (.Call (.Name "range" p) [a] [] pos) (Q6g t):=⟨Qxn hg hm ha.h (Qcx hs)⟩
theorem Q9 {i:Nat} (hN:X.N.Nodup) (hi:X.N[i]?=some x:=by rfl) (hx:Loc X.env.scope x:=by first | exact Or.inl rfl | exact Or.inr rfl) (hf:X.fn x=true∨X.env.scope.names.lookup x=some .local:=by first | exact .inl rfl | exact .inr rfl | exact .inl (by decide +kernel)):QG X (.Name x pos) (Qe5 i):=⟨Q27 hN hi hx hf⟩
theorem Qt9:QGs X [] Q8a:=⟨Q28⟩
theorem Qf7 {es:List Expr} {t:TG} {u:TGs} (h1:QG X e t) (h2:QGs X es u) (hs:(assignEach (e::es) X.env).map (·.2)=assign e X.env::(assignEach es X.env).map (·.2):=by rfl):QGs X (e::es) (Qy6 t u):=⟨Qy7 h1.h h2.h hs⟩
theorem Qzy (K:PySem.W.Frag) (hK:X.K=K) {es:List Expr} {k:Nat} {t:TGs} {n:Nat} (hc:X.calm=true) (h:QGs X es t) (hn:(assignEach es X.env).length=n:=by rfl) (hst:(assignEach es X.env).findIdx? (·.1)=none:=by rfl):QG X (.Tuple es k pos) (Q29 K n t):=⟨kTup K hK hc h.h hn hst⟩
theorem Qqi {o i:Expr} {to ti:TE} (ho:QE X o to) (hi:QE X i ti)
  (ha:∀ v,assign (.Subscript o i pos) X.env v=(do
   let ov ← holding [v] (eval o X.env)
   let iv ← holding [v,ov] (eval i X.env)
   standAt pos
   holding [v,ov,iv] (setItem ov iv v)
   release [v,ov,iv] []):=by intro _;rfl):QG X (.Subscript o i pos) (Q8c to ti Qv2):=⟨Q8d ho.h hi.h Qzi ha⟩
theorem q_c0:QC X [] tYes:=⟨Q3q⟩
theorem q_c1 (h:QT X e tt):QC X [e] tt:=⟨Q3r h.h⟩
theorem Q9i {elt iter:Expr} {ifs:List Expr} {scope:Scope} (N:List Str) (js:List (Option Nat)) {wi:TI} {g:TG} {tc:TT} (hcalm:X.calm=true)
  (hi:QI X tg iter wi) (hg:∀ s H fp,QG (Q8 X scope N s H fp) tg g) (hc:∀ s H fp,QC (Q8 X scope N s H fp) ifs tc) (he:∀ s H fp,QE (Q8 X scope N s H fp) elt te)
  (hk:scope.kind=.function:=by rfl) (h1:scOk X scope=true:=by rfl) (h2:Qim X scope N js=true:=by rfl)
  (hs:∀ x,foldedSetIterable iter X.env x=pure x:=by intro _;rfl):QE X (.ListComp elt [⟨tg,iter,ifs,0⟩] scope pos) (Qpb wi js g tc te):=⟨Qzm hcalm hi.h (fun s H fp=>(hg s H fp).h) (fun s H fp=>(hc s H fp).h) (fun s H fp=>(he s H fp).h) hk h1 h2 hs⟩
variable {st:Stmt} {sts:List Stmt} {t1 t2:TS}
theorem Qzz:QB X [] Q6f:=⟨Q24⟩
theorem Qqj (h1:QS X st t1) (h2:QB X sts t2):QB X (st::sts) (Q23 t1 t2):=⟨Qy5 h1.h h2.h⟩
theorem Qqk (h1:QS X st t1):QB X [st] t1:=⟨Q25 h1.h⟩
theorem Qmr (he:QE X e te) (hs:swapsWith e none pos.line X.env=pure false:=by rfl):QS X (.Expr e pos) (Qvt te):=⟨Q26 he.h hs⟩
theorem Qv3 (he:QE X e te):QS X (.Return (some e) pos) (Q77 te):=⟨Q78 he.h⟩
theorem Q6q {c:Expr} {bs cs:List Stmt} (hc:QT X c tt) (ha:QB X bs t1) (hb:QB X cs t2):QS X (.If c bs cs pos) (tIfS tt t1 t2):=⟨Qab2 hc.h ha.h hb.h⟩
theorem Q6r {iter:Expr} {body:List Stmt} {wi:TI} {g:TG} (hp:PassesOwn (model X.prog X.w) X.A X.env X.xe) (hc:X.calm=true) (hi:QI X tg iter wi) (hg:QG X tg g) (hb:QB X body t1)
  (hs:∀ x,foldedSetIterable iter X.env x=pure x:=by intro _;rfl):QS X (.For tg iter body [] pos) (Qzc wi g t1):=⟨Q8g hp hc hi.h hg.h hb.h hs⟩
theorem Qa1 {i:Nat} (hN:X.N.Nodup) (he:QE X e te) (hi:X.N[i]?=some x:=by rfl) (hx:Loc X.env.scope x:=by first | exact Or.inl rfl | exact Or.inr rfl) (hs:swapsWith e (some (.Name x p2)) pos.line X.env=pure false:=by rfl) (hf:X.fn x=true∨X.env.scope.names.lookup x=some .local:=by first | exact .inl rfl | exact .inr rfl) :
  QS X (.Assign [.Name x p2] e pos) (Qlt te (Qe5 i)):=⟨Q8f hN hi hx he.h hs hf⟩
theorem Qms {g:TG} (he:QE X e te) (hg:QG X tg g) (hs:swapsWithSole [tg] e pos.line X.env=pure false:=by rfl) (hw:swappedStores [tg] e X.env=pure none:=by rfl)
  (h1:(assignEach [tg] X.env).map (·.2)=[assign tg X.env]:=by rfl):QS X (.Assign [tg] e pos) (Qlt te g):=⟨Q8e he.h hg.h hs hw h1⟩
theorem Q3z {c:Expr} {body:List Stmt} (hp:PassesOwn (model X.prog X.w) X.A X.env X.xe) (hc:QT X c tt) (hb:QB X body t1):QS X (.While c body [] pos) (Qy8 tt t1):=⟨Qy9 hp hc.h hb.h⟩
theorem Q6s (K:PySem.W.Frag) (hK:X.K=K):QOp X (binaryOp .Add) (Qmp K):=⟨kAdd K hK⟩
theorem Qac5:QOp X (binaryOp .Sub) (rI0 fun i j=>.int (i-j)):=⟨Q8k⟩
theorem Qac6:QOp X (binaryOp .Pow) (rI Q8i fun i j=>.int (i^j.toNat)):=⟨Q8m⟩
theorem Qac7:QUn X (unaryOp .USub) (rU fun i=>.int (-i)):=⟨Q8n⟩
theorem o_eq:QOp X (compareOp .Eq) rEq:=⟨Qab7⟩
theorem o_ne:QOp X (compareOp .NotEq) rNe:=⟨Qab8⟩
theorem Q9j:QOp X (compareOp .Lt) (rI0 fun i j=>.bl (decide (i<j))):=⟨Qab9⟩
theorem o_le:QOp X (compareOp .LtE) (rI0 fun i j=>.bl (decide (i≤j))):=⟨Qaca⟩
theorem o_gt:QOp X (compareOp .Gt) (rI0 fun i j=>.bl (decide (j<i))):=⟨Qacb⟩
theorem o_ge:QOp X (compareOp .GtE) (rI0 fun i j=>.bl (decide (j≤i))):=⟨Qacc⟩
noncomputable def rIsN:R2:=fun x y H Q=>y=.non∧Q (.bl (decide (x=.non))) H
noncomputable def Q6t:R2:=fun x y H Q=>y=.non∧Q (.bl (!decide (x=.non))) H
theorem Qac9:QOp X (compareOp .Is) rIsN:=⟨Q8p⟩
theorem Q9k:QOp X (compareOp .IsNot) Q6t:=⟨Q3c⟩
theorem o_ix (K:PySem.W.Frag) (hK:X.K=K):QIx X (rIx K):=⟨kIx K hK⟩
theorem o_sl (K:PySem.W.Frag) (hK:X.K=K):QSl X (Qzq K):=⟨kSl K hK⟩
theorem Qmt:QMt X "list.append" Ql0:=⟨Qkj⟩
theorem Qx3 (K:PySem.W.Frag) (hK:X.K=K):QMt X "list.extend" (Qg9 K):=⟨Qzv K hK⟩
theorem Q9l:QCl X (.builtin "isinstance") Q6n:=⟨Qacs⟩
theorem Qbt (K:PySem.W.Frag) (hK:X.K=K):QCl X (.builtin "len") (Q86 K):=⟨kLen K hK⟩
theorem Qr3 (K:PySem.W.Frag) (hK:X.K=K) (hc:X.calm=true:=by rfl):QCl X (.builtin "all") (Q87 K):=⟨kAll K hK hc⟩
theorem Qadc (K:PySem.W.Frag) (hK:X.K=K) (hc:X.calm=true:=by rfl):QCl X (.builtin "any") (Q88 K):=⟨kAny K hK hc⟩
theorem Q6u (K:PySem.W.Frag) (hK:X.K=K) (hc:X.calm=true:=by rfl):QCl X (.builtin "sum") (Qzu K):=⟨Qacr K hK hc⟩
theorem Q9m (K:PySem.W.Frag) (hK:X.K=K) (hc:X.calm=true:=by rfl):QCl X (.builtin "max") (Qzs K):=⟨Qacp K hK hc⟩
theorem Q9n (K:PySem.W.Frag) (hK:X.K=K) (hc:X.calm=true:=by rfl):QCl X (.builtin "min") (Qzt K):=⟨Qacq K hK hc⟩
noncomputable def Q6v:List V→Hp→VK→Prop:=fun xs H Q=>∃ i j,xs=[.int i,.int j]∧Q (.int (if j>i then j else i)) H
noncomputable def Q6w:List V→Hp→VK→Prop:=fun xs H Q=>∃ i j,xs=[.int i,.int j]∧Q (.int (if j<i then j else i)) H
theorem Q9o (hc:X.calm=true:=by rfl):QCl X (.builtin "max") Q6v:=⟨Qxp hc⟩
theorem Q9p (hc:X.calm=true:=by rfl):QCl X (.builtin "min") Q6w:=⟨Qxq hc⟩
noncomputable def rAbs:List V→Hp→VK→Prop:=fun xs H Q=>∃ i,xs=[.int i]∧Q (.int (if i<0 then -i else i)) H
theorem Q6x:QCl X (.builtin "abs") rAbs:=⟨Qzf⟩
noncomputable def rDvm:List V→Hp→VK→Prop:=fun xs H Q=>∃ i j,xs=[.int i,.int j]∧CDv i j∧∀ p,H p=none→Q (.ref p) (upd H p (.tup [.int (i / j),.int (i%j)]))
theorem Qadf:QCl X (.builtin "divmod") rDvm:=⟨Qzp⟩
noncomputable def Q6y:List V→Hp→VK→Prop:=fun xs H Q=>(∃ i,xs=[.int i]∧Q (.int i) H)∨∃ k,xs=[.bl k]∧Q (.int (if k then 1 else 0)) H
theorem Qz0:QCl X (.type "int") Q6y:=⟨Qxr⟩
theorem Q9q (K:PySem.W.Frag) (hK:X.K=K):QCl X (.type "list") (Qqh K):=⟨Q3w K hK⟩
theorem Qdm (K:PySem.W.Frag) (hK:X.K=K):QCl X (.type "tuple") (Qt7 K):=⟨Q89 K hK⟩
end
section
variable {P:Program} {w:World} {K:PySem.W.Frag} {mg:Str→Option Value} {base:Heap}
theorem Qadg {x:Str} {st:Stmt} {N ps:List Str} {k:Nat} {sp:Sp} (d:Dfn K mg x st) (S:FnScope N ps (Qg st)) (bd:Q5 x st ps) (len:∀ vs H Q E,sp vs H Q E→vs.length=ps.length)
  (hbody:∀ (f:Addr) (cdv:Value) (A:Around) (outer:List Env) (s:Shared) (H:Hp) (vs:List V) (Q:VK) (E:XK),Room k (A.deeper (envOfC x (Qg st) s.heap.objs.size f cdv))→sp vs H Q E →
   ∃ t,QB (Qif (fun _=>true) CX0 P w K mg base N x (Qg st) f cdv A outer s H E).nox (Qbq st) t∧t { nx:=fun _ H'=>Q .non H',rt:=Q } (Qcr N vs) H):Has P w K mg base x ps (k+1) sp :=
 Q85 d S bd len fun f cdv A outer s H vs Q E hr hs=>let ⟨t,a,b⟩:=hbody f cdv A outer s H vs Q E hr hs;⟨t,a.h,b⟩
end
section
variable {X:Cx} {tg:Expr}
end
open Classical in
noncomputable def dls (H:Hp) (S:Addr→Prop):Hp:=fun b=>if S b then none else H b
theorem Qb9 {H:Hp} {S:Addr→Prop} {b:Addr} (h:¬ S b):dls H S b=H b:=by unfold dls;rw [if_neg h]
theorem Qan {H:Hp} {S:Addr→Prop} {b:Addr} {o:HO} (e:dls H S b=some o):¬ S b∧H b=some o:=by
 unfold dls at e
 by_cases h:S b
 ·rw [if_pos h] at e;cases e
 ·rw [if_neg h] at e;exact ⟨h,e⟩
theorem Qz1 (H:Hp) (S:Addr→Prop):Same (dls H S) H:=fun b o e=>(Qan e).2
theorem Qbn {S:Addr→Prop} {H H':Hp} (s:Same H H'):Same (dls H S) (dls H' S):=fun b o e=>by
 obtain ⟨n,e⟩:=Qan e
 rw [Qb9 n];exact s b o e
theorem Qcy {S S':Addr→Prop} {H:Hp} (h:∀ b,S b→S' b):Same (dls H S') (dls H S):=fun b o e=>by
 obtain ⟨n,e⟩:=Qan e
 rw [Qb9 fun z=>n (h b z)];exact e
noncomputable def Q9r:HO→Bool
 | .lst _=>true
 | .dT _=>true
 | _=>false
noncomputable def Pen (H:Hp) (S:Addr→Prop):Prop:=∀ b,S b→∃ o,H b=some o∧Q9r o=true
theorem Pen.mono {H H':Hp} {S:Addr→Prop} (h:Pen H S) (s:Same H H'):Pen H' S:=fun b hb=>by
 obtain ⟨xs,e,p⟩:=h b hb
 exact ⟨xs,s _ _ e,p⟩
theorem Pen.new {H:Hp} {S:Addr→Prop} {q:Addr} (h:Pen H S) (hq:H q=none):¬ S q:=fun z=>by
 obtain ⟨xs,e,_⟩:=h q z
 rw [hq] at e;cases e
theorem Qz2 {H:Hp} {S:Addr→Prop} (h:Pen H S):Tups H (dls H S):=fun a ys e=>by
 rw [Qb9 fun z=>by
  obtain ⟨xs,e',p⟩:=h a z
  rw [e] at e';cases e';cases p]
 exact e
section
variable {K:PySem.W.Frag} {H:Hp} {S:Addr→Prop} {x y:V} {ts us:List T} {Q:VK}
theorem Qx4 {H':Hp} {a:Addr} {vs:List V} (hp:Pen H' S) (e:H' a=some (.tup vs)):dls H' S a=some (.tup vs):=Qz2 hp a vs e
theorem Qhx {a:Addr} {vs:List V} (hp:Pen H S) (e:H a=some (.tup vs)) (r:IsL (dls H S) vs ts) (z:ts.length≤100000):Is (dls H S) (.ref a) (.tup ts):=.tup (Qx4 hp e) r z
noncomputable def Qel (ts:List T) (lo hi:Option Int):List T:=(ts.drop (HT.sIx ts.length 0 lo)).take (HT.sIx ts.length ts.length hi-HT.sIx ts.length 0 lo)
theorem Qr4 (ts:List T) (lo hi:Option Int):(Qel ts lo hi).length≤ts.length:=by
 unfold Qel
 rw [length_take,length_drop]
 omega
theorem IsL.cut {D:Hp} {vs:List V} (r:IsL D vs ts) (lo hi:Option Int):IsL D (Qg7 vs lo hi) (Qel ts lo hi):=by
 unfold Qg7 Qel
 rw [r.length]
 exact (r.drop _).take _
theorem Qz3 {lo hi:Option Int} (hp:Pen H S) (it:Is (dls H S) x (.tup ts)) (k:∀ y H',Same H H'→Is (dls H' S) y (.tup (Qel ts lo hi))→Q y H'):Qzq K x lo hi H Q:=by
 obtain ⟨a,vs,rfl,ha,r⟩:=it.tup_inv
 refine .inr ⟨a,vs,rfl,(Qan ha).2,fun q H' s' e' _=>k _ H' s' (Qhx (hp.mono s') e' ((r.cut lo hi).mono (Qbn s')) ?_)⟩
 have:=Qr4 ts lo hi
 have:=it.tup_len
 omega
theorem Q9s (hp:Pen H S) (ix:Is (dls H S) x (.tup ts)) (iy:Is (dls H S) y (.tup us)) (hz:ts.length+us.length≤100000) (k:∀ z H',Same H H'→Is (dls H' S) z (.tup (ts++us))→Q z H'):Qmp K x y H Q:=by
 obtain ⟨a,vs,rfl,ha,r⟩:=ix.tup_inv
 obtain ⟨b,ws,rfl,hb,r2⟩:=iy.tup_inv
 refine .inr (.inr ⟨a,b,vs,ws,rfl,rfl,(Qan ha).2,(Qan hb).2,Qct (by rw [r.length,r2.length];exact hz),fun q H' s' e' _=>k _ H' s' (Qhx (hp.mono s') e' ((r.append r2).mono (Qbn s')) (by rw [length_append];exact hz))⟩)
theorem Q9t {vs:List V} (hp:Pen H S) (r:IsL (dls H S) vs ts) (hz:ts.length≤100000) (k:∀ z H',Same H H'→Is (dls H' S) z (.tup ts)→Q z H'):MkT vs H Q :=
 ⟨Qct (by rw [r.length];exact hz),fun q hq=>k _ _ (Same.upd hq) (Qhx (hp.mono (Same.upd hq)) Q6 (r.mono (Qbn (Same.upd hq))) hz)⟩
theorem Q9u {vs:List V} (hp:Pen H S) (r:IsL (dls H S) vs ts) (hz:ts.length≤100000) (k:∀ l H',Same H H'→H l=none→H' l=some (.lst vs)→Is (dls H' S) (.ref l) (.lst ts)→Q (.ref l) H'):MkL vs H Q :=
 ⟨Qct (by rw [r.length];exact hz),fun q hq=>k _ _ (Same.upd hq) hq Q6 (.lst (by rw [Qb9 (hp.new hq),Q6]) (r.mono (Qbn (Same.upd hq))) hz)⟩
noncomputable def Sm (D:Hp) (x:V):Prop:=∃ t,Is D x t
end
structure Raw (fs:List Addr) (g:Heap) (H:Hp) (h h':Heap):Prop where
 keep:∀ b o,h.get? b=some o→((∃ u,g.get? b=some u)∨H b≠none)→b∉fs→h'.get? b=some o
 slot:∀ b o,h.get? b=some o→((∃ u,g.get? b=some u)∨H b≠none)→∃ sl,h'.get? b=some { o with slots:=sl }
 size:h.objs.size≤h'.objs.size
theorem Raw.refl (fs:List Addr) (g:Heap) (H:Hp) (h:Heap):Raw fs g H h h:=⟨fun _ _ e _ _=>e,fun _ o e _=>⟨o.slots,e⟩,Nat.le_refl _⟩
theorem Raw.trans {fs:List Addr} {g:Heap} {H:Hp} {h h1 h2:Heap} (a:Raw fs g H h h1) (b:Raw fs g H h1 h2):Raw fs g H h h2 where
 keep:=fun c o e p q=>b.keep c o (a.keep c o e p q) p q
 slot:=fun c o e p=>by
  obtain ⟨sl,e1⟩:=a.slot c o e p
  obtain ⟨sl',e2⟩:=b.slot c _ e1 p
  exact ⟨sl',e2⟩
 size:=Nat.le_trans a.size b.size
noncomputable def XObj (H:Hp) (h:Heap) (g:Heap) (e:Addr) (cls:Value) (dx:Option Addr):Prop :=
 g.get? e=none∧H e=none∧∃ oe vs,h.get? e=some oe∧oe.cls=cls∧oe.dict=dx∧oe.data=.fields vs∧1<vs.size ∧
  (vs[1]?=some .none∨∃ T oT ts,vs[1]?=some (.ref T)∧T≠e∧g.get? T=none∧H T=none∧h.get? T=some oT∧oT.data=.fields ts∧3<ts.size)
section
variable {M:Model} {A:Around} {E:Value→Shared→Prop} {s:Shared} {H:Hp} {g:Heap} {e L:Addr} {cls:Value} {dx:Option Addr} {env:Env} {outer:List Env} {base:Heap} {Q:Unit→Shared→Prop}
theorem Qql {fs:List Addr} {h:Heap} {a:Addr} {f:Obj→Obj} (ha:g.get? a=none) (hH:H a=none):Raw fs g H h (h.update a f):=by
 have ne:∀ b,((∃ u,g.get? b=some u)∨H b≠none)→a≠b:=fun b p z=>by
  subst z
  rcases p with p | p
  ·obtain ⟨u,q⟩:=p
   rw [ha] at q;cases q
  ·exact p hH
 refine ⟨fun b o e p _=>?_,fun b o e p=>⟨o.slots,?_⟩,?_⟩
 ·rw [Heap.get?_update_other _ _ (ne b p)];exact e
 ·rw [Heap.get?_update_other _ _ (ne b p)];exact e
 ·exact Nat.le_of_eq (by rw [Heap.size_update])
theorem Qz4 {fs:List Addr} {h:Heap} {o:Obj}:Raw fs g H h (h.push o) :=
 ⟨fun _ _ e _ _=>Heap.get?_push_of_some _ e,fun _ u e _=>⟨u.slots,Heap.get?_push_of_some _ e⟩,by rw [Heap.size_push];omega⟩
theorem Qx5 {fs:List Addr} {h h':Heap} (x:Heap.SlotsOnly fs h h'):Raw fs g H h h' :=
 ⟨fun b o e _ q=>(x.2.1 b q).trans e,fun b o e _=>x.2.2 b o e,Nat.le_of_eq x.1.symm⟩
theorem Qpc {hd0:Value} {nx:Bool} (hfr:A.frames=some (env::outer)) (hl:s.heap.FunFrames base (env::outer)) (hf:env.frame=some L) (fresh:∀ b,s.heap.objs.size≤b→H b=none) (hn:∀ b o,g.get? b=some o→b<s.heap.objs.size)
  (X:XObj H s.heap g e cls dx) (h:∀ h',XObj H h' g e cls dx→Raw (frs (env::outer)) g H s.heap h'→Q () { s with heap:=h' }) :
  wpAny M A (do let a ← frameOf env;let pl ← entryPlaceOf L nx;let b ← EntryCells.newEntry hd0 a .none (rawInt L) .none pl;setField (.ref e) 1 b) Q E s:=by
 obtain ⟨hne,hHe,oe,vs,he,hc,hdx,hd,hsz,_⟩:=X
 have nofr:e∉frs (env::outer):=fun hm=>by
  obtain ⟨_,o,ho,hnf⟩:=hl.mem hm
  rw [he] at ho;cases ho;exact hnf vs hd
 refine wpAny_bind (wpAny_frameOf_fun hfr hl hf fun h1 hs1=>wpAny_bind (wpAny_entryPlaceOf fun pl hpl=>?_))
 unfold EntryCells.newEntry newFields
 refine wpAny_bind (wpAny_newObj_type ?_ (hpl.sizeOk5 _ _ _ _ _))
 have he1:h1.get? e=some oe:=(hs1.2.1 e nofr).trans he
 have sz1:h1.objs.size=s.heap.objs.size:=hs1.1
 generalize hob:({ cls:=.type "traceback",dict:=none,data:=.fields ([hd0,.ref L,.none,rawInt L,.none]++(if pl.isEmpty then List.replicate 6 Value.none else pl)).toArray }:Obj)=ob
 have he2:(h1.push ob).get? e=some oe:=Heap.get?_push_of_some _ he1
 have hTe:h1.objs.size≠e:=Nat.ne_of_gt (Heap.lt_size he1)
 have dd:=Obj.data_mapFields hd (·.setIfInBounds 1 (Value.ref h1.objs.size))
 refine wpAny_setField he2 hd hsz (h _ ?_ (((Qx5 hs1).trans Qz4).trans (Qql hne hHe)))
 refine ⟨hne,hHe,_,_,Heap.get?_update_self _ he2 (Obj.isFreed_of_fields dd),(Obj.cls_mapFields _ _).trans hc,?_,dd,by simpa using hsz,.inr ⟨h1.objs.size,ob,_,by simp [hsz],hTe,?_,fresh _ (by omega),?_,by rw [←hob],?_⟩⟩
 ·rw [←hdx]
  cases oe
  subst hd
  rfl
 ·cases z:g.get? h1.objs.size with
  | none=>rfl
  | some o=>exact absurd (hn _ _ z) (by rw [sz1];exact Nat.lt_irrefl _)
 ·rw [Heap.get?_update_other _ _ (Ne.symm hTe)]
  exact Heap.get?_push_size h1 (by rw [←hob];rfl)
 ·simp only [size_toArray,length_append,length_cons,length_nil]
  omega
theorem Qz5 (hfr:A.frames=some (env::outer)) (hl:s.heap.FunFrames base (env::outer)) (hf:env.frame=some L) (fresh:∀ b,s.heap.objs.size≤b→H b=none) (hn:∀ b o,g.get? b=some o→b<s.heap.objs.size)
  (X:XObj H s.heap g e cls dx) (h:∀ h',XObj H h' g e cls dx→Raw (frs (env::outer)) g H s.heap h'→Q () { s with heap:=h' }) :
  wpAny M A (noteFrame (.ref e) env) Q E s:=by
 obtain ⟨hne,hHe,oe,vs,he,hc,hdx,hd,hsz,h1⟩:=id X
 unfold noteFrame
 simp only [hf]
 rcases h1 with h1 | ⟨T,oT,ts,h1,hTe,hnT,hHT,hT,hdT,h3⟩
 ·refine wpAny_bind (wpAny_field he hd h1 ?_)
  rw [if_neg (by decide)]
  exact Qpc hfr hl hf fresh hn X h
 ·refine wpAny_bind (wpAny_field he hd h1 ?_)
  rw [if_pos (by simp)]
  refine wpAny_bind (wpAny_field hT hdT (Array.getElem?_eq_getElem h3) ?_)
  by_cases hz:(ts[3]==rawInt L)=true
  ·rw [if_pos hz]
   exact wpAny_pure (h _ X (Raw.refl _ _ _ _))
  ·rw [if_neg hz]
   refine wpAny_bind (wpAny_setField hT hdT h3 ?_)
   have rw1:Raw (frs (env::outer)) g H s.heap (s.heap.update T (Obj.mapFields (·.setIfInBounds 3 Value.none))):=Qql hnT hHT
   have oth:∀ b,b≠T→(s.heap.update T (Obj.mapFields (·.setIfInBounds 3 Value.none))).get? b=s.heap.get? b:=fun b hb=>Heap.get?_update_other _ _ (Ne.symm hb)
   have dT:=Obj.data_mapFields hdT (·.setIfInBounds 3 Value.none)
   refine Qpc (s:={ s with heap:=s.heap.update T (Obj.mapFields (·.setIfInBounds 3 Value.none)) }) hfr (hl.of_keeps fun b o hb hnf=>⟨o,(oth b ?_).trans hb,rfl⟩) hf (fun b hb=>fresh b (Nat.le_trans rw1.size hb)) (fun b o q=>Nat.lt_of_lt_of_le (hn b o q) rw1.size)
    ⟨hne,hHe,oe,vs,(oth e (Ne.symm hTe)).trans he,hc,hdx,hd,hsz,.inr ⟨T,_,_,h1,hTe,hnT,hHT,Heap.get?_update_self _ hT (Obj.isFreed_of_fields dT),dT,by simpa using h3⟩⟩ fun h' x r=>h h' x (rw1.trans r)
   intro z
   rw [z,hT] at hb
   cases hb
   exact hnf ts hdT
theorem Qua {fs:List Addr} (X:XObj H s.heap g e cls dx) (h:∀ h',XObj H h' g e cls dx→Raw fs g H s.heap h'→Q () { s with heap:=h' }):wpAny M A (setFlight (.ref e) none) Q E s:=by
 obtain ⟨hne,hHe,oe,vs,he,hc,hdx,hd,hsz,h1⟩:=id X
 unfold setFlight
 rcases h1 with h1 | ⟨T,oT,ts,h1,hTe,hnT,hHT,hT,hdT,h3⟩
 ·refine wpAny_bind (wpAny_field he hd h1 ?_)
  rw [if_neg (by decide)]
  exact wpAny_pure (h _ X (Raw.refl _ _ _ _))
 ·refine wpAny_bind (wpAny_field he hd h1 ?_)
  rw [if_pos (by simp)]
  have dT:=Obj.data_mapFields hdT (·.setIfInBounds 3 Value.none)
  refine wpAny_setField hT hdT h3 (h _ ⟨hne,hHe,oe,vs,?_,hc,hdx,hd,hsz,.inr ⟨T,_,_,h1,hTe,hnT,hHT,Heap.get?_update_self _ hT (Obj.isFreed_of_fields dT),dT,by simpa using h3⟩⟩ (Qql hnT hHT))
  rw [Heap.get?_update_other _ _ hTe]
  exact he
theorem Qx6 (hfr:A.frames=some (env::outer)) (hl:s.heap.FunFrames base (env::outer)) (hf:env.frame=some L) (fresh:∀ b,s.heap.objs.size≤b→H b=none) (hn:∀ b o,g.get? b=some o→b<s.heap.objs.size)
  (X:XObj H s.heap g e cls dx) (h:∀ h',XObj H h' g e cls dx→Raw (frs (env::outer)) g H s.heap h'→Q () { s with heap:=h' }) :
  wpAny M A (leaving env (.ref e)) Q E s:=by
 unfold leaving
 exact wpAny_bind (Qz5 hfr hl hf fresh hn X fun h1 x1 r1=>Qua x1 fun h2 x2 r2=>h h2 x2 (r1.trans r2))
end
noncomputable def CXE (P:Program) (w:World):CXT:=fun outer H s E e s'=>∃ a cls dx H',e=.ref a∧s'.os=s.os∧AllBare s'.gens∧Un (frs outer) [] H H' s.heap s'.heap∧HOk P w H' s'.heap∧XObj H' s'.heap s.heap a cls dx∧E cls dx H'
noncomputable abbrev XR:=Value→Option Addr→St→Hp→Prop
noncomputable def Qmu (X:Cx) (R:XR):Prop:=∀ (pins:List (Addr×Obj)) (σ:St) (H:Hp) (s:Shared) (e:Value) (s':Shared),Inv X pins σ H s→CXE X.prog X.w X.stack H s (fun cls dx H'=>R cls dx σ H') e s'→X.xe e s'
section
variable {P:Program} {w:World} {H H0:Hp} {h h' h0 g:Heap} {fs fs':List Addr}
theorem Raw.hok (r:Raw fs g H h h') (ok:HOk P w H h) (hf:∀ b∈fs,H b=none):HOk P w H h':=fun a o e=>by
 have ht:∀ b u,H b=some u→((∃ u,g.get? b=some u)∨H b≠none)∧b∉fs:=fun b u q=>⟨.inr (by rw [q];simp),fun z=>by rw [hf b z] at q;cases q⟩
 refine (ok a o e).stay (fun b u hb q=>?_) (fun _ q=>q) fun _ _ q=>q
 rcases hb with rfl | hb
 ·exact r.keep _ u q (ht _ _ e).1 (ht _ _ e).2
 ·exact r.keep _ u q (ht _ _ hb).1 (ht _ _ hb).2
theorem Raw.un (r:Raw fs' g H h h') (u:Un fs [] H0 H h0 h) (hg:∀ b o,h0.get? b=some o→∃ v,g.get? b=some v) (hs:∀ b∈fs',b∈fs∨h0.objs.size≤b):Un fs [] H0 H h0 h' where
 keep:=fun b o e n hb hx=>r.keep b o (u.keep b o e n hb hx) (.inl (hg b o e)) fun z=>by
  rcases hs b z with z | z
  ·exact hb z
  ·exact absurd (Nat.lt_of_lt_of_le (Heap.lt_size e) z) (Nat.lt_irrefl _)
 slot:=fun b o e n hb hx=>by
  obtain ⟨sl,q⟩:=u.slot b o e n hb hx
  obtain ⟨sl',q'⟩:=r.slot b _ q (.inl (hg b o e))
  exact ⟨sl',q'⟩
 free:=u.free
 there:=fun b o e hx=>by
  obtain ⟨o',q⟩:=u.there b o e hx
  obtain ⟨sl',q'⟩:=r.slot b _ q (.inl (hg b o e))
  exact ⟨_,q'⟩
 tups:=u.tups
 frzs:=u.frzs
 tbls:=u.tbls
theorem XObj.mono {e:Addr} {cls:Value} {dx:Option Addr} {g':Heap} (x:XObj H h g e cls dx) (hg:∀ b o,g'.get? b=some o→∃ v,g.get? b=some v):XObj H h g' e cls dx:=by
 have nn:∀ b,g.get? b=none→g'.get? b=none:=fun b q=>by
  cases z:g'.get? b with
  | none=>rfl
  | some o =>
   obtain ⟨v,q'⟩:=hg b o z
   rw [q] at q';cases q'
 obtain ⟨h1,h2,oe,vs,a1,a2,a3,a4,a5,a6⟩:=x
 refine ⟨nn _ h1,h2,oe,vs,a1,a2,a3,a4,a5,a6.imp (fun z=>z) fun ⟨T,oT,ts,b1,b2,b3,b4⟩=>⟨T,oT,ts,b1,b2,nn _ b3,b4⟩⟩
end
section
variable {X:Cx} {pins:List (Addr×Obj)} {σ:St} {H H':Hp} {s s':Shared} {e:Addr} {cls:Value} {dx:Option Addr}
theorem Inv.thrown (I:Inv X pins σ H s) (os:s'.os=s.os) (bare:AllBare s'.gens) (un:Un (frs X.stack) [] H H' s.heap s'.heap) (hok:HOk X.prog X.w H' s'.heap):Inv X pins σ H' s' :=
 I.call' (ch:=[]) os un hok bare fun b z=>absurd z (by simp)
end
theorem Qadh {g:Str→Bool} {P:Program} {w:World} {K:PySem.W.Frag} {mg:Str→Option Value} {base:Heap} {N:List Str} {qual:Str} {scope:Scope} {f:Addr} {cd:Value} {A:Around} {outer:List Env} {s0:Shared} {H0:Hp} {E:XK} :
  Qmu (Qif g (CXE P w) P w K mg base N qual scope f cd A outer s0 H0 E) (fun cls dx _ H=>E cls dx H):=by
 intro pins σ H s e s' I h
 obtain ⟨a,cls,dx,H',rfl,os,bare,un,hok,xo,hE⟩:=h
 have J:=I.thrown os bare un hok
 show wpAny _ _ (leaving _ _) _ _ _
 refine Qx6 (base:=base) (outer:=outer) J.ok.frames J.stack rfl (fun b hb=>J.hok.fresh hb) (fun b o q=>?_) xo fun h' x' r'=>?_
 ·obtain ⟨o',q'⟩:=un.there b o q (by simp)
  exact Heap.lt_size q'
 ·have hg:∀ b o,s0.heap.get? b=some o→∃ v,s.heap.get? b=some v:=fun b o q=>I.base.there b o q (by intro z;exact absurd (show b∈([]:List Addr) from z) (by simp))
  refine ⟨a,cls,dx,H',rfl,J.os,J.bare,r'.un J.base hg (fun b hb=>?_),r'.hok hok J.stkFree,x'.mono hg,hE⟩
  rcases mem_cons.mp (J.stkSub b hb) with z | z
  ·rw [z];exact .inr J.ok.above
  ·exact .inl z
noncomputable def Qub (K:PySem.W.Frag) (mg:Str→Option Value) (x:Str) (cdv:Value):Prop:=∃ f oc od fd osl,mg x=some (.ref f)∧K.lookup f=some ⟨oc,od,.func fd,osl⟩∧fd.code=cdv
noncomputable def HasE (P:Program) (w:World) (K:PySem.W.Frag) (mg:Str→Option Value) (base:Heap) (x:Str) (ps:List Str) (k:Nat) (sp:Sp):Prop :=
 ∃ f fd,PySem.W.keepIn K (.ref f)=true∧mg x=some (.ref f)∧Binds K fd ps []∧FnOk P w K mg base (CXE P w) k f fd ps sp
section
variable {P:Program} {w:World} {K:PySem.W.Frag} {mg:Str→Option Value} {base:Heap}
theorem Q9v {g:Str→Bool} {x:Str} {st:Stmt} {N ps:List Str} {k:Nat} {sp:Sp} (d:Dfn K mg x st) (S:FnScope N ps (Qg st)) (bd:Q5 x st ps) (len:∀ vs H Q E,sp vs H Q E→vs.length=ps.length)
  (hbody:∀ (X:Cx) (f:Addr) (cdv:Value) (A:Around) (outer:List Env) (s:Shared) (H:Hp) (vs:List V) (Q:VK) (E:XK),X=Qif g (CXE P w) P w K mg base N x (Qg st) f cdv A outer s H E→Qub K mg x cdv→Qmu (Qif g (CXE P w) P w K mg base N x (Qg st) f cdv A outer s H E) (fun cls dx _ H=>E cls dx H) →
   Room k (A.deeper (envOfC x (Qg st) s.heap.objs.size f cdv))→sp vs H Q E →
   ∃ t,QB (Qif g (CXE P w) P w K mg base N x (Qg st) f cdv A outer s H E) (Qbq st) t∧t { nx:=fun _ H'=>Q .non H',rt:=Q } (Qcr N vs) H):HasE P w K mg base x ps (k+1) sp:=by
 obtain ⟨f,fd,F,m⟩:=d.ex
 refine ⟨f,fd,F.kp,m,F.binds bd,?_⟩
 obtain ⟨oc,od,kV,doc,pm,an,cdv,ct,osl,rfl,lk,hcd⟩:=F.ex
 refine Q6i (g:=g) lk hcd S len fun A outer s H vs Q E hr hsp=>?_
 obtain ⟨t,h,q⟩:=hbody _ f cdv A outer s H vs Q E rfl ⟨f,_,_,_,_,m,lk,rfl⟩ Qadh hr hsp
 exact ⟨t,h.h,q⟩
theorem HasE.mono {x:Str} {ps:List Str} {j k:Nat} {sp:Sp} (h:HasE P w K mg base x ps j sp) (hj:j≤k):HasE P w K mg base x ps k sp:=by
 obtain ⟨f,fd,a,b,c,d⟩:=h
 exact ⟨f,fd,a,b,c,d.mono hj⟩
end
noncomputable abbrev Qz6 (sp:Sp) (R:XR) (t:TA):TE:=fun σ H Q=>t σ H fun vs H1=>sp vs H1 Q (fun cls dx H2=>R cls dx σ H2)
section
variable {X:Cx} {x:Str} {ps:List Str} {k:Nat} {sp:Sp} {e:Expr} {es:List Expr} {t:TA} {p pos cpos np:Pos} {R:XR}
theorem Qadi (h:HasE X.prog X.w X.K X.mg X.base x ps k sp) (pz:Qmu X R) (hr:Room k X.A) (ha:QA X (e::es) t) (hg:Gl X x:=by rfl)
  (hdb:(x==("__debug__" : Str))=false:=by decide) (he:starEach (e::es) X.env=(false,eval e X.env)::starEach es X.env:=by rfl) (hpl:(backTo pos (starEach es X.env)).any (·.1)=false:=by rfl) :
  QE X (.Call (.Name x p) (e::es) [] pos) (Qz6 sp R t):=by
 obtain ⟨f,fd,kp,m,b,F⟩:=h
 refine ⟨fun pins s σ H Q I hq=>?_⟩
 refine wpAny_Call_Name_kw (Qqa I hg m ?_ hdb)
 refine PySem.W.callWith_K (h₀:=X.base) I.ok.mod.kin kp (thn (ha.h pos pins s σ H _ I hq) fun us s1 ⟨vs,H1,I1,r,q⟩=>⟨I1.kIn,?_⟩) he hpl
 have hl:(us++[]).length=ps.length:=by rw [append_nil,←r.length];exact F.len _ _ _ _ q
 have r2:Vals vs (us++[]):=by rw [append_nil];exact r
 refine wpAny_call (codeAny_mono (F.run X.A X.stack s1 H1 ⟨us,[]⟩ (us++[]) vs Q _ hr I1.env0 (b s1 us I1.kIn hl) r2 q) fun rr s' hq'=>?_)
 cases rr with
 | error ev=>exact pz pins σ H1 s1 ev s' I1 hq'
 | ok fl =>
  cases fl with
  | ret u=>exact I1.after hq'
  | next=>exact False.elim hq'
  | brk=>exact False.elim hq'
  | cont=>exact False.elim hq'
theorem Q30 {st:Stmt}:QS X st (fun _ _ _=>False):=⟨fun _ _ _ _ _ _ h=>h.elim⟩
theorem q_sx {st:Stmt} {t:TS} (h:QS X.nox st t):QS X st t:=⟨fun pins s σ H D I hw=>wpAny_mono (h.h pins s σ H D (I.wish _) hw) (fun _ _ q=>q.unwish) fun _ _ z=>False.elim z⟩
end
section
variable {X:Cx} {x:Str} {e:Expr} {es:List Expr} {t:TA} {pos cpos np:Pos} {R:XR} {C:Addr} {B newId initId:String} {bmB:List Value}
end
structure RoomH (k:Nat) (A:Around):Prop where
 dp:A.depth+3*k+5<recursionLimit
 un:A.units+16*k+200<cLine
structure FnOkH (P:Program) (w:World) (K:PySem.W.Frag) (mg:Str→Option Value) (base:Heap) (CX:CXT) (k:Nat) (f:Addr) (fd:FuncData) (ps:List Str) (sp:Sp):Prop where
 len:∀ vs H Q E,sp vs H Q E→vs.length=ps.length
 run:∀ (A:Around) (outer:List Env) (s:Shared) (H:Hp) (args:Args) (us:List Value) (vs:List V) (Q:VK) (E:XK),RoomH k A→Env0 P w K mg base A outer s H→BindsTo s fd args (ps.zip us)→Vals vs us→sp vs H Q E →
  codeAny (model P w) A (.call (.ref f) args) (CR CX outer P w H s Q E) s
section
variable {X:Cx} {pins p2:List (Addr×Obj)} {σ σ0:St} {H H0:Hp} {s s0:Shared} {h':Heap} {R:XR}
theorem Inv.ns_in (I:Inv X pins σ H s):∃ o,s.heap.get? X.env.locals=some o:=by
 obtain ⟨m,⟨o,_,_,ho,_⟩,_⟩:=I.loc
 exact ⟨o,ho⟩
theorem Inv.cell_in (I:Inv X pins σ H s) {x:Str} {c:Addr} (e:X.env.cells.lookup x=some c):∃ o,s.heap.get? c=some o:=by
 obtain ⟨v,o,ho,_⟩:=I.cell x c e
 exact ⟨o,ho⟩
theorem Inv.old_in (I:Inv X pins σ H s) {b:Addr} {o:Obj} (e:X.s₀.heap.get? b=some o) (hx:b∉X.ex):∃ v,s.heap.get? b=some v:=I.base.there b o e hx
end
section
variable {X:Cx} {pins:List (Addr×Obj)} {σ:St} {H:Hp} {s:Shared} {M:Model} {A:Around} {E:Value→Shared→Prop} {Q:Unit→Shared→Prop} {i:Nat} {x:Str} {v:V}
end
section
variable {X:Cx} {body suite:List Stmt} {b0:Stmt} {x n:Str} {np hpos pos:Pos} {tb:XR→TS} {th:TS} {i:Nat} {C0:Addr} {bmB:List Value} {newId:String}
end
end L2
namespace PySem.SeqAt
open PySem PySem.Spec PyProof PyProof.Rows
theorem sub_tuple_dict:isSubtype (.type "tuple") (.type "dict")=pure false:=by rw [isSubtype_type];kernel_rfl
theorem sub_dict_tuple:isSubtype (.type "dict") (.type "tuple")=pure false:=by rw [isSubtype_type];kernel_rfl
theorem sub_dict_dict:isSubtype (.type "dict") (.type "dict")=pure true:=by rw [isSubtype_type];kernel_rfl
theorem dict_ne_declines_tuple (l b:Addr) (da:Data) (items2:Array Value) (n2:Nat) (dd dd2:Option Addr) (sl sl2:Array (Option Value)) :
  Meets (Builtin.«dict.__ne__» ⟨[.ref l,.ref b],[]⟩) (fun _ R s=>s.heap.get? l=some { cls:=.type "dict",dict:=dd,data:=da,slots:=sl }∧s.heap.get? b=some { cls:=.type "tuple",dict:=dd2,data:=.seq items2 n2,slots:=sl2 }∧R (.ok (.ret .notImplemented)) s) :=
 .of_wp fun prog w A R s h=>by obtain ⟨hp,g,d,tk,os⟩:=s;obtain ⟨hl,hb,h⟩:=h;have f1:=sub_tuple_dict;have f2:=sub_dict_dict;wp_walk using wpAny_loadPart' hl,wpAny_loadPart' hb;exact ⟨_,rfl,h⟩
theorem tuple_ne_declines_dict (l b:Addr) (da:Data) (items:Array Value) (n:Nat) (dd dd2:Option Addr) (sl sl2:Array (Option Value)) :
  Meets (Builtin.«tuple.__ne__» ⟨[.ref l,.ref b],[]⟩) (fun _ R s=>s.heap.get? l=some { cls:=.type "tuple",dict:=dd,data:=.seq items n,slots:=sl }∧s.heap.get? b=some { cls:=.type "dict",dict:=dd2,data:=da,slots:=sl2 }∧R (.ok (.ret .notImplemented)) s) :=
 .of_wp fun prog w A R s h=>by obtain ⟨hp,g,d,tk,os⟩:=s;obtain ⟨hl,hb,h⟩:=h;have f1:=sub_dict_tuple;wp_walk using wpAny_loadPart' hl,wpAny_loadPart' hb;exact ⟨_,rfl,h⟩
theorem dict_eq_declines_tuple (l b:Addr) (da:Data) (items2:Array Value) (n2:Nat) (dd dd2:Option Addr) (sl sl2:Array (Option Value)) :
  Meets (Builtin.«dict.__eq__» ⟨[.ref l,.ref b],[]⟩) (fun _ R s=>s.heap.get? l=some { cls:=.type "dict",dict:=dd,data:=da,slots:=sl }∧s.heap.get? b=some { cls:=.type "tuple",dict:=dd2,data:=.seq items2 n2,slots:=sl2 }∧R (.ok (.ret .notImplemented)) s) :=
 .of_wp fun prog w A R s h=>by obtain ⟨hp,g,d,tk,os⟩:=s;obtain ⟨hl,hb,h⟩:=h;have f1:=sub_tuple_dict;have f2:=sub_dict_dict;wp_walk using wpAny_loadPart' hl,wpAny_loadPart' hb;exact ⟨_,rfl,h⟩
theorem tuple_eq_declines_dict (l b:Addr) (da:Data) (items:Array Value) (n:Nat) (dd dd2:Option Addr) (sl sl2:Array (Option Value)) :
  Meets (Builtin.«tuple.__eq__» ⟨[.ref l,.ref b],[]⟩) (fun _ R s=>s.heap.get? l=some { cls:=.type "tuple",dict:=dd,data:=.seq items n,slots:=sl }∧s.heap.get? b=some { cls:=.type "dict",dict:=dd2,data:=da,slots:=sl2 }∧R (.ok (.ret .notImplemented)) s) :=
 .of_wp fun prog w A R s h=>by obtain ⟨hp,g,d,tk,os⟩:=s;obtain ⟨hl,hb,h⟩:=h;have f1:=sub_dict_tuple;wp_walk using wpAny_loadPart' hl,wpAny_loadPart' hb;exact ⟨_,rfl,h⟩
section
variable {A:Around} {s:Shared}
theorem RcNeAt.dict_tuple {l b:Addr} {o:Obj} {items2:Array Value} (ho:s.heap.get? l=some o) (hc:o.cls=.type "dict") (hb:s.heap.IsTuple b items2) (hu:A.units<cLine):RcNeAt A s (.ref l) (.ref b) true:=fun prog w E Q h=>by
 obtain ⟨⟨cls2,dd2,data2,sl2⟩,ho2,hc2,n2,hd2⟩:=id hb
 obtain ⟨cls,dd,data,sl⟩:=o
 simp only at hc hc2 hd2
 subst hc hc2 hd2
 have hne:l≠b:=fun z=>by subst z;rw [ho] at ho2;have e:(Value.type "dict")=.type "tuple" := congrArg (·.cls) (Option.some.inj ho2);exact absurd e (by decide)
 exact (rc_ne_decline_or (k:=false) ⟨_,ho,rfl⟩ ⟨_,ho2,rfl⟩ (by decide) sub_tuple_dict F.slot_dict_ne F.slot_tuple_ne_refl
  (fun _ hq=>call_meets F.slot_dict_ne ⟨_,ho,rfl⟩ F.entry_dict_ne (F.args_dict_ne_2 _ _) (dict_ne_declines_tuple l b data items2 n2 dd dd2 sl sl2) ⟨ho,ho2,hq⟩)
  (fun _ hq=>call_meets F.slot_tuple_ne_refl ⟨_,ho2,rfl⟩ F.entry_tuple_ne (F.args_tuple_ne_2 _ _) (tuple_ne_declines_dict b l data items2 n2 dd2 dd sl2 sl) ⟨ho2,ho,hq⟩)
  (fun _ hq=>wpAny_isSame_ref_other hne ho ho2 (by simp) hq) (.inr hu) h)
theorem RcAt.dict_tuple {l b:Addr} {o:Obj} {items2:Array Value} (ho:s.heap.get? l=some o) (hc:o.cls=.type "dict") (hb:s.heap.IsTuple b items2) (hu:A.units<cLine):RcAt A s (.ref l) (.ref b) false:=fun prog w E Q h=>by
 obtain ⟨⟨cls2,dd2,data2,sl2⟩,ho2,hc2,n2,hd2⟩:=id hb
 obtain ⟨cls,dd,data,sl⟩:=o
 simp only at hc hc2 hd2
 subst hc hc2 hd2
 have hne:l≠b:=fun z=>by subst z;rw [ho] at ho2;have e:(Value.type "dict")=.type "tuple" := congrArg (·.cls) (Option.some.inj ho2);exact absurd e (by decide)
 exact (rc_eq_decline_or (k:=false) ⟨_,ho,rfl⟩ ⟨_,ho2,rfl⟩ (by decide) sub_tuple_dict F.slot_dict_eq F.slot_tuple_eq_refl
  (fun _ hq=>call_meets F.slot_dict_eq ⟨_,ho,rfl⟩ F.entry_dict_eq (F.args_dict_eq_2 _ _) (dict_eq_declines_tuple l b data items2 n2 dd dd2 sl sl2) ⟨ho,ho2,hq⟩)
  (fun _ hq=>call_meets F.slot_tuple_eq_refl ⟨_,ho2,rfl⟩ F.entry_tuple_eq (F.args_tuple_eq_2 _ _) (tuple_eq_declines_dict b l data items2 n2 dd2 dd sl2 sl) ⟨ho2,ho,hq⟩)
  (fun _ hq=>wpAny_isSame_ref_other hne ho ho2 (by simp) hq) (.inr hu) h)
end
end PySem.SeqAt
namespace L2
open PySem PySem.Spec PyProof.Rows
mutual
noncomputable def eqT:T→T→Bool
 | .non,.non=>true
 | .bl a,.bl b=>a==b
 | .int a,.int b=>a==b
 | .bl a,.int b=>(if a then 1 else 0)==b
 | .int a,.bl b=>a==(if b then 1 else 0)
 | .str a,.str b=>a==b
 | .tup a,.tup b=>eqL a b
 | .lst a,.lst b=>eqL a b
 | _,_=>false
noncomputable def eqL:List T→List T→Bool
 | [],[]=>true
 | x::xs,y::ys=>eqT x y&&eqL xs ys
 | _,_=>false
end
noncomputable def Qq:Nat→T→Bool
 | _,.non=>true
 | _,.bl _=>true
 | _,.int _=>true
 | _,.str _=>true
 | n+1,.tup ts=>ts.all (Qq n)
 | n+1,.lst ts=>ts.all (Qq n)
 | _,_=>false
theorem Qji:eqL [] []=true:=by unfold eqL;rfl
theorem Qfq (x y:T) (xs ys:List T):eqL (x::xs) (y::ys)=(eqT x y&&eqL xs ys):=by rw [eqL]
theorem Qhy:∀ {xs ys:List T},xs.length≠ys.length→eqL xs ys=false
 | [],[],h=>absurd rfl h
 | [],_::_,_=>by unfold eqL;rfl
 | _::_,[],_=>by unfold eqL;rfl
 | x::xs,y::ys,h=>by rw [Qfq,Qhy (xs:=xs) (ys:=ys) (by simpa using h),Bool.and_false]
theorem Qpd:∀ {xs ys:List T} {e:Nat→Bool},(∀ (j:Nat) a b,xs[j]?=some a→ys[j]?=some b→e j=eqT a b)→((List.range (min xs.length ys.length)).all e&&(xs.length==ys.length))=eqL xs ys
 | [],[],e,_=>by rw [Qji];rfl
 | [],y::ys,e,_=>by rw [Qhy (by simp)];simp
 | x::xs,[],e,_=>by rw [Qhy (by simp)];simp
 | x::xs,y::ys,e,h=>by
  rw [Qfq,←Qpd (xs:=xs) (ys:=ys) (e:=fun j=>e (j+1)) fun j a b p q=>h (j+1) a b p q,length_cons,length_cons,Nat.succ_min_succ,List.range_succ_eq_map,all_cons,List.all_map,←h 0 x y rfl rfl,Bool.and_assoc]
  congr 2
  simp
theorem Qjj:∀ (n:Nat) (t:T),Qq n t=true→eqT t t=true
 | _,.non,_=>by rw [eqT]
 | _,.bl b,_=>by rw [eqT];simp
 | _,.int i,_=>by rw [eqT];simp
 | _,.str x,_=>by rw [eqT];simp
 | n+1,.tup ts,h=>by
  have h:ts.all (Qq n)=true:=by rw [Qq] at h;exact h
  have go:∀ ts:List T,ts.all (Qq n)=true→eqL ts ts=true:=fun ts=>by
   induction ts with
   | nil=>intro _;exact Qji
   | cons x xs ih =>
    intro h
    rw [all_cons,Bool.and_eq_true] at h
    rw [Qfq,Qjj n x h.1,ih h.2]
    rfl
  rw [eqT];exact go ts h
 | n+1,.lst ts,h=>by
  have h:ts.all (Qq n)=true:=by rw [Qq] at h;exact h
  have go:∀ ts:List T,ts.all (Qq n)=true→eqL ts ts=true:=fun ts=>by
   induction ts with
   | nil=>intro _;exact Qji
   | cons x xs ih =>
    intro h
    rw [all_cons,Bool.and_eq_true] at h
    rw [Qfq,Qjj n x h.1,ih h.2]
    rfl
  rw [eqT];exact go ts h
 | 0,.tup _,h=>by simp [Qq] at h
 | 0,.lst _,h=>by simp [Qq] at h
 | 0,.dct _ _,h=>by simp [Qq] at h
 | 0,.clo _ _,h=>by simp [Qq] at h
 | _+1,.dct _ _,h=>by simp [Qq] at h
 | _+1,.clo _ _,h=>by simp [Qq] at h
 | 0,.dtt _ _,h=>by simp [Qq] at h
 | _+1,.dtt _ _,h=>by simp [Qq] at h
theorem Q6z {H:Hp}:∀ (n:Nat) {v:V} {t t':T},Is H v t→Is H v t'→Qq n t=true→Qq n t'=true→eqT t t'=true:=by
 intro n
 induction n with
 | zero =>
  intro v t t' i j h h'
  cases t <;> first | (simp [Qq] at h;done) | skip
  all_goals (cases t' <;> first | (simp [Qq] at h';done) | skip)
  all_goals (unfold Is at i j;rw [i] at j;first | (cases j;simp [eqT];done) | cases j)
 | succ n ih =>
  intro v t t' i j h h'
  have go:∀ (ts us:List T) (vs:List V),IsL H vs ts→IsL H vs us→ts.all (Qq n)=true→us.all (Qq n)=true→eqL ts us=true:=by
   intro ts
   induction ts with
   | nil =>
    intro us vs q1 q2 _ _
    rw [q1.nil_inv] at q2
    cases us with
    | nil=>exact Qji
    | cons y ys=>obtain ⟨_,_,z,_⟩:=q2.cons_inv;cases z
   | cons x xs ihx =>
    intro us vs q1 q2 a1 a2
    obtain ⟨v,r,rfl,c1,c2⟩:=q1.cons_inv
    cases us with
    | nil=>have:=q2.nil_inv;cases this
    | cons y ys =>
     obtain ⟨v',r',z,d1,d2⟩:=q2.cons_inv
     cases z
     rw [all_cons,Bool.and_eq_true] at a1 a2
     rw [Qfq,ihx ys r c2 d2 a1.2 a2.2,Bool.and_true]
     exact ih c1 d1 a1.1 a2.1
  cases t with
  | dct _ _=>simp [Qq] at h
  | clo _ _=>simp [Qq] at h
  | dtt _ _=>simp [Qq] at h
  | tup ts =>
   obtain ⟨a,vs,rfl,ha,q⟩:=i.tup_inv
   cases t' with
   | tup us =>
    obtain ⟨a',vs',e,ha',q'⟩:=j.tup_inv
    cases e
    rw [ha] at ha'
    cases ha'
    rw [eqT]
    exact go ts us vs q q' (by simpa only [Qq] using h) (by simpa only [Qq] using h')
   | lst us =>
    obtain ⟨a',vs',e,ha',q'⟩:=j.lst_inv
    cases e
    rw [ha] at ha'
    cases ha'
   | dct _ _=>simp [Qq] at h'
   | clo _ _=>simp [Qq] at h'
   | dtt _ _=>simp [Qq] at h'
   | _=>unfold Is at j;cases j
  | lst ts =>
   obtain ⟨a,vs,rfl,ha,q⟩:=i.lst_inv
   cases t' with
   | lst us =>
    obtain ⟨a',vs',e,ha',q'⟩:=j.lst_inv
    cases e
    rw [ha] at ha'
    cases ha'
    rw [eqT]
    exact go ts us vs q q' (by simpa only [Qq] using h) (by simpa only [Qq] using h')
   | tup us =>
    obtain ⟨a',vs',e,ha',q'⟩:=j.tup_inv
    cases e
    rw [ha] at ha'
    cases ha'
   | dct _ _=>simp [Qq] at h'
   | clo _ _=>simp [Qq] at h'
   | dtt _ _=>simp [Qq] at h'
   | _=>unfold Is at j;cases j
  | _ =>
   cases t' with
   | dct _ _=>simp [Qq] at h'
   | clo _ _=>simp [Qq] at h'
   | dtt _ _=>simp [Qq] at h'
   | tup us =>
    obtain ⟨a',vs',e,ha',q'⟩:=j.tup_inv
    unfold Is at i
    rw [i] at e;cases e
   | lst us =>
    obtain ⟨a',vs',e,ha',q'⟩:=j.lst_inv
    unfold Is at i
    rw [i] at e;cases e
   | _=>unfold Is at i j;rw [i] at j;first | (cases j;simp [eqT];done) | cases j
inductive Shp (P:Program) (w:World) (H:Hp) (h:Heap):T→Value→Prop
 | non:Shp P w H h .non .none
 | bl (b):Shp P w H h (.bl b) (.bool b)
 | int (i t):Shp P w H h (.int i) (.int i t)
 | str (x t):Shp P w H h (.str x) (.str x t)
 | tup {a vs ts its}:Is H (.ref a) (.tup ts)→IsL H vs ts→Vals vs its→h.IsTuple a its.toArray→Shp P w H h (.tup ts) (.ref a)
 | lst {a vs ts its}:Is H (.ref a) (.lst ts)→IsL H vs ts→Vals vs its→h.IsList a its.toArray→Shp P w H h (.lst ts) (.ref a)
 | dct {ks ts u}:Shp P w H h (.dct ks ts) u
 | clo {l ts u}:Shp P w H h (.clo l ts) u
 | dtt {ks ts u}:Shp P w H h (.dtt ks ts) u
theorem Is.shp {P:Program} {w:World} {H:Hp} {h:Heap} {v:V} {u:Value}:∀ {t:T},Is H v t→RelV v u→HOk P w H h→Shp P w H h t u
 | .non,i,r,_=>by unfold Is at i;subst i;cases r;exact .non
 | .bl b,i,r,_=>by unfold Is at i;subst i;cases r;exact .bl b
 | .int n,i,r,_=>by unfold Is at i;subst i;obtain ⟨t,rfl⟩:=r;exact .int n t
 | .str x,i,r,_=>by unfold Is at i;subst i;obtain ⟨t,rfl⟩:=r;exact .str x t
 | .tup ts,i,r,ok=>by
  obtain ⟨a,vs,rfl,ha,q⟩:=i.tup_inv
  cases r
  obtain ⟨_,its,rv,p⟩:=ok a _ ha
  exact .tup i q rv p.tup
 | .lst ts,i,r,ok=>by
  obtain ⟨a,vs,rfl,ha,q⟩:=i.lst_inv
  cases r
  obtain ⟨_,its,n,rv,p⟩:=ok a _ ha
  exact .lst i q rv ⟨_,p,rfl,n,rfl⟩
 | .dct ks ts,_,_,_=>.dct
 | .clo l ts,_,_,_=>.clo
 | .dtt ks ts,_,_,_=>.dtt
section
variable {P:Program} {w:World} {H:Hp}
noncomputable def eAt (ts us:List T) (j:Nat):Bool:=eqT (ts.getD j .non) (us.getD j .non)
theorem Qpe (ts us:List T):((List.range (min ts.length us.length)).all (eAt ts us)&&(ts.length==us.length))=eqL ts us :=
 Qpd fun j a b p q=>by unfold eAt;rw [getD_eq_getElem?_getD,getD_eq_getElem?_getD,p,q];rfl
theorem Qr5 {s:Shared} {A:Around} {n:Nat} {ts us:List T} {vs ws:List V} {its its2:List Value} (i1:IsL H vs ts) (i2:IsL H ws us) (r1:Vals vs its) (r2:Vals ws its2) (ok:HOk P w H s.heap) (h1:ts.all (Qq n)=true) (h2:us.all (Qq n)=true)
  (ih:∀ (t t':T) (u u':Value),Qq n t=true→Qq n t'=true→Shp P w H s.heap t u→Shp P w H s.heap t' u'→SeqAt.EqAt A s u u' (eqT t t')) :
  ∀ (j:Nat) (g1:j<its.toArray.size) (g2:j<its2.toArray.size),SeqAt.EqAt A s its.toArray[j] its2.toArray[j] (eAt ts us j):=by
 intro j g1 g2
 have g1':j<its.length:=by simpa using g1
 have g2':j<its2.length:=by simpa using g2
 have l1:j<vs.length:=by rw [r1.length];exact g1'
 have l2:j<ws.length:=by rw [r2.length];exact g2'
 obtain ⟨u,hu,ru⟩:=r1.get (getElem?_eq_getElem l1)
 obtain ⟨u',hu',ru'⟩:=r2.get (getElem?_eq_getElem l2)
 obtain ⟨t,ht,it⟩:=i1.get (getElem?_eq_getElem l1)
 obtain ⟨t',ht',it'⟩:=i2.get (getElem?_eq_getElem l2)
 have e1:its.toArray[j]=u:=by
  rw [getElem?_eq_getElem g1'] at hu
  simpa using hu
 have e2:its2.toArray[j]=u':=by
  rw [getElem?_eq_getElem g2'] at hu'
  simpa using hu'
 have e3:eAt ts us j=eqT t t':=by unfold eAt;rw [getD_eq_getElem?_getD,getD_eq_getElem?_getD,ht,ht'];rfl
 rw [e1,e2,e3]
 exact ih t t' u u' (all_eq_true.mp h1 t (mem_of_getElem? ht)) (all_eq_true.mp h2 t' (mem_of_getElem? ht')) (it.shp ru ok) (it'.shp ru' ok)
theorem Qjk {ts:List T} {vs:List V} {its:List Value} (i:IsL H vs ts) (r:Vals vs its):its.toArray.size=ts.length:=by
 rw [size_toArray,←r.length,i.length]
open SeqAt in
theorem Qz7 {s:Shared} {A:Around} {n:Nat} {ts us:List T} {a b:Addr} {vs ws:List V} {its its2:List Value} (i1:IsL H vs ts) (i2:IsL H ws us) (r1:Vals vs its) (r2:Vals ws its2) (ok:HOk P w H s.heap) (h1:ts.all (Qq n)=true) (h2:us.all (Qq n)=true)
  (hl:s.heap.IsTuple a its.toArray) (hb:s.heap.IsTuple b its2.toArray) (hu:A.units<cLine) (ih:∀ (t t':T) (u u':Value),Qq n t=true→Qq n t'=true→Shp P w H s.heap t u→Shp P w H s.heap t' u'→EqAt A.in1 s u u' (eqT t t')) :
  RcAt A s (.ref a) (.ref b) (eqL ts us)∧RcNeAt A s (.ref a) (.ref b) (!eqL ts us):=by
 have key:=Qr5 i1 i2 r1 r2 ok h1 h2 ih
 have l1:=Qjk i1 r1
 have l2:=Qjk i2 r2
 have k1:=RcAt.tuples hl hb hu key
 have k2:=RcNeAt.tuples hl hb hu key
 rw [l1,l2,Qpe] at k1 k2
 exact ⟨k1,k2⟩
open SeqAt in
theorem Qz8 {s:Shared} {A:Around} {n:Nat} {ts us:List T} {a b:Addr} {vs ws:List V} {its its2:List Value} (i1:IsL H vs ts) (i2:IsL H ws us) (r1:Vals vs its) (r2:Vals ws its2) (ok:HOk P w H s.heap) (h1:ts.all (Qq n)=true) (h2:us.all (Qq n)=true)
  (hl:s.heap.IsList a its.toArray) (hb:s.heap.IsList b its2.toArray) (hu:A.units<cLine) (ih:∀ (t t':T) (u u':Value),Qq n t=true→Qq n t'=true→Shp P w H s.heap t u→Shp P w H s.heap t' u'→EqAt A.in1 s u u' (eqT t t')) :
  RcAt A s (.ref a) (.ref b) (eqL ts us)∧RcNeAt A s (.ref a) (.ref b) (!eqL ts us):=by
 have key:=Qr5 i1 i2 r1 r2 ok h1 h2 ih
 have l1:=Qjk i1 r1
 have l2:=Qjk i2 r2
 by_cases hz:ts.length=us.length
 ·have k1:=RcAt.lists hl hb (by rw [l1,l2,hz]) hu key
  have k2:=RcNeAt.lists hl hb (by rw [l1,l2,hz]) hu key
  have e:=Qpe ts us
  rw [hz,Nat.min_self,beq_self_eq_true,Bool.and_true] at e
  rw [l1,hz,e] at k1 k2
  exact ⟨k1,k2⟩
 ·rw [Qhy hz]
  have hb':(its.toArray.size != its2.toArray.size)=true:=by rw [l1,l2];simpa using hz
  exact ⟨RcAt.lists_lengths hl hb hb' hu,RcNeAt.lists_lengths hl hb hb' hu⟩
open SeqAt in
theorem Qz9:∀ (n:Nat) {s:Shared} {A:Around},HOk P w H s.heap→A.units+n<cLine→∀ (t t':T) (u u':Value),Qq n t=true→Qq n t'=true→Shp P w H s.heap t u→Shp P w H s.heap t' u'→EqAt A s u u' (eqT t t'):=by
 intro n
 induction n with
 | zero =>
  intro s A ok hu t t' u u' h1 h2 s1 s2
  cases s1 with
  | dct=>simp [Qq] at h1
  | clo=>simp [Qq] at h1
  | dtt=>simp [Qq] at h1
  | tup j1 i1 r1 p1=>simp [Qq] at h1
  | lst j1 i1 r1 p1=>simp [Qq] at h1
  | non =>
   cases s2 with
   | dct=>simp [Qq] at h2
   | clo=>simp [Qq] at h2
   | dtt=>simp [Qq] at h2
   | tup j2 i2 r2 p2=>simp [Qq] at h2
   | lst j2 i2 r2 p2=>simp [Qq] at h2
   | non=>simp only [eqT];exact EqAt.same _
   | bl b=>simp only [eqT];exact EqAt.none_bool  b
   | int i t=>simp only [eqT];exact EqAt.none_int  i t
   | str x t=>simp only [eqT];exact EqAt.none_str  x t
  | bl c =>
   cases s2 with
   | dct=>simp [Qq] at h2
   | clo=>simp [Qq] at h2
   | dtt=>simp [Qq] at h2
   | tup j2 i2 r2 p2=>simp [Qq] at h2
   | lst j2 i2 r2 p2=>simp [Qq] at h2
   | non=>simp only [eqT];exact EqAt.bool_none c
   | bl b=>simp only [eqT];exact EqAt.bool_bool c b
   | int i t=>simp only [eqT];exact EqAt.bool_int c i t
   | str x t=>simp only [eqT];exact EqAt.bool_str c x t
  | int c ct =>
   cases s2 with
   | dct=>simp [Qq] at h2
   | clo=>simp [Qq] at h2
   | dtt=>simp [Qq] at h2
   | tup j2 i2 r2 p2=>simp [Qq] at h2
   | lst j2 i2 r2 p2=>simp [Qq] at h2
   | non=>simp only [eqT];exact EqAt.int_none c ct
   | bl b=>simp only [eqT];exact EqAt.int_bool c ct b
   | int i t=>simp only [eqT];exact EqAt.int_int c ct i t
   | str x t=>simp only [eqT];exact EqAt.int_str c ct x t
  | str c ct =>
   cases s2 with
   | dct=>simp [Qq] at h2
   | clo=>simp [Qq] at h2
   | dtt=>simp [Qq] at h2
   | tup j2 i2 r2 p2=>simp [Qq] at h2
   | lst j2 i2 r2 p2=>simp [Qq] at h2
   | non=>simp only [eqT];exact EqAt.str_none c ct
   | bl b=>simp only [eqT];exact EqAt.str_bool c ct b
   | int i t=>simp only [eqT];exact EqAt.str_int c ct i t
   | str x t=>simp only [eqT];exact EqAt.str_str c ct x t
 | succ n ih =>
  intro s A ok hu t t' u u' h1 h2 s1 s2
  have hu0:A.units<cLine:=by omega
  have ih':=ih (s:=s) (A:=A.in1) ok (by show A.units+1+n<cLine;omega)
  cases s1 with
  | dct=>simp [Qq] at h1
  | clo=>simp [Qq] at h1
  | dtt=>simp [Qq] at h1
  | tup j1 i1 r1 p1 =>
   have g1:=h1
   rw [Qq] at g1
   cases s2 with
   | dct=>simp [Qq] at h2
   | clo=>simp [Qq] at h2
   | dtt=>simp [Qq] at h2
   | tup j2 i2 r2 p2 =>
    have g2:=h2
    rw [Qq] at g2
    rename_i a vs ts its b ws us its2
    by_cases hab:a=b
    ·subst hab
     rw [Q6z (n+1) j1 j2 h1 h2]
     exact EqAt.same _
    ·rw [eqT]
     exact EqAt.of_refs hab (Qz7 i1 i2 r1 r2 ok g1 g2 p1 p2 hu0 ih').1
   | lst j2 i2 r2 p2=>simp only [eqT];exact EqAt.tuple_list p1 p2 hu0
   | non=>simp only [eqT];exact EqAt.tuple_none p1 hu0
   | bl b=>simp only [eqT];exact EqAt.tuple_bool b p1 hu0
   | int i t=>simp only [eqT];exact EqAt.tuple_int i t p1 hu0
   | str x t=>simp only [eqT];exact EqAt.tuple_str x t p1 hu0
  | lst j1 i1 r1 p1 =>
   have g1:=h1
   rw [Qq] at g1
   cases s2 with
   | dct=>simp [Qq] at h2
   | clo=>simp [Qq] at h2
   | dtt=>simp [Qq] at h2
   | lst j2 i2 r2 p2 =>
    have g2:=h2
    rw [Qq] at g2
    rename_i a vs ts its b ws us its2
    by_cases hab:a=b
    ·subst hab
     rw [Q6z (n+1) j1 j2 h1 h2]
     exact EqAt.same _
    ·rw [eqT]
     exact EqAt.of_refs hab (Qz8 i1 i2 r1 r2 ok g1 g2 p1 p2 hu0 ih').1
   | tup j2 i2 r2 p2=>simp only [eqT];exact EqAt.list_tuple p1 p2 hu0
   | non=>simp only [eqT];exact EqAt.list_none p1 hu0
   | bl b=>simp only [eqT];exact EqAt.list_bool b p1 hu0
   | int i t=>simp only [eqT];exact EqAt.list_int i t p1 hu0
   | str x t=>simp only [eqT];exact EqAt.list_str x t p1 hu0
  | non =>
   cases s2 with
   | dct=>simp [Qq] at h2
   | clo=>simp [Qq] at h2
   | dtt=>simp [Qq] at h2
   | tup j2 i2 r2 p2=>simp only [eqT];exact EqAt.none_tuple p2 hu0
   | lst j2 i2 r2 p2=>simp only [eqT];exact EqAt.none_list p2 hu0
   | non=>simp only [eqT];exact EqAt.same _
   | bl b=>simp only [eqT];exact EqAt.none_bool b
   | int i t=>simp only [eqT];exact EqAt.none_int i t
   | str x t=>simp only [eqT];exact EqAt.none_str x t
  | bl c =>
   cases s2 with
   | dct=>simp [Qq] at h2
   | clo=>simp [Qq] at h2
   | dtt=>simp [Qq] at h2
   | tup j2 i2 r2 p2=>simp only [eqT];exact EqAt.bool_tuple c p2 hu0
   | lst j2 i2 r2 p2=>simp only [eqT];exact EqAt.bool_list c p2 hu0
   | non=>simp only [eqT];exact EqAt.bool_none c
   | bl b=>simp only [eqT];exact EqAt.bool_bool c b
   | int i t=>simp only [eqT];exact EqAt.bool_int c i t
   | str x t=>simp only [eqT];exact EqAt.bool_str c x t
  | int c ct =>
   cases s2 with
   | dct=>simp [Qq] at h2
   | clo=>simp [Qq] at h2
   | dtt=>simp [Qq] at h2
   | tup j2 i2 r2 p2=>simp only [eqT];exact EqAt.int_tuple c ct p2 hu0
   | lst j2 i2 r2 p2=>simp only [eqT];exact EqAt.int_list c ct p2 hu0
   | non=>simp only [eqT];exact EqAt.int_none c ct
   | bl b=>simp only [eqT];exact EqAt.int_bool c ct b
   | int i t=>simp only [eqT];exact EqAt.int_int c ct i t
   | str x t=>simp only [eqT];exact EqAt.int_str c ct x t
  | str c ct =>
   cases s2 with
   | dct=>simp [Qq] at h2
   | clo=>simp [Qq] at h2
   | dtt=>simp [Qq] at h2
   | tup j2 i2 r2 p2=>simp only [eqT];exact EqAt.str_tuple c ct p2 hu0
   | lst j2 i2 r2 p2=>simp only [eqT];exact EqAt.str_list c ct p2 hu0
   | non=>simp only [eqT];exact EqAt.str_none c ct
   | bl b=>simp only [eqT];exact EqAt.str_bool c ct b
   | int i t=>simp only [eqT];exact EqAt.str_int c ct i t
   | str x t=>simp only [eqT];exact EqAt.str_str c ct x t
end
section
variable {X:Cx}
noncomputable def Q31 (neg:Bool):R2:=fun x y H Q=>∃ t t',Is H x t∧Is H y t'∧Qq 50 t=true∧Qq 50 t'=true∧((∃ ts us,t=.tup ts∧t'=.tup us)∨∃ ts us,t=.lst ts∧t'=.lst us)∧Q (.bl (if neg then !eqT t t' else eqT t t')) H
theorem Qpf (hu:X.A.units+64<cLine) {pins:List (Addr×Obj)} {σ:St} {H:Hp} {s:Shared} (I:Inv X pins σ H s) {x y:V} {v u:Value} {t t':T} (rx:RelV x v) (ry:RelV y u) (i:Is H x t) (j:Is H y t') (h1:Qq 50 t=true) (h2:Qq 50 t'=true)
  (hk:(∃ ts us,t=.tup ts∧t'=.tup us)∨∃ ts us,t=.lst ts∧t'=.lst us):SeqAt.RcAt X.A s v u (eqT t t')∧SeqAt.RcNeAt X.A s v u (!eqT t t'):=by
 have ih:=Qz9 49 (A:=X.A.in1) (P:=X.prog) (w:=X.w) I.hok (by show X.A.units+1+49<cLine;omega)
 have s1:=i.shp rx I.hok
 have s2:=j.shp ry I.hok
 rcases hk with ⟨ts,us,rfl,rfl⟩ | ⟨ts,us,rfl,rfl⟩
 ·rw [Qq] at h1 h2
  rw [eqT]
  cases s1 with
  | tup j1 i1 r1 p1 =>
   cases s2 with
   | tup j2 i2 r2 p2=>exact Qz7 i1 i2 r1 r2 I.hok h1 h2 p1 p2 (by omega) ih
 ·rw [Qq] at h1 h2
  rw [eqT]
  cases s1 with
  | lst j1 i1 r1 p1 =>
   cases s2 with
   | lst j2 i2 r2 p2=>exact Qz8 i1 i2 r1 r2 I.hok h1 h2 p1 p2 (by omega) ih
theorem Qadk (hu:X.A.units+64<cLine):QOp X (compareOp .Eq) (Q31 false):=⟨by
 intro pins s σ H x y v u Q I rx ry q
 obtain ⟨t,t',i,j,h1,h2,hk,q⟩:=q
 exact (Qpf hu I rx ry i j h1 h2 hk).1 _ _ _ _ ⟨.bl _,H,I,rfl,q⟩⟩
theorem Qadl (hu:X.A.units+64<cLine):QOp X (compareOp .NotEq) (Q31 true):=⟨by
 intro pins s σ H x y v u Q I rx ry q
 obtain ⟨t,t',i,j,h1,h2,hk,q⟩:=q
 exact (Qpf hu I rx ry i j h1 h2 hk).2 _ _ _ _ ⟨.bl _,H,I,rfl,q⟩⟩
noncomputable def okK:T→Bool
 | .tup _=>false
 | .dtt _ _=>false
 | .clo _ _=>false
 | _=>true
noncomputable def okR:T→Bool
 | .non=>true
 | .bl _=>true
 | .int _=>true
 | .str _=>true
 | .lst _=>true
 | _=>false
noncomputable def Q32:T→Bool
 | .tup _=>true
 | _=>false
noncomputable def Qx7 (t u:T):Bool:=match t with
 | .tup _=>okR u
 | t=>okK t&&Q32 u
theorem Q0a {t:T} (h:Q32 t=true):∃ ts,t=.tup ts:=by
 cases t with
 | tup ts=>exact ⟨ts,rfl⟩
 | _=>cases h
noncomputable def Q33 (neg:Bool):R2:=fun x y H Q=>∃ t t',Is H x t∧Is H y t'∧Qx7 t t'=true∧Q (.bl neg) H
theorem Qr6 (hu:X.A.units+64<cLine) {pins:List (Addr×Obj)} {σ:St} {H:Hp} {s:Shared} (I:Inv X pins σ H s) {x y:V} {v u:Value} {t t':T} (rx:RelV x v) (ry:RelV y u) (i:Is H x t) (j:Is H y t') (hk:Qx7 t t'=true):SeqAt.RcAt X.A s v u false∧SeqAt.RcNeAt X.A s v u true:=by
 have s1:=i.shp rx I.hok
 have s2:=j.shp ry I.hok
 have hu:X.A.units<cLine:=by omega
 by_cases ht:Q32 t=true
 ·cases s1 with
  | tup _ _ _ p =>
   cases s2 with
   | non=>exact ⟨SeqAt.RcAt.tuple_none p hu,SeqAt.RcNeAt.tuple_none p hu⟩
   | bl b=>exact ⟨SeqAt.RcAt.tuple_bool b p hu,SeqAt.RcNeAt.tuple_bool b p hu⟩
   | int b c=>exact ⟨SeqAt.RcAt.tuple_int b c p hu,SeqAt.RcNeAt.tuple_int b c p hu⟩
   | str b c=>exact ⟨SeqAt.RcAt.tuple_str b c p hu,SeqAt.RcNeAt.tuple_str b c p hu⟩
   | lst _ _ _ q=>exact ⟨SeqAt.RcAt.tuple_list p q hu,SeqAt.RcNeAt.tuple_list p q hu⟩
   | _=>cases hk
  | _=>cases ht
 ·have hk:okK t=true∧Q32 t'=true:=by
   rw [←Bool.and_eq_true,←hk]
   cases t <;> first | rfl | exact absurd rfl ht
  obtain ⟨h1,h2⟩:=hk
  obtain ⟨us,rfl⟩:=Q0a h2
  cases s2 with
  | tup _ _ _ p =>
   cases s1 with
   | non=>exact ⟨SeqAt.RcAt.none_tuple p hu,SeqAt.RcNeAt.none_tuple p hu⟩
   | bl b=>exact ⟨SeqAt.RcAt.bool_tuple b p hu,SeqAt.RcNeAt.bool_tuple b p hu⟩
   | int b c=>exact ⟨SeqAt.RcAt.int_tuple b c p hu,SeqAt.RcNeAt.int_tuple b c p hu⟩
   | str b c=>exact ⟨SeqAt.RcAt.str_tuple b c p hu,SeqAt.RcNeAt.str_tuple b c p hu⟩
   | lst _ _ _ q=>exact ⟨SeqAt.RcAt.list_tuple q p hu,SeqAt.RcNeAt.list_tuple q p hu⟩
   | dct =>
    unfold Is at i
    obtain ⟨a,vs,rfl,ha,_⟩:=i
    cases rx
    obtain ⟨_,_,ws,_,ob,es,ep,e,c,_⟩:=(show ObjOk X.prog X.w H s.heap a (.dK _) from I.hok a _ ha)
    exact ⟨SeqAt.RcAt.dict_tuple e c.1 p hu,SeqAt.RcNeAt.dict_tuple e c.1 p hu⟩
   | _=>cases h1
theorem Qadm (hu:X.A.units+64<cLine):QOp X (compareOp .Eq) (Q33 false):=⟨by
 intro pins s σ H x y v u Q I rx ry q
 obtain ⟨t,t',i,j,hk,q⟩:=q
 exact (Qr6 hu I rx ry i j hk).1 _ _ _ _ ⟨.bl _,H,I,rfl,q⟩⟩
theorem Qadn (hu:X.A.units+64<cLine):QOp X (compareOp .NotEq) (Q33 true):=⟨by
 intro pins s σ H x y v u Q I rx ry q
 obtain ⟨t,t',i,j,hk,q⟩:=q
 exact (Qr6 hu I rx ry i j hk).2 _ _ _ _ ⟨.bl _,H,I,rfl,q⟩⟩
end
section
open PySem.W
end
noncomputable def xcOk (K:PySem.W.Frag) (D:Addr):Bool:=PySem.W.findIn K (.ref D) "__getattribute__" == some (some (.builtin "BaseException.__getattribute__"))&&PySem.W.findIn K (.ref D) "__getattr__" == some none&&PySem.W.mroIn K D (.type "BaseException")==some true&&(PySem.W.clsIn K D).isSome&&PySem.W.findIn K (.ref D) "__class__" == some (some (.builtin "object.__class__")) &&
 PySem.W.specialIn K (.builtin "object.__class__") "__get__" == some (some (.builtin "getset_descriptor.__get__"))&&PySem.W.takesIn K (.builtin "object.__class__")==some true&&PySem.W.mroIn K D (.type "object")==some true
section
variable {X:Cx}
end
section
variable {P:Program} {w:World} {K:PySem.W.Frag} {mg:Str→Option Value} {base:Heap}
end
section
variable {X:Cx} {x:Str} {ps:List Str} {k:Nat} {sp:Sp} {e:Expr} {es:List Expr} {t:TA} {p pos:Pos}
end
noncomputable def cad (mg:Str→Option Value) (x:Str):Addr:=match mg x with
 | some (.ref a)=>a
 | _=>0
noncomputable def bmV:List Value:=[.type "ValueError",.type "Exception",.type "BaseException",.type "object"]
noncomputable def Quc:List Str:=["NoTable","NoWay","NoSet","NoRest","NoLine","NoRow","NoTables","Below","NoText","TooGreat"]
noncomputable def Qado (K:PySem.W.Frag) (c0:Addr) (cs:List Addr):Bool :=
 PySem.W.excIn K c0 bmV "ValueError.__new__" && (cs.take 6).all (fun c=>PySem.W.excIn K c bmV "ValueError.__new__")&&cs.all (fun c=>xcOk K c&&PySem.W.mroIn K c (.ref c0)==some true&&PySem.W.kitOne K (.ref c) (.type "ValueError")==some true) &&
  cs.zipIdx.all (fun p=>cs.zipIdx.all fun q=>PySem.W.kitOne K (.ref p.1) (.ref q.1)==some (p.2==q.2))
structure Exs (K:PySem.W.Frag) (mg:Str→Option Value):Prop where
 m0:mg "NoughtError" = some (.ref (cad mg "NoughtError"))
 m:∀ (i:Nat) (x:Str),Quc[i]?=some x→mg x=some (.ref (cad mg x))
 ok:Qado K (cad mg "NoughtError") (Quc.map (cad mg))=true
section
variable {K:PySem.W.Frag} {mg:Str→Option Value}
end
section
variable {X:Cx} {pins:List (Addr×Obj)} {σ:St} {H:Hp} {s:Shared} {h':Heap}
theorem Inv.turnedL {t':Nat} {fp:List Addr} (I:Inv X pins σ H s) (k:∀ b o,b∉fp→s.heap.get? b=some o→h'.get? b=some o) (hf:∀ b∈fp,Qis X pins H b):Inv X pins σ H { s with heap:=h',toks:=t' }:=by
 have nit:∀ b u,H b=some u→b∉fp:=fun b u e z=>by rw [(hf b z).1] at e;cases e
 refine I.step (g':=s.gens) (d':=s.drawn) (ch:=fp) (fun b hb=>?_) (fun b o _ _ hc e _=>k b o hc e) (fun b o _ _ hc e _=>⟨o.slots,k b o hc e⟩) (fun _ _ _ _ n=>n)
  (fun b o hc e=>⟨o,k b o hc e⟩) (fun _ _ e=>e) (fun _ _ _ e=>e) (fun _ _ e=>e) (fun m hm=>?_) (fun b u e=>?_) I.bare
 ·obtain ⟨_,f1,_,f3,f4,f5⟩:=hf b hb
  exact ⟨f3,f1,f4,f5⟩
 ·obtain ⟨o,es,ep,ho,r⟩:=hm
  exact ⟨o,es,ep,k _ o (fun z=>(hf _ z).2.1 rfl) ho,r⟩
 ·refine (I.hok b u e).stay (fun c v hc q=>k c v ?_ q) (fun _ q=>q) fun _ _ q=>q
  rcases hc with z | z
  ·rw [z];exact nit b u e
  ·exact nit c _ z
end
section
variable {X:Cx}
end
section
variable {P:Program} {w:World} {A:Around} {E:Value→Shared→Prop} {s:Shared}
noncomputable def IsIt:Bool→Heap→Addr→Addr→Nat→Prop
 | true,h,i,l,n=>h.IsListIter i l n
 | false,h,i,l,n=>h.IsTupleIter i l n
noncomputable def IsSq:Bool→Heap→Addr→Array Value→Prop
 | true,h,l,xs=>h.IsList l xs
 | false,h,l,xs=>h.IsTuple l xs
structure ZT (lb lc:Bool) (h:Heap) (z ti to i1 i2 l1 l2:Addr) (n:Nat) (xs ys:Array Value):Prop where
 z:IsZip h z ti to .none
 ti:IsPair h ti (.ref i1) (.ref i2)
 to:∃ a b,IsPair h to a b
 i1:IsIt lb h i1 l1 n
 i2:IsIt lc h i2 l2 n
 l1:IsSq lb h l1 xs
 l2:IsSq lc h l2 ys
end
section
variable {P:Program} {w:World} {A:Around} {E:Value→Shared→Prop} {s:Shared}
end
section
variable {X:Cx}
end
section
variable {prog:Program} {w:World} {A:Around} {E:Value→Shared→Prop} {s:Shared}
end
section
variable {X:Cx}
end
noncomputable def excF (K:PySem.W.Frag) (c0 C:Addr) (bmB:List Value) (newId:String) (f:Addr):Bool:=match K.lookup C with
 | some ⟨.type "type",_,.cls cl,ks⟩=>(match cl.mro,ks.toList with
  | .ref C1::.ref b0::tl,[_,_,_,_,some (.builtin n1),_]=>C1==C&&n1==newId&&b0==c0&&tl==bmB && !cl.hasDel&&cl.hasDict&&PySem.W.tailIn K bmB (.ref b0::tl)
  | _,_=>false)
 | _=>false
noncomputable def Q9w (K:PySem.W.Frag) (c0 C f:Addr):Bool:=excF K c0 C bmV "ValueError.__new__" f&&PySem.W.findIn K (.ref C) "__init__" == some (some (.ref f))&&PySem.W.findIn K (.ref C) "__setattr__" == some (some (.builtin "object.__setattr__"))&&PySem.W.findIn K (.ref C) "at" == some none&&PySem.W.mroIn K C (.type "object")==some true
section
variable {prog:Program} {w:World} {A:Around} {E:Value→Shared→Prop} {h:Heap} {g:Array GenState} {d:Drawn} {t:Nat} {os:OsState}
variable {nm q:Str} {C N c0:Addr} {bs bm bmB:List Value} {hd:Bool} {sn:List Str} {sub:List Value} {ab:Bool} {col:Option Bool} {dd:Option Addr} {k0 k1 k2 k3 k5:Option Value} {B nid iid:String}
structure Ini (K:PySem.W.Frag) (c0 C:Addr):Prop where
 ex:∃ (f:Addr) (fd:FuncData) (qn:Str) (st:Stmt) (p1 p2 p3 p4:Pos),Q9w K c0 C f=true∧Fun K "__init__" qn st f fd∧(∃ od osl,K.lookup f=some ⟨.type "function",od,.func fd,osl⟩)∧FnScope ["self","at"] ["self","at"] (Qg st) ∧
  (Qg st).names.lookup ("self" : Str)=some .local∧(Qg st).names.lookup ("at" : Str)=some .local∧Binds K fd ["self","at"] []∧Qbq st=[.Assign [.Attribute (.Name "self" p1) "at" p2] (.Name "at" p3) p4]
end
section
variable {X:Cx} {pins:List (Addr×Obj)} {σ:St} {H:Hp} {s:Shared}
end
section
variable {M:Model} {A:Around} {E:Value→Shared→Prop} {env:Env} {nm q:Str} {C N:Addr} {bs bm:List Value} {hd:Bool} {sn:List Str} {sub:List Value} {ab:Bool} {col:Option Bool} {dd:Option Addr} {k0 k1 k2 k3 k5:Option Value} {nid:String}
end
section
variable {X:Cx} {x:Str} {e:Expr} {t:TA} {pos cpos np:Pos} {R:XR} {c0 C:Addr} {k:Nat}
end
section
variable {X:Cx} {e:Expr} {te:TE} {pos:Pos}
end
section
variable {prog:Program} {w:World} {A:Around} {E:Value→Shared→Prop} {h:Heap} {g:Array GenState} {d:Drawn} {t:Nat} {os:OsState}
variable {nm q:Str} {C N c0:Addr} {bs bm bmB:List Value} {hd:Bool} {sn:List Str} {sub:List Value} {ab:Bool} {col:Option Bool} {dd:Option Addr} {k0 k1 k2 k3 k5:Option Value} {B nid iid:String}
noncomputable def Q34 (K:PySem.W.Frag) (c0 C f:Addr):Bool:=excF K c0 C bmV "ValueError.__new__" f&&PySem.W.findIn K (.ref C) "__init__" == some (some (.ref f))&&PySem.W.findIn K (.ref C) "__setattr__" == some (some (.builtin "object.__setattr__"))&&PySem.W.findIn K (.ref C) "many" == some none&&PySem.W.findIn K (.ref C) "most" == some none&&PySem.W.mroIn K C (.type "object")==some true
structure Ini2 (K:PySem.W.Frag) (c0 C:Addr):Prop where
 ex:∃ (f:Addr) (fd:FuncData) (qn:Str) (st:Stmt) (p1 p2 p3 p4 q1 q2 q3 q4:Pos),Q34 K c0 C f=true∧Fun K "__init__" qn st f fd∧(∃ od osl,K.lookup f=some ⟨.type "function",od,.func fd,osl⟩)∧FnScope ["self","many","most"] ["self","many","most"] (Qg st) ∧
  (Qg st).names.lookup ("self" : Str)=some .local∧(Qg st).names.lookup ("many" : Str)=some .local∧(Qg st).names.lookup ("most" : Str)=some .local∧Binds K fd ["self","many","most"] [] ∧
  Qbq st=[.Assign [.Attribute (.Name "self" p1) "many" p2] (.Name "many" p3) p4,.Assign [.Attribute (.Name "self" q1) "most" q2] (.Name "most" q3) q4]
end
section
variable {X:Cx} {pins:List (Addr×Obj)} {σ:St} {H:Hp} {s:Shared}
end
section
variable {X:Cx} {x:Str} {e e2:Expr} {t:TA} {pos cpos np:Pos} {R:XR} {c0 C:Addr} {k:Nat}
end
section
variable {X:Cx} {e:Expr} {te:TE} {pos:Pos}
end
section
variable {X:Cx}
noncomputable def isI (n:Int) (v:Value):Bool:=match v with
 | .int m _=>m==n
 | _=>false
end
theorem Qud {X:Cx} {tg elt iter:Expr} {ifs:List Expr} {scope:Scope} {pos ppos:Pos} {N:List Str} {js:List (Option Nat)} {wi:TI} {g:TG} {tc:TT} {te:TE} {use:Option (Value→Sem Unit)} {R:Value→Shared→Prop} (hcalm:X.calm=true)
  (hi:PI X tg iter wi) (hg:∀ s H fp,PG (Q8 X scope N s H fp) tg g) (hc:∀ s H fp,PTs (Q8 X scope N s H fp) ifs tc) (he:∀ s H fp,PE (Q8 X scope N s H fp) elt te)
  (hk:scope.kind=.function) (h1:scOk X scope=true) (h2:Qim X scope N js=true) (hs:∀ x,foldedSetIterable iter X.env x=pure x) {pins:List (Addr×Obj)} {s:Shared} {σ:St} {H:Hp} {Q:VK} (I:Inv X pins σ H s) (h:Qpb wi js g tc te σ H Q)
  (fin0:∀ (l C:Addr) (H':Hp) (s':Shared),(∃ m,s'.heap.Ns C m)→(∀ h',Heap.SameBut C s'.heap h'→Inv X pins σ H' { s' with heap:=h' })→Qis X pins H' C→Q (.ref l) H'→compPost (model X.prog X.w) X.A X.xe use R (.ref l) C (.ok .next) s') :
  wpAny (model X.prog X.w) X.A (comprehension (.ListComp elt [⟨tg,iter,ifs,0⟩] scope pos) scope X.env ppos (newList []) false (firstIter [⟨tg,iter,ifs,0⟩] X.env) use) R X.xe s:=by
 refine wpAny_comprehension_free (use:=use) rfl hs (Qmm (scOk.cells I h1)) hk (fun x hx hl=>by rw [(scOk.get h1 hx).2,hl]) ?_
 refine thn (hi pins s σ H _ I h) fun v s1 h1'=>thn h1' fun itv s2 h2'=>?_
 obtain ⟨it,fp,tn,J,H2,e,I2,T,st2,f2,q⟩:=h2'
 subst e
 refine wpAny_newObj_type ?_
 have hl:H2 s2.heap.objs.size=none:=I2.hok.fresh (Nat.le_refl _)
 obtain ⟨W,⟨m0,w0⟩,turn⟩:=q _ hl
 have I3:Inv X pins σ (upd H2 s2.heap.objs.size (.lst [])) { s2 with heap:=s2.heap.push { cls:=.type "list",data:=.seq ([]:List Value).toArray } }:=I2.lnew (t':=s2.toks) (ys:=[]) .nil (Nat.zero_le _)
 generalize hs3:({ s2 with heap:=s2.heap.push { cls:=.type "list",data:=.seq ([]:List Value).toArray } }:Shared)=s3 at I3
 generalize hH3:upd H2 s2.heap.objs.size (.lst [])=H3 at I3 w0
 generalize hl':s2.heap.objs.size=l at turn hH3 hl
 have kp3:∀ b o,s2.heap.get? b=some o→s3.heap.get? b=some o:=fun b o e=>by rw [←hs3];exact Heap.get?_push_of_some _ e
 have ob3:∀ b∈fp,∃ o,s3.heap.get? b=some o∧∀ v,o.data≠.cell v:=fun b hb=>by
  obtain ⟨o,e,d⟩:=T.obj _ _ st2 b hb
  exact ⟨o,kp3 b o e,d⟩
 have f3:∀ b∈fp,Qis X pins H3 b:=fun b hb=>by
  obtain ⟨o,e,d⟩:=T.obj _ _ st2 b hb
  refine ⟨?_,(f2 b hb).2⟩
  rw [←hH3,Qab (Nat.ne_of_lt (by rw [←hl'];exact Heap.lt_size e))]
  exact (f2 b hb).1
 refine Qle ?_
 have I4:=Qry (N:=N) (js:=js) I3 hk h1 h2 f3 ob3
 have st4:tn 0 (pushCells (s3.heap.push { cls:=.type "dict",data:=.dict #[] }) scope.names):=T.keep _ _ _ st2 fun b hb o e=>pushCells_keeps _ _ _ _ (Heap.get?_push_of_some _ (kp3 b o e))
 have fr4:∀ b∈fp,H3 b=none:=fun b hb=>(f3 b hb).1
 have fpX:∀ {H':Hp},(∀ b∈fp,H' b=none)→∀ b∈fp,Qis (Q8 X scope N s3 H3 fp) [] H' b:=fun hn b hb=>by
  have ok:=I4.ok
  refine ⟨hn b hb,(ok.exf b hb).1,ok.exfs b hb,.inl hb,(ok.exf b hb).2,fun p hp=>absurd (show p∈([]:List (Addr×Obj)) from hp) (by simp)⟩
 -- the block's end
 have fin:∀ {σ':St} {H':Hp} {s':Shared},Inv (Q8 X scope N s3 H3 fp) [] σ' H' s'→Q (.ref l) H'→compPost (model X.prog X.w) X.A X.xe use R (.ref l) s3.heap.objs.size (.ok .next) s':=fun {σ' H' s'} I' q'=>by
  obtain ⟨m,hn,_⟩:=id I'.loc
  have hfr:H' s3.heap.objs.size=none:=I'.free
  refine fin0 l _ H' s' ⟨m,hn⟩ (fun h' hsb=>?_) (I3.fpOk (Nat.le_refl _) hfr) q'
  refine I3.call' (s':={ s' with heap:=h' }) (ch:=fp) I'.os ⟨fun b o e n hb hx=>?_,fun b o e n hb hx=>?_,I'.base.free,fun b o e hx=>?_,I'.base.tups,I'.base.frzs,I'.base.tbls⟩ (fun b u e=>?_) I'.bare (fun b hb=>⟨(f3 b hb).2.2.2.1,(f3 b hb).2.1,(f3 b hb).2.2.2.2.1,(f3 b hb).2.2.2.2.2⟩)
  ·exact (hsb.2 b (Nat.ne_of_lt (Heap.lt_size e))).trans (I'.base.keep b o e n hb hx)
  ·obtain ⟨sl,z⟩:=I'.base.slot b o e n hb hx
   exact ⟨sl,(hsb.2 b (Nat.ne_of_lt (Heap.lt_size e))).trans z⟩
  ·obtain ⟨o',z⟩:=I'.base.there b o e hx
   exact ⟨o',(hsb.2 b (Nat.ne_of_lt (Heap.lt_size e))).trans z⟩
  ·refine (I'.hok b u e).stay (fun c w' hc z=>(hsb.2 c ?_).trans z) (fun _ z=>z) fun _ _ z=>z
   rintro rfl
   rcases hc with rfl | hc
   ·rw [hfr] at e;cases e
   ·rw [hfr] at hc;cases hc
 have loop:codeAny (model X.prog X.w) X.A (.compLoop (.ListComp elt [⟨tg,iter,ifs,0⟩] scope pos) 0 (.ref it) (.ref l) (Q8 X scope N s3 H3 fp).env) (compPost (model X.prog X.w) X.A X.xe use R (.ref l) s3.heap.objs.size)
   { s3 with heap:=pushCells (s3.heap.push { cls:=.type "dict",data:=.dict #[] }) scope.names }:=by
  refine Qjh (fun n s'=>∃ i ys σ' H',Inv (Q8 X scope N s3 H3 fp) [] σ' H' s'∧tn i s'.heap∧(∀ b∈fp,H' b=none)∧W i n ys σ' H') ?_ m0 ⟨0,[],Qef js σ,H3,I4,st4,fr4,w0⟩
  rintro n s5 ⟨i,ys,σ5,H5,I5,st5,fr5,w5⟩
  rcases turn i n ys σ5 H5 w5 with ⟨stop,qn⟩ | ⟨go,step⟩
  ·refine thn (T.done (Q8 X scope N s3 H3 fp) rfl rfl rfl hcalm i [] s5 σ5 H5 _ I5 (fpX fr5) st5 stop) fun r s6 ⟨hr,I6⟩=>?_
   subst hr
   exact fin I6 qn
  ·refine thn (T.item (Q8 X scope N s3 H3 fp) rfl rfl rfl hcalm i [] s5 σ5 H5 _ I5 (fpX fr5) st5 go) fun r s6 ⟨u,hr,h6⟩=>?_
   subst hr
   refine thn h6 fun _ s7 ⟨x,H7,I7,r7,y7,st7,fr7⟩=>?_
   have I7':=I7.pinned (fpX fr7) (T.obj _ _ st7)
   have again:∀ {σ8:St} {H8:Hp} {s8:Shared} {ys8:List V},Inv (Q8 X scope N s3 H3 fp) ([]++Qkh fp s7.heap) σ8 H8 s8→(∃ m',m'<n∧W (i+1) m' ys8 σ8 H8) →
     ∃ m,m<n∧∃ i ys σ' H',Inv (Q8 X scope N s3 H3 fp) [] σ' H' s8∧tn i s8.heap∧(∀ b∈fp,H' b=none)∧W i m ys σ' H':=fun {σ8 H8 s8 ys8} I8 ⟨m',hm,w8⟩=>by
    refine ⟨m',hm,i+1,ys8,σ8,H8,I8.unpinned,T.keep _ _ _ st7 fun b hb o e=>(I8.pin (b,o) (mem_append_right _ (mem_append_right _ (Qb8 hb e)))).1,fun b hb=>?_,w8⟩
    obtain ⟨o,e,d⟩:=T.obj _ _ st7 b hb
    exact (I8.pin (b,o) (mem_append_right _ (mem_append_right _ (Qb8 hb e)))).2.1
   refine thn (hg s3 H3 fp _ s7 σ5 H7 x u _ I7' r7 (step x H7 y7)) fun _ s8 ⟨σ8,H8,I8,q8⟩=>?_
   refine thn (hc s3 H3 fp _ s8 σ8 H8 _ I8 q8) fun ok s9 ⟨H9,I9,q9⟩=>?_
   cases ok with
   | false =>
    rw [if_neg Bool.false_ne_true] at q9 ⊢
    exact again I9 q9
   | true =>
    rw [if_pos rfl] at q9 ⊢
    refine thn (he s3 H3 fp _ s9 σ8 H9 _ I9 q9) fun y s10 ⟨vy,H10,I10,r10,a10,z10,q10⟩=>?_
    refine thn (Qkj (X:=Q8 X scope N s3 H3 fp) _ s10 σ8 H10 (.ref l) [vy] (.ref l) [y] (fun _ H'=>∃ m',m'<n∧W (i+1) m' (ys++[vy]) σ8 H') I10 rfl (.cons r10 .nil) ⟨l,ys,vy,rfl,rfl,a10,z10,q10⟩) fun _ s11 ⟨_,H11,I11,_,q11⟩=>?_
    exact again I11 q11
 first
  | exact codeAny_compStart_list loop (T.self _ 0 _ _ _ st4 loop)
  | (rw [← hs3] at loop st4
     exact codeAny_compStart_list loop (T.self _ 0 _ _ _ st4 loop))
theorem Qmv {X:Cx} {tgE tg elt iter:Expr} {ifs:List Expr} {scope:Scope} {pos cpos:Pos} {N:List Str} {js:List (Option Nat)} {wi:TI} {g g2:TG} {tc:TT} {te:TE} (hcalm:X.calm=true)
  (hi:PI X tg iter wi) (hg:∀ s H fp,PG (Q8 X scope N s H fp) tg g) (hc:∀ s H fp,PTs (Q8 X scope N s H fp) ifs tc) (he:∀ s H fp,PE (Q8 X scope N s H fp) elt te) (h2g:PG X tgE g2)
  (hk:scope.kind=.function) (h1:scOk X scope=true) (h2:Qim X scope N js=true) (hs:∀ x,foldedSetIterable iter X.env x=pure x)
  (hsw:swapsWithSole [tgE] (.ListComp elt [⟨tg,iter,ifs,0⟩] scope cpos) pos.line X.env=pure true) (ha:(assignEach [tgE] X.env).map (·.2)=[assign tgE X.env]) :
  PS X (.Assign [tgE] (.ListComp elt [⟨tg,iter,ifs,0⟩] scope cpos) pos) (Qlt (Qpb wi js g tc te) g2):=by
 intro pins s σ H D I h
 rw [arm_exec_Assign]
 refine wpAny_bind (wpAny_standAt ?_)
 rw [hsw]
 refine wpAny_bind (wpAny_pure ?_)
 rw [if_pos rfl]
 refine wpAny_bind ?_
 rw [arm_evalThenUse_ListComp,ha]
 refine wpAny_bind (Qud (use:=some fun v=>assignAll v [assign tgE X.env]) hcalm hi hg hc he hk h1 h2 hs I h fun l C H' s' hns hInv fpC q=>?_)
 obtain ⟨m,o,es,ep,ho,hd,r⟩:=hns
 have J0:Inv X pins σ H' s':=hInv s'.heap (Heap.SameBut.refl ..)
 have J1:=J0.pinned (fp:=[C]) (fun b hb=>by rw [mem_singleton.mp hb];exact fpC) (fun b hb=>by
  rw [mem_singleton.mp hb]
  exact ⟨o,ho,fun v z=>by rw [hd] at z;cases z⟩)
 show wpAny _ _ (assign tgE X.env (.ref l)) _ _ _
 refine thn (h2g _ s' σ H' (.ref l) (.ref l) D.nx J1 rfl q) fun _ s2 ⟨σ2,H2,I2,q2⟩=>?_
 have hp:=I2.pin (C,o) (mem_append_right _ (mem_append_right _ (Qb8 (mem_singleton.mpr rfl) ho)))
 refine ⟨m,⟨o,es,ep,hp.1,hd,r⟩,fun h' hsb=>?_⟩
 have I3:=I2.unpinned.turnedL (h':=h') (t':=s2.toks) (fp:=[C]) (fun b o' hb e=>by
  rw [hsb.2 b (fun z=>hb (by rw [z];exact mem_singleton.mpr rfl))]
  exact e) (fun b hb=>by
  rw [mem_singleton.mp hb]
  exact ⟨hp.2.1,fpC.2⟩)
 exact wpAny_pure (wpAny_pure ⟨σ2,H2,I3,q2⟩)
noncomputable def keyD:Key→PyData
 | .inl i=>.int i
 | .inr x=>.str x
mutual
noncomputable def pyD:T→PyData
 | .non=>.none
 | .bl b=>.bool b
 | .int i=>.int i
 | .str x=>.str x
 | .tup ts=>.tuple (Qop ts)
 | .lst ts=>.list (Qop ts)
 | .dct ks ts=>.dict ((ks.map keyD).zip (Qop ts))
 | .dtt _ _=>.none
 | .clo _ _=>.none
noncomputable def Qop:List T→List PyData
 | []=>[]
 | t::ts=>pyD t::Qop ts
end
mutual
noncomputable def Qe6:T→Bool
 | .tup ts=>Qmw ts
 | .lst ts=>Qmw ts
 | .dct _ _=>false
 | .clo _ _=>false
 | .dtt _ _=>false
 | _=>true
noncomputable def Qmw:List T→Bool
 | []=>true
 | t::ts=>Qe6 t&&Qmw ts
end
mutual
theorem Qr7:∀ t:T,Qe6 t=true→(pyD t).hasDict=false
 | .non,_=>by simp only [pyD,PyData.hasDict]
 | .bl _,_=>by simp only [pyD,PyData.hasDict]
 | .int _,_=>by simp only [pyD,PyData.hasDict]
 | .str _,_=>by simp only [pyD,PyData.hasDict]
 | .tup ts,h=>by simp only [pyD,PyData.hasDict];exact Qf8 ts (by simpa only [Qe6] using h)
 | .lst ts,h=>by simp only [pyD,PyData.hasDict];exact Qf8 ts (by simpa only [Qe6] using h)
 | .dct _ _,h=>by simp only [Qe6] at h;cases h
 | .clo _ _,h=>by simp only [Qe6] at h;cases h
 | .dtt _ _,h=>by simp only [Qe6] at h;cases h
theorem Qf8:∀ ts:List T,Qmw ts=true→PyData.hasDictAll (Qop ts)=false
 | [],_=>by simp only [Qop,PyData.hasDictAll]
 | t::ts,h=>by
  simp only [Qmw,Bool.and_eq_true] at h
  simp only [Qop,PyData.hasDictAll,Qr7 t h.1,Qf8 ts h.2,Bool.or_false]
end
section
variable {P:Program} {w:World} {H:Hp} {h:Heap}
mutual
theorem Q0b (ok:HOk P w H h):∀ (t:T) {v:V} {u:Value},Qe6 t=true→Is H v t→RelV v u→∃ as,Reads h u (pyD t) as
 | .non,v,u,_,i,r=>by unfold Is at i;subst i;cases r;exact ⟨_,by unfold pyD;exact .none⟩
 | .bl b,v,u,_,i,r=>by unfold Is at i;subst i;cases r;exact ⟨_,by unfold pyD;exact .bool b⟩
 | .int n,v,u,_,i,r=>by unfold Is at i;subst i;obtain ⟨t,rfl⟩:=r;exact ⟨_,by unfold pyD;exact .int n t⟩
 | .str x,v,u,_,i,r=>by unfold Is at i;subst i;obtain ⟨t,rfl⟩:=r;exact ⟨_,by unfold pyD;exact .str x t⟩
 | .tup ts,v,u,f,i,r=>by
  obtain ⟨a,vs,rfl,ha,q⟩:=i.tup_inv
  cases r
  obtain ⟨_,its,rv,o,e,c,n,d,_⟩:=(show ObjOk P w H h a (.tup vs) from ok a _ ha)
  obtain ⟨as,R⟩:=Qkm ok ts (by simpa only [Qe6] using f) q rv
  exact ⟨as,by unfold pyD;exact .tuple e c d (by simpa using R)⟩
 | .lst ts,v,u,f,i,r=>by
  obtain ⟨a,vs,rfl,ha,q⟩:=i.lst_inv
  cases r
  obtain ⟨_,its,n,rv,e⟩:=(show ObjOk P w H h a (.lst vs) from ok a _ ha)
  obtain ⟨as,R⟩:=Qkm ok ts (by simpa only [Qe6] using f) q rv
  exact ⟨a::as,by unfold pyD;exact .list e rfl rfl (by simpa using R)⟩
 | .dct _ _,v,u,f,i,r=>by simp only [Qe6] at f;cases f
 | .clo _ _,v,u,f,i,r=>by simp only [Qe6] at f;cases f
 | .dtt _ _,v,u,f,i,r=>by simp only [Qe6] at f;cases f
theorem Qkm (ok:HOk P w H h):∀ (ts:List T) {vs:List V} {us:List Value},Qmw ts=true→IsL H vs ts→Vals vs us→∃ as,ReadsAll h us (Qop ts) as
 | [],vs,us,_,i,r=>by
  rw [i.nil_inv] at r
  cases r
  exact ⟨_,by unfold Qop;exact .nil⟩
 | t::ts,vs,us,f,i,r=>by
  obtain ⟨v,w',rfl,iv,iw⟩:=i.cons_inv
  simp only [Qmw,Bool.and_eq_true] at f
  cases r with
  | cons r0 rr =>
   obtain ⟨as,R⟩:=Q0b ok t f.1 iv r0
   obtain ⟨bs,R2⟩:=Qkm ok ts f.2 iw rr
   exact ⟨_,by unfold Qop;exact .cons R R2⟩
end
end
section
variable {X:Cx}
end
noncomputable def OkD:Nat→T→Bool
 | _,.non=>true
 | _,.bl _=>true
 | _,.int i=>decide (i.natAbs<10^31)
 | _,.str x=>decide (x.cps.size≤2)&&x.cps.toList.all fun c=>decide (c<16^8)
 | n+1,.tup ts=>decide (ts.length≤16)&&ts.all (OkD n)
 | n+1,.lst ts=>decide (ts.length≤16)&&ts.all (OkD n)
 | _,_=>false
structure ShD (c d:Nat) (t:T):Prop where
 b:(pyD t).bulk≤c
 l:(pyD t).leavesShort 32=true
 s:(pyD t).showable=true
 d:(pyD t).depth≤d
 f:Qe6 t=true
namespace Z
section
variable {H:Hp} {S:Addr→Prop} {x y:V} {Q:VK} {K:PySem.W.Frag}
noncomputable def Sm (r:Nat) (D:Hp) (x:V):Prop:=∃ t,Is D x t∧OkD r t=true
variable {r:Nat}
end
end Z
end L2
namespace PySem
open Sem (wp)
open AutoSeq1 (wpAny_loadPart')
section
variable {prog:Program} {w:World} {A:Around} {E:Value→Shared→Prop} {s:Shared}
end
end PySem
namespace L2
open PySem PySem.Spec PyProof.Rows
section
variable {X:Cx}
end
end L2
namespace L2
open PySem PySem.Spec PyProof.Rows PySem.W PySem.Calls
end L2
namespace L2
open PySem PySem.Spec PyProof.Rows PySem.W PySem.Calls
structure OrdN (lt:Nat→Nat→Bool) (n:Nat):Prop where
 tr:∀ a b c,a<n→b<n→c<n→lt a b=true→lt b c=true→lt a c=true
 tot:∀ a b,a<n→b<n→a≠b→lt a b=true∨lt b a=true
 as:∀ a b,a<n→b<n→lt a b=true→lt b a=false
section
variable {lt:Nat→Nat→Bool} {N:Nat} (o:OrdN lt N)
include o
end
end L2
namespace L2
open PySem PySem.Spec PyProof.Rows PySem.W PySem.Calls
noncomputable def Qads (k:List Int):Int:=reduceHash (Builtin.Tuple.tupleHashOf (k.map hashInt))
noncomputable def Qadt (ks:List (List Int)) (j:Nat):List Int:=ks.getD j []
noncomputable def Qadu (t:SetTable):Nat→Nat
 | 0=>0
 | i+1=>t.place.getD i 0+1
noncomputable def Q9x (t:SetTable) (n:Nat):Bool:=(List.range (n+1)).all fun i=>SetTable.below t.place (Qadu t i)==i
end L2
namespace L2
open PySem PySem.Spec PyProof.Rows PySem.W PySem.Calls
noncomputable abbrev btx (w:World):Bool:=w.params.followText "set-order"
structure SOk (w:World) (es:Array (Int×Value)) (t:SetTable):Prop where
 fits:t.fits es.size=true
 plain:t.plain=true
 led:btx w=false→t.led=true
 wk:btx w=false→Q9x t es.size=true
section
variable {prog:Program} {w:World} {A:Around} {E:Value→Shared→Prop} {s:Shared} {it d:Addr} {i ep:Nat} {es:Array (Int×Value)} {t:SetTable}
end
set_option genInjectivity false
set_option genSizeOf false
inductive PV where
 | fz (t:T) | ow (t:T) | sl (i:Nat)
inductive Slot where
 | un | fz (t:T) | ow (t:T) | ml (t:T) | ro (t:T) | pin (a:Addr) | fx (t:T)
noncomputable abbrev En:=List Slot
structure Xn where
 c:Nat
 arg:List Int
inductive Out (α:Type) where
 | ok (a:α) (ρ:En) | xn (x:Xn) (ρ:En) | no
noncomputable def Out.bind {α β:Type} (o:Out α) (k:α→En→Out β):Out β:=match o with
 | .ok a ρ=>k a ρ
 | .xn x ρ=>.xn x ρ
 | .no=>.no
noncomputable def Out.opt {α:Type} (o:Option α) (ρ:En):Out α:=match o with
 | some a=>.ok a ρ
 | none=>.no
noncomputable def Slot.prv:Slot→Option T
 | .ow t=>some t | .ml t=>some t | .ro t=>some t | _=>none
noncomputable def Slot.mut:Slot→Bool
 | .ow (.lst _)=>true | .ml (.lst _)=>true | _=>false
noncomputable def Slot.put (t:T):Slot→Slot
 | .ow _=>.ow t | .ml _=>.ml t | s=>s
noncomputable def Slot.lend:Slot→Slot
 | .ow t=>.ml t | .pin _=>.un | .fx t=>.fz t | s=>s
noncomputable def Qb (ρ:En) (i:Nat):Slot:=match ρ[i]? with
 | some s=>s
 | none=>.un
noncomputable def cont (ρ:En):PV→Option T
 | .fz t=>some t
 | .ow t=>some t
 | .sl i=>(Qb ρ i).prv
noncomputable def frz:PV→Option T
 | .fz t=>some t
 | .ow t=>some t
 | .sl _=>none
noncomputable def Qfj:List PV→Option (List T)
 | []=>some []
 | r::rs=>match frz r,Qfj rs with
  | some t,some ts=>some (t::ts)
  | _,_=>none
inductive BOp where
 | add | sub | mul | fdv | mod | pow | shl | shr | band
inductive COp where
 | eq | ne | lt | le | gt | ge | isn | isnn | inn | nin
inductive Bi where
 | len | abs | all | any | sum | max | min | dvm | int | list | tup | dct         
inductive Tg where
 | nm (i:Nat) | tp (is:List Nat)
mutual
inductive E where
 | var (i:Nat) | int (i:Int) | bl (b:Bool) | non | str (x:Str)
 | tup (es:Es) | lst (es:Es)
 | bin (o:BOp) (a b:E) | neg (a:E)
 | not (a:E) | and (a b:E) | or (a b:E) | ite (c a b:E)
 | cmp (o:COp) (a b:E)
 | isI (a:E) (n:String)
 | srk (f:Nat) (e:E)
 | call (f:Nat) (es:Es)
 | bi (b:Bi) (es:Es)
 | cnt (a b:E)
 | ix (a i:E) | slc (a:E) (lo hi:Es) 
 | comp (w:W) (js:List (Option Nat)) (tg:Tg) (cs:Es) (e:E)
 | lit (t:T)   
 | app (i:Nat) (es:Es) | compS (i:Nat) (js:List (Option Nat)) (tg:Tg) (cs:Es) (e:E)   
 | bad
inductive Es where
 | nil | cons (e:E) (es:Es)
inductive W where
 | seq (e:E) | rng1 (a:E) | zip (a b:E) 
end
inductive ME where
 | v (j:Nat) | c (n:Int) | rd (j k:Nat) | op (o:BOp) (a b:ME)
inductive MS where
 | put (v:ME) (j k:Nat) | rep (w s:Nat) (v:ME) (j k:Nat)
inductive S where
 | nil | seq (a b:S) | expr (e:E) | set (i:Nat) (e:E) | setF (i:Nat) (e:E) | unp (is:List Nat) (e:E) | unl (is:List Nat) (e:E) | par (i j:Nat) (a b:E)
 | app (i:Nat) (e:E) | ext (i:Nat) (e:E) | put (i:Nat) (k e:E) | look (i:Nat) (b:S)  
 | ret (e:E) | ite (c:E) (a b:S) | whl (c:E) (b:S) | for_ (w:W) (tg:Tg) (b:S)   
 | brk | cnt | frz (i:Nat) | ins (i:Nat) (k e:E) | bad
inductive Arg where
 | fz (t:T) | ml (t:T) | ro (t:T)
inductive FR where
 | ok (r:PV) (fin:List T) | xn (x:Xn) (fin:List T) | no
inductive SO where
 | nx (ρ:En) | rt (r:PV) (ρ:En) | bk (ρ:En) | ct (ρ:En) | xn (x:Xn) (ρ:En) | no
noncomputable abbrev CF:=Nat→List Arg→FR
noncomputable def Qbu (i j:Int):Bool:=decide (i.natAbs<2^64)||(decide (j.natAbs<2^64)||((decide (i.natAbs<2^250)&&decide (j.natAbs<2^250))||(decide (i.natAbs.log2<9000)&&decide (j.natAbs.log2<9000))))
noncomputable def asI:T→Option Int
 | .int i=>some i
 | _=>none
noncomputable def opN:BOp→Int→Int→Option PV
 | .add,i,j=>some (.fz (.int (i+j)))
 | .sub,i,j=>some (.fz (.int (i-j)))
 | .mul,i,j=>if Qbu i j=true then some (.fz (.int (i*j))) else none
 | .fdv,i,j=>if 0<j∧j.natAbs<2^64 then some (.fz (.int (i / j))) else if j≠0∧j.natAbs.log2<9000 then some (.fz (.int (i.fdiv j))) else none
 | .mod,i,j=>if 0<j then some (.fz (.int (i%j))) else if j<0 then some (.fz (.int (i.fmod j))) else none
 | .pow,i,j=>if 0≤j∧j.natAbs≤1000000∧i.natAbs<2^64 then some (.fz (.int (i^j.toNat))) else none
 | .shl,i,j=>if 0≤j∧j.natAbs≤64∧i.natAbs<2^64 then some (.fz (.int (i*2^j.toNat))) else none
 | .shr,i,j=>if 0≤j∧j.natAbs≤64 then some (.fz (.int (i / 2^j.toNat))) else none
 | .band,i,j=>if j=1 then some (.fz (.int (i%2))) else none
noncomputable def Q9y:T→T→Option PV
 | .tup a,.tup b=>if a.length+b.length≤100000 then some (.fz (.tup (a++b))) else none
 | .lst a,.lst b=>if a.length+b.length≤100000 then some (.ow (.lst (a++b))) else none
 | _,_=>none
noncomputable def Q9z:T→Option Int→Option PV
 | .tup a,some k=>if a.length*k.toNat≤100000∧1≤k∧k.natAbs≤100000∧a≠[] then some (.fz (.tup (List.replicate k.toNat a).flatten)) else none
 | .lst a,some k=>if a.length*k.toNat≤100000∧1≤k∧k.natAbs≤100000 then some (.ow (.lst (List.replicate k.toNat a).flatten)) else none
 | _,_=>none
noncomputable def opX:BOp→T→T→Option PV
 | .add,t,u=>Q9y t u
 | .mul,t,u=>Q9z t (asI u)
 | _,_,_=>none
noncomputable def opB (o:BOp) (t u:T):Option PV:=match asI t,asI u with
 | some i,some j=>opN o i j
 | _,_=>opX o t u
noncomputable def Qev:T→Bool
 | .non=>true | .bl _=>true | .int _=>true | .str _=>true | _=>false
noncomputable def scE:T→T→Option Bool
 | .int i,.int j=>some (decide (i=j))
 | .bl i,.bl j=>some (decide (i=j))
 | .str i,.str j=>some (decide (i=j))
 | .non,.non=>some true
 | .non,.int _=>some false | .int _,.non=>some false | .non,.bl _=>some false | .bl _,.non=>some false | .non,.str _=>some false | .str _,.non=>some false
 | .int _,.str _=>some false | .str _,.int _=>some false | .bl _,.str _=>some false | .str _,.bl _=>some false
 | _,_=>none
noncomputable def eqN (t u:T):Option Bool:=if (Qev t&&Qev u)=true then scE t u else if Qx7 t u=true then some false else none
noncomputable def eqO:T→T→Option Bool
 | .tup a,.tup b=>if Qq 50 (.tup a)=true∧Qq 50 (.tup b)=true then some (eqT (.tup a) (.tup b)) else none
 | .lst a,.lst b=>if Qq 50 (.lst a)=true∧Qq 50 (.lst b)=true then some (eqT (.lst a) (.lst b)) else none
 | t,u=>eqN t u
noncomputable def Qew:T→Bool
 | .non=>true
 | _=>false
noncomputable def Qx8 (f:Int→Int→Bool) (t u:T):Option Bool:=match asI t,asI u with
 | some i,some j=>some (f i j)
 | _,_=>none
noncomputable def Qej:T→Option (List T)
 | .lst a=>some a
 | .tup a=>some a
 | _=>none
noncomputable def inO (x t:T):Option Bool:=match Qej t with
 | some ts=>if Qq 49 x=true∧ts.all (Qq 49)=true then some (ts.any fun u=>eqT u x) else none
 | none=>none
noncomputable def opC:COp→T→T→Option Bool
 | .eq,a,b=>eqO a b
 | .ne,a,b=>(eqO a b).map (!·)
 | .lt,a,b=>Qx8 (fun i j=>decide (i<j)) a b
 | .le,a,b=>Qx8 (fun i j=>decide (i≤j)) a b
 | .gt,a,b=>Qx8 (fun i j=>decide (j<i)) a b
 | .ge,a,b=>Qx8 (fun i j=>decide (j≤i)) a b
 | .isn,a,b=>if Qew b then some (Qew a) else none
 | .isnn,a,b=>if Qew b then some (!Qew a) else none
 | .inn,a,b=>inO a b
 | .nin,a,b=>(inO a b).map (!·)
noncomputable def truT:T→Option Bool
 | .bl b=>some b
 | .int i=>some (decide (i≠0))
 | _=>none
noncomputable def Qhb:List T→Option (List Bool)
 | []=>some []
 | t::ts=>match truT t,Qhb ts with
  | some b,some bs=>some (b::bs)
  | _,_=>none
noncomputable def Qf9:List T→Option (List Int)
 | []=>some []
 | .int i::ts=>match Qf9 ts with
  | some is=>some (i::is)
  | none=>none
 | _::_=>none
noncomputable def Qmx:Int→List Int→Int
 | m,[]=>m
 | m,x::xs=>Qmx (if m<x then x else m) xs
noncomputable def Qmy:Int→List Int→Int
 | m,[]=>m
 | m,x::xs=>Qmy (if x<m then x else m) xs
noncomputable def Qg6:Bi→List T→Option PV
 | .len,[.lst a]=>some (.fz (.int a.length))
 | .len,[.tup a]=>some (.fz (.int a.length))
 | .abs,[.int i]=>some (.fz (.int (if i<0 then -i else i)))
 | .all,[.lst a]=>(Qhb a).map fun bs=>.fz (.bl (bs.all id))
 | .any,[.lst a]=>(Qhb a).map fun bs=>.fz (.bl (bs.any id))
 | .sum,[.lst a]=>(Qf9 a).map fun is=>.fz (.int is.sum)
 | .max,[.int i,.int j]=>some (.fz (.int (if j>i then j else i)))
 | .min,[.int i,.int j]=>some (.fz (.int (if j<i then j else i)))
 | .max,[.lst a]=>match Qf9 a with
  | some (x::xs)=>some (.fz (.int (Qmx x xs)))
  | _=>none
 | .min,[.lst a]=>match Qf9 a with
  | some (x::xs)=>some (.fz (.int (Qmy x xs)))
  | _=>none
 | .dvm,[.int i,.int j]=>if 0<j∧j.natAbs<2^64 then some (.fz (.tup [.int (i / j),.int (i%j)])) else none
 | .int,[.int i]=>some (.fz (.int i))
 | .int,[.bl b]=>some (.fz (.int (if b then 1 else 0)))
 | .list,[.lst a]=>some (.ow (.lst a))
 | .list,[.tup a]=>some (.ow (.lst a))
 | .tup,[.lst a]=>some (.fz (.tup a))
 | .tup,[.tup a]=>some (.fz (.tup a))
 | .dct,[.dtt [k] [t]]=>some (.ow (.dtt [k] [t]))
 | _,_=>none
noncomputable def Q0c:T→T→Option T
 | .lst a,.int i=>atI a i
 | .tup a,.int i=>atI a i
 | _,_=>none
noncomputable def Q35:T→Option Int→Option Int→Option PV
 | .lst a,lo,hi=>some (.ow (.lst (Qel a lo hi)))
 | .tup a,lo,hi=>some (.fz (.tup (Qel a lo hi)))
 | _,_,_=>none
noncomputable def Qjl:List PV→Option (Option Int)
 | []=>some none
 | [.fz (.int i)]=>some (some i)
 | _=>none
noncomputable def Qaa (ρ:En):List PV→Option (List T)
 | []=>some []
 | r::rs=>match cont ρ r,Qaa ρ rs with
  | some t,some ts=>some (t::ts)
  | _,_=>none
noncomputable def Qmz (n:String):Bool:=n == "int" || n == "bool" || n == "tuple" || n == "list" || n == "dict" || n == "str"
noncomputable def Q7 (ρ:En):PV→Option Arg
 | .fz t=>some (.fz t)
 | .ow t=>some (.fz t)
 | .sl i=>match Qb ρ i with
  | .ow t=>some (.ml t)
  | .ml t=>some (.ml t)
  | .ro t=>some (.ro t)
  | _=>none
noncomputable def Qt (ρ:En):List PV→Option (List Arg)
 | []=>some []
 | r::rs=>match Q7 ρ r,Qt ρ rs with
  | some t,some ts=>some (t::ts)
  | _,_=>none
noncomputable def Qs:List PV→Bool
 | []=>true
 | .sl i::rs=>(rs.all fun r=>match r with | .sl j=>i != j | _=>true)&&Qs rs
 | _::rs=>Qs rs
noncomputable def Qj:List PV→Nat→Option Nat
 | [],_=>none
 | .sl j::rs,i=>if j=i then some 0 else (Qj rs i).map (· + 1)
 | .fz _::rs,i=>(Qj rs i).map (· + 1)
 | .ow _::rs,i=>(Qj rs i).map (· + 1)
noncomputable def Qv (rs:List PV) (fin:List T) (i:Nat) (s:Slot):Slot:=match Qj rs i with
 | some k=>match fin[k]? with
  | some t=>s.put t
  | none=>s
 | none=>s
noncomputable def Qi (rs:List PV) (fin:List T):Nat→En→En
 | _,[]=>[]
 | i,s::ρ=>Qv rs fin i s::Qi rs fin (i+1) ρ
noncomputable def Qao (ρ:En) (rs:List PV) (fin:List T):En:=Qi rs fin 0 ρ
noncomputable def Qlf (cf:CF) (f:Nat) (rs:List PV) (ρ:En):Out PV :=
 if Qs rs=true then
  match Qt ρ rs with
  | some as=>match cf f as with
   | .ok r fin=>.ok r (Qao ρ rs fin)
   | .xn x fin=>.xn x (Qao ρ rs fin)
   | .no=>.no
  | none=>.no
 else .no
noncomputable def Qg0 (cf:CF) (f:Nat):List T→Option (List Int)
 | []=>some []
 | t::ts=>match cf f [.fz t],Qg0 cf f ts with
  | .ok (.fz (.int k)) _,some kz=>some (k::kz)
  | _,_=>none
noncomputable def Qr8 (p:Int×T):List (Int×T)→List (Int×T)
 | []=>[p]
 | q::l=>if q.1<p.1 then p::q::l else q::Qr8 p l
noncomputable def Qr9:List (Int×T)→List (Int×T)
 | []=>[]
 | p::l=>Qr8 p (Qr9 l)
noncomputable def Q36 (o:Option (List Int)) (ts:List T) (ρ:En):Out PV:=match o with
 | some kz=>if ts.length<64∧kz.Nodup then .ok (.ow (.lst ((Qr9 (kz.zip ts)).map (·.2)))) ρ else .no
 | none=>.no
noncomputable def Qbk (i:Nat) (s:Slot) (ρ:En):Option En:=if i<ρ.length then (match Qb ρ i with
 | .ml _=>none
 | .ro _=>none
 | .pin _=>none
 | .fx _=>none
 | _=>some (ρ.set i s)) else none
noncomputable def Qcz:List Nat→List T→En→Option En
 | [],[],ρ=>some ρ
 | i::is,t::ts,ρ=>match Qbk i (.fz t) ρ with
  | some ρ'=>Qcz is ts ρ'
  | none=>none
 | _,_,_=>none
noncomputable def Qeb:Tg→T→En→Option En
 | .nm i,t,ρ=>Qbk i (.fz t) ρ
 | .tp is,.tup ts,ρ=>Qcz is ts ρ
 | .tp _,_,_=>none
noncomputable def Qcp (js:List (Option Nat)) (ρ:En):En:=js.map fun o=>match o with
 | none=>.un
 | some j=>(Qb ρ j).lend
noncomputable def Qio (js:List (Option Nat)) (ρi:En) (j:Nat) (s:Slot):Slot:=match js.idxOf? (some j) with
 | some k=>match Qb ρi k with
  | .ml t=>s.put t
  | _=>s
 | none=>s
noncomputable def Qd6 (js:List (Option Nat)) (ρi:En):Nat→En→En
 | _,[]=>[]
 | j,s::ρ=>Qio js ρi j s::Qd6 js ρi (j+1) ρ
noncomputable def Qjm (js:List (Option Nat)) (ρi ρ:En):En:=Qd6 js ρi 0 ρ
noncomputable def Qdf (tg:Tg) (c:En→Out Bool) (e:En→Out PV):List T→List T→En→Out (List T)
 | [],acc,ρ=>.ok acc ρ
 | x::xs,acc,ρ=>match Qeb tg x ρ with
  | none=>.no
  | some ρ1=>(c ρ1).bind fun b ρ2=>if b then (e ρ2).bind fun r ρ3=>match frz r with
    | some t=>if acc.length<100000 then Qdf tg c e xs (acc++[t]) ρ3 else .no
    | none=>.no
   else Qdf tg c e xs acc ρ2
noncomputable def Qec:En→En→Bool
 | .ml _::ρ0,s::ρ=>(match s with | .ml _=>true | _=>false)&&Qec ρ0 ρ
 | _::ρ0,_::ρ=>Qec ρ0 ρ
 | [],[]=>true
 | _,_=>false
noncomputable def Qbx:List (Option Nat)→Bool
 | []=>true
 | some i::rs=>(rs.all fun r=>match r with | some j=>i != j | none=>true)&&Qbx rs
 | none::rs=>Qbx rs
noncomputable def Qay (o:Out PV):Out Bool:=o.bind fun r ρ=>match r with
 | .fz (.bl b)=>.ok b ρ
 | _=>.no
noncomputable def Qag (lo:Int) (n:Nat):List T:=(List.range n).map fun i=>T.int (lo+(i:Nat))
noncomputable def Q37:List T→List T→List T
 | x::xs,y::ys=>.tup [x,y]::Q37 xs ys
 | _,_=>[]
noncomputable def Qadw (o:Out PV):Out PV:=match o with
 | .ok r ρ=>.ok r ρ
 | _=>.no
noncomputable def Q90:Slot→Bool
 | .fz (.clo _ _)=>true
 | _=>false
noncomputable def appO (cf:CF) (i:Nat) (rs:List PV) (ρ:En):Out PV:=match Qb ρ i with
 | .fz (.clo k ts)=>Qadw (Qlf cf k (rs++ts.map PV.fz) ρ)
 | _=>.no
noncomputable def Qlv:PV→Option Nat
 | .sl i=>some i
 | _=>none
noncomputable def insT (ts:List T) (n:Nat) (t:T):List T:=ts.take n++t::ts.drop n
mutual
noncomputable def evE (cf:CF):E→En→Out PV
 | .var i,ρ=>match Qb ρ i with
  | .fz t=>.ok (.fz t) ρ
  | .un=>.no
  | .pin _=>.no
  | .fx t=>.ok (.fz t) ρ
  | _=>.ok (.sl i) ρ
 | .int i,ρ=>.ok (.fz (.int i)) ρ
 | .bl b,ρ=>.ok (.fz (.bl b)) ρ
 | .non,ρ=>.ok (.fz .non) ρ
 | .str x,ρ=>.ok (.fz (.str x)) ρ
 | .tup es,ρ=>(evA cf es ρ).bind fun rs ρ1=>match Qfj rs with
  | some ts=>if ts.length≤100000 then .ok (.fz (.tup ts)) ρ1 else .no
  | none=>.no
 | .lst es,ρ=>(evA cf es ρ).bind fun rs ρ1=>match Qfj rs with
  | some ts=>if ts.length≤100000 then .ok (.ow (.lst ts)) ρ1 else .no
  | none=>.no
 | .bin o a b,ρ=>(evE cf a ρ).bind fun ra ρ1=>(evE cf b ρ1).bind fun rb ρ2=>match cont ρ2 ra,cont ρ2 rb with
  | some x,some y=>.opt (opB o x y) ρ2
  | _,_=>.no
 | .neg a,ρ=>(evE cf a ρ).bind fun ra ρ1=>match ra with
  | .fz (.int i)=>.ok (.fz (.int (-i))) ρ1
  | _=>.no
 | .not a,ρ=>(Qay (evE cf a ρ)).bind fun b ρ1=>.ok (.fz (.bl (!b))) ρ1
 | .and a b,ρ=>(Qay (evE cf a ρ)).bind fun c ρ1=>if c then (Qay (evE cf b ρ1)).bind fun d ρ2=>.ok (.fz (.bl d)) ρ2 else .ok (.fz (.bl false)) ρ1
 | .or a b,ρ=>(Qay (evE cf a ρ)).bind fun c ρ1=>if c then .ok (.fz (.bl true)) ρ1 else (Qay (evE cf b ρ1)).bind fun d ρ2=>.ok (.fz (.bl d)) ρ2
 | .ite c a b,ρ=>(Qay (evE cf c ρ)).bind fun k ρ1=>if k then evE cf a ρ1 else evE cf b ρ1
 | .cmp o a b,ρ=>(evE cf a ρ).bind fun ra ρ1=>(evE cf b ρ1).bind fun rb ρ2=>match cont ρ2 ra,cont ρ2 rb with
  | some x,some y=>match opC o x y with
   | some k=>.ok (.fz (.bl k)) ρ2
   | none=>.no
  | _,_=>.no
 | .isI a n,ρ=>(evE cf a ρ).bind fun ra ρ1=>match cont ρ1 ra with
  | some t=>if Qmz n && !Qin t then .ok (.fz (.bl (Qmq (tyT t) n))) ρ1 else .no
  | none=>.no
 | .srk f e,ρ=>(evE cf e ρ).bind fun r ρ1=>match r with
  | .fz (.lst ts)=>Q36 (Qg0 cf f ts) ts ρ1
  | _=>.no
 | .call f es,ρ=>(evA cf es ρ).bind fun rs ρ1=>Qlf cf f rs ρ1
 | .bi b es,ρ=>(evA cf es ρ).bind fun rs ρ1=>match Qaa ρ1 rs with
  | some ts=>.opt (Qg6 b ts) ρ1
  | none=>.no
 | .cnt a b,ρ=>(evE cf a ρ).bind fun ra ρ1=>match ra with
  | .fz (.tup ts)=>(evE cf b ρ1).bind fun rb ρ2=>match rb,Qf9 ts with
   | .fz (.int j),some is=>.ok (.fz (.int (is.count j:Nat))) ρ2
   | _,_=>.no
  | _=>.no
 | .ix a i,ρ=>(evE cf a ρ).bind fun ra ρ1=>(evE cf i ρ1).bind fun rb ρ2=>match cont ρ2 ra,cont ρ2 rb with
  | some x,some y=>match Q0c x y with
   | some t=>.ok (.fz t) ρ2
   | none=>.no
  | _,_=>.no
 | .slc a lo hi,ρ=>(evE cf a ρ).bind fun ra ρ1=>(evA cf lo ρ1).bind fun rl ρ2=>match Qjl rl with
  | none=>.no
  | some l=>(evA cf hi ρ2).bind fun rh ρ3=>match Qjl rh with
   | none=>.no
   | some h=>match cont ρ3 ra with
    | some x=>.opt (Q35 x l h) ρ3
    | none=>.no
 | .comp w js tg cs e,ρ=>(evW cf w ρ).bind fun its ρ1=>match its.2 with
  | some _=>.no
  | none=>match Qdf tg (evC cf cs) (evE cf e) its.1 [] (Qcp js ρ1) with
   | .ok ts ρi=>if Qec (Qcp js ρ1) ρi=true∧Qbx js=true then .ok (.ow (.lst ts)) (Qjm js ρi ρ1) else .no
   | _=>.no
 | .compS i js tg cs e,ρ=>match (Qb ρ i).prv with
  | some (.lst ts)=>if js.all (fun j=>decide (j≠some i))=true then match Qdf tg (evC cf cs) (evE cf e) ts [] (Qcp js ρ) with
   | .ok us ρi=>if Qec (Qcp js ρ) ρi=true∧Qbx js=true then .ok (.ow (.lst us)) (Qjm js ρi ρ) else .no
   | _=>.no
   else .no
  | _=>.no
 | .lit t,ρ=>.ok (.fz t) ρ
 | .app i es,ρ=>if Q90 (Qb ρ i)=true then (evA cf es ρ).bind fun rs ρ1=>appO cf i rs ρ1 else .no
 | .bad,_=>.no
noncomputable def evA (cf:CF):Es→En→Out (List PV)
 | .nil,ρ=>.ok [] ρ
 | .cons e es,ρ=>(evE cf e ρ).bind fun r ρ1=>(evA cf es ρ1).bind fun rs ρ2=>.ok (r::rs) ρ2
noncomputable def evC (cf:CF):Es→En→Out Bool
 | .nil,ρ=>.ok true ρ
 | .cons e .nil,ρ=>Qay (evE cf e ρ)
 | .cons _ _,_=>.no
noncomputable def evW (cf:CF):W→En→Out (List T×Option Nat)
 | .seq e,ρ=>(evE cf e ρ).bind fun r ρ1=>match cont ρ1 r with
  | some t=>match Qej t with
   | some ts=>.ok (ts,Qlv r) ρ1
   | none=>.no
  | none=>.no
 | .rng1 a,ρ=>(evE cf a ρ).bind fun r ρ1=>match r with
  | .fz (.int j)=>if j.natAbs≤100000 then .ok (Qag 0 j.toNat,none) ρ1 else .no
  | _=>.no
 | .zip a b,ρ=>(evE cf a ρ).bind fun r ρ1=>(evE cf b ρ1).bind fun r2 ρ2=>match r,r2 with
  | .fz (.tup xs),.fz (.tup ys)=>.ok (Q37 xs ys,none) ρ2
  | .fz (.lst xs),.fz (.tup ys)=>.ok (Q37 xs ys,none) ρ2
  | .fz (.lst xs),.fz (.lst ys)=>.ok (Q37 xs ys,none) ρ2
  | _,_=>.no
end
noncomputable def SO.seq (o:SO) (k:En→SO):SO:=match o with
 | .nx ρ=>k ρ
 | o=>o
noncomputable def ofO {α:Type} (o:Out α) (k:α→En→SO):SO:=match o with
 | .ok a ρ=>k a ρ
 | .xn x ρ=>.xn x ρ
 | .no=>.no
noncomputable def Qah {α:Type} (o:Option α) (k:α→SO):SO:=match o with
 | some a=>k a
 | none=>.no
noncomputable def Qkn (c:En→Out Bool) (b:En→SO):Nat→En→SO
 | 0,_=>.no
 | n+1,ρ=>ofO (c ρ) fun k ρ1=>if k then (match b ρ1 with
   | .nx ρ2=>Qkn c b n ρ2
   | .ct ρ2=>Qkn c b n ρ2
   | .bk ρ2=>.nx ρ2
   | o=>o) else .nx ρ1
noncomputable def Qc0 (tg:Tg) (b:En→SO):List T→En→SO
 | [],ρ=>.nx ρ
 | x::xs,ρ=>match Qeb tg x ρ with
  | none=>.no
  | some ρ1=>match b ρ1 with
   | .nx ρ2=>Qc0 tg b xs ρ2
   | .ct ρ2=>Qc0 tg b xs ρ2
   | .bk ρ2=>.nx ρ2
   | o=>o
noncomputable def unE (i:Nat) (ρ:En):Option En:=match Qb ρ i with
 | .ro t=>some (ρ.set i (.ow t))
 | _=>none
noncomputable def unl (i:Nat):SO→SO
 | .nx ρ=>Qah (unE i ρ) .nx
 | .rt (.fz t) ρ=>Qah (unE i ρ) (.rt (.fz t))
 | _=>.no
noncomputable def Qpg (o:SO):SO:=match o with
 | .xn _ _=>.no
 | o=>o
noncomputable def Qoq (i:Nat) (r:PV) (ρ:En):SO:=match r with
 | .fz t=>Qah (Qbk i (.fz t) ρ) .nx
 | .ow t=>Qah (Qbk i (.ow t) ρ) .nx
 | .sl _=>.no
noncomputable def isRf:T→Bool
 | .tup _=>true
 | .lst _=>true
 | _=>false
noncomputable def flaT:T→Bool
 | .int _=>true
 | .bl _=>true
 | .str _=>true
 | .non=>true
 | _=>false
noncomputable def Qor:T→Bool
 | .tup ts=>ts.all flaT
 | t=>flaT t
noncomputable def Qx9:T→Bool
 | .tup ts=>!ts.all flaT
 | .lst _=>true
 | _=>false
noncomputable def lkS:Slot→Slot
 | .fz t=>if Qx9 t=true then .fx t else .fz t
 | s=>s
noncomputable def Qko:Slot→Bool
 | .un=>true
 | .fz t=>isRf t||flaT t
 | .pin _=>true
 | .ml _=>true
 | _=>false
noncomputable def Q38:T→Bool
 | .lst ts=>ts.all flaT
 | _=>false
noncomputable def Q39:Slot→Bool
 | .fx _=>true
 | _=>false
noncomputable def lkB:Slot→Slot→Slot
 | .ml _,.ml t=>if Q38 t=true then .ml t else .un
 | .ml _,.fx _=>.un
 | s0,.fx _=>s0
 | _,.fz t=>if Qor t=true then .fz t else .un
 | _,.pin a=>.pin a
 | _,_=>.un
noncomputable def lkO (i:Nat) (ρ:En):SO→SO
 | .nx ρ1=>if Q39 (Qb ρ1 i)=true∧ρ1.length=ρ.length then .nx (List.zipWith lkB ρ ρ1) else .no
 | .rt (.fz (.bl b)) ρ1=>.rt (.fz (.bl b)) (ρ1.map fun _=>.un)
 | _=>.no
noncomputable abbrev Q60 (is:List Int):T:=.lst (is.map T.int)
noncomputable abbrev Q61 (M:List (List Int)):T:=.lst (M.map Q60)
noncomputable def exS (cf:CF):S→En→SO
 | .nil,ρ=>.nx ρ
 | .seq a b,ρ=>(exS cf a ρ).seq (exS cf b)
 | .expr e,ρ=>ofO (evE cf e ρ) fun _ ρ1=>.nx ρ1
 | .set i e,ρ=>ofO (evE cf e ρ) fun r ρ1=>Qoq i r ρ1
 | .setF i e,ρ=>ofO (evE cf e ρ) fun r ρ1=>match frz r with
  | some t=>Qah (Qbk i (.fz t) ρ1) .nx
  | none=>.no
 | .unp is e,ρ=>ofO (evE cf e ρ) fun r ρ1=>match r with
  | .fz (.tup ts)=>Qah (Qcz is ts ρ1) .nx
  | _=>.no
 | .unl is e,ρ=>ofO (evE cf e ρ) fun r ρ1=>match r with
  | .fz (.lst ts)=>Qah (Qcz is ts ρ1) .nx
  | _=>.no
 | .par i j a b,ρ=>ofO (evE cf a ρ) fun ra ρ1=>ofO (evE cf b ρ1) fun rb ρ2=>match ra,rb with
  | .fz x,.fz y=>Qah (Qcz [i,j] [x,y] ρ2) .nx
  | _,_=>.no
 | .app i e,ρ=>if (Qb ρ i).mut=true then ofO (evE cf e ρ) fun r ρ1=>match frz r with
   | none=>.no
   | some t=>match Qb ρ1 i with
    | .ow (.lst ts)=>if ts.length<100000 then .nx (ρ1.set i (.ow (.lst (ts++[t])))) else .no
    | .ml (.lst ts)=>if ts.length<100000 then .nx (ρ1.set i (.ml (.lst (ts++[t])))) else .no
    | _=>.no
  else .no
 | .ext i e,ρ=>if (Qb ρ i).mut=true then ofO (evE cf e ρ) fun r ρ1=>match r with
   | .fz (.tup us)=>match Qb ρ1 i with
    | .ow (.lst ts)=>if ts.length+us.length≤100000 then .nx (ρ1.set i (.ow (.lst (ts++us)))) else .no
    | .ml (.lst ts)=>if ts.length+us.length≤100000 then .nx (ρ1.set i (.ml (.lst (ts++us)))) else .no
    | _=>.no
   | _=>.no
  else .no
 | .put i k e,ρ=>ofO (evE cf e ρ) fun r ρ1=>match frz r with
  | none=>.no
  | some t=>if (Qb ρ1 i).mut=true then ofO (evE cf k ρ1) fun rk ρ2=>match rk with
    | .fz (.int j)=>match Qb ρ2 i with
     | .ow (.lst ts)=>Qah (ixN ts.length j) fun n=>.nx (ρ2.set i (.ow (.lst (ts.set n t))))
     | .ml (.lst ts)=>Qah (ixN ts.length j) fun n=>.nx (ρ2.set i (.ml (.lst (ts.set n t))))
     | _=>.no
    | _=>.no
   else .no
 | .look i b,ρ=>match Qb ρ i with
  | .ow (.lst ts)=>if (ρ.set i .un).all Qko=true then lkO i ρ (exS cf b ((ρ.set i (.fz (.lst ts))).map lkS)) else .no
  | _=>.no
 | .ret e,ρ=>ofO (evE cf e ρ) fun r ρ1=>.rt r ρ1
 | .ite c a b,ρ=>ofO (Qay (evE cf c ρ)) fun k ρ1=>if k then exS cf a ρ1 else exS cf b ρ1
 | .whl c b,ρ=>Qpg (Qkn (fun ρ=>Qay (evE cf c ρ)) (exS cf b) 1000000 ρ)
 | .for_ w tg b,ρ=>Qpg (ofO (evW cf w ρ) fun its ρ1=>match its.2 with
  | some _=>.no
  | none=>Qc0 tg (exS cf b) its.1 ρ1)
 | .brk,ρ=>.bk ρ
 | .cnt,ρ=>.ct ρ
 | .frz i,ρ=>match Qb ρ i with
  | .ow t=>.nx (ρ.set i (.fz t))
  | .ml _=>.no
  | .ro _=>.no
  | _=>.nx ρ
 | .ins i k e,ρ=>if (Qb ρ i).mut=true then ofO (evE cf k ρ) fun rk ρ1=>match rk with
   | .fz (.int j)=>ofO (evE cf e ρ1) fun r ρ2=>match r with
    | .fz t=>match Qb ρ2 i with
     | .ow (.lst ts)=>if ts.length<100000∧0≤j∧j≤ts.length then .nx (ρ2.set i (.ow (.lst (insT ts j.toNat t)))) else .no
     | _=>.no
    | _=>.no
   | _=>.no
  else .no
 | .bad,_=>.no
structure Fn where
 ps:Nat
 sz:Nat
 body:S
noncomputable def Qfk (fn:Fn) (as:List Arg):En:=(as.map fun a=>match a with
 | .fz t=>Slot.fz t
 | .ml t=>.ml t
 | .ro t=>.ro t)++List.replicate (fn.sz-fn.ps) .un
noncomputable def Q2:List Arg→En→Option (List T)
 | [],_=>some []
 | .ml _::as,.ml t::ρ=>(Q2 as ρ).map (t :: ·)
 | .ml _::_,_=>none
 | .fz _::as,_::ρ=>(Q2 as ρ).map (.non :: ·)
 | .ro _::as,_::ρ=>(Q2 as ρ).map (.non :: ·)
 | _,[]=>none
noncomputable def Qar (ρ:En):PV→Option PV
 | .fz t=>some (.fz t)
 | .ow t=>some (.ow t)
 | .sl i=>match Qb ρ i with
  | .ow t=>some (.ow t)
  | _=>none
noncomputable def Qbg (cf:CF) (fn:Fn) (as:List Arg):FR :=
 if as.length=fn.ps then match exS cf fn.body (Qfk fn as) with
  | .nx ρ=>match Q2 as ρ with
   | some fin=>.ok (.fz .non) fin
   | none=>.no
  | .rt r ρ=>match Qar ρ r,Q2 as ρ with
   | some r,some fin=>.ok r fin
   | _,_=>.no
  | .xn x ρ=>match Q2 as ρ with
   | some fin=>.xn x fin
   | none=>.no
  | _=>.no
 else .no
noncomputable def evF (tab:Nat→Option Fn):Nat→CF
 | 0,_,_=>.no
 | n+1,f,as=>match tab f with
  | some fn=>Qbg (evF tab n) fn as
  | none=>.no
structure Bs where
 H:Hp
 G:Addr→Prop
 O:Addr→Prop
 M:Addr→Prop
 P:Nat→Addr→Prop
noncomputable def OwnO (D:Hp):T→HO→Prop
 | .lst ts,.lst vs=>ts.length≤100000∧IsL D vs ts
 | .dtt ks ts,.dT kvs=>ks.length≤100000∧∃ vs,kvs=(ks.map kIs).zip vs∧ks.length=vs.length∧IsL D vs ts
 | _,_=>False
theorem OwnO.mono {D D':Hp} {t:T} {o:HO} (h:OwnO D t o) (s:Same D D'):OwnO D' t o:=by
 cases t with
 | lst ts=>cases o <;> first | exact ⟨h.1,h.2.mono s⟩ | exact h.elim
 | dtt ks ts =>
  cases o with
  | dT kvs=>obtain ⟨z,vs,e,l,q⟩:=h;exact ⟨z,vs,e,l,q.mono s⟩
  | _=>exact h.elim
 | _=>cases o <;> exact h.elim
theorem OwnO.pen {D:Hp} {t:T} {o:HO} (h:OwnO D t o):Q9r o=true:=by
 cases t with
 | lst ts=>cases o <;> first | rfl | exact h.elim
 | dtt ks ts=>cases o <;> first | rfl | exact h.elim
 | _=>cases o <;> exact h.elim
theorem OwnO.is {D D':Hp} {t:T} {o:HO} {a:Addr} (h:OwnO D t o) (e:D' a=some o) (s:Same D D'):Is D' (.ref a) t:=by
 cases t with
 | lst ts =>
  cases o with
  | lst vs=>exact .lst e (h.2.mono s) h.1
  | _=>exact h.elim
 | dtt ks ts =>
  cases o with
  | dT kvs =>
   obtain ⟨z,vs,rfl,l,q⟩:=h
   unfold Is
   exact ⟨z,a,vs,rfl,e,l,q.mono s⟩
  | _=>exact h.elim
 | _=>cases o <;> exact h.elim
noncomputable def OwnAt (H:Hp) (G:Addr→Prop) (a:Addr) (t:T):Prop:=∃ o,H a=some o∧OwnO (dls H G) t o
theorem OwnAt.lst_inv {H:Hp} {G:Addr→Prop} {a:Addr} {ts:List T} (h:OwnAt H G a (.lst ts)):∃ vs,ts.length≤100000∧H a=some (.lst vs)∧IsL (dls H G) vs ts:=by
 obtain ⟨o,e,q⟩:=h
 cases o with
 | lst vs=>exact ⟨vs,q.1,e,q.2⟩
 | _=>exact q.elim
theorem OwnAt.no_tup {H:Hp} {G:Addr→Prop} {a:Addr} {ts:List T} (h:OwnAt H G a (.tup ts)):False:=by
 obtain ⟨o,e,q⟩:=h
 cases o <;> exact q
noncomputable def Qm0 (H:Hp) (G:Addr→Prop) (σ:St) (i:Nat):Slot→Prop
 | .un=>True
 | .fz t=>∃ v,σ[i]?=some (some v)∧Is (dls H G) v t
 | .ow t=>∃ a,σ[i]?=some (some (.ref a))∧G a∧OwnAt H G a t
 | .ml t=>∃ a,σ[i]?=some (some (.ref a))∧G a∧OwnAt H G a t
 | .ro t=>∃ a,σ[i]?=some (some (.ref a))∧G a∧OwnAt H G a t
 | .pin a=>σ[i]?=some (some (.ref a))
 | .fx t=>∃ a o,σ[i]?=some (some (.ref a))∧dls H G a=some o∧Is (dls H G) (.ref a) t
noncomputable def PrvAt (σ:St) (ρ:En) (i:Nat) (a:Addr):Prop:=(∃ t,(Qb ρ i).prv=some t)∧σ[i]?=some (some (.ref a))
noncomputable def OwA (σ:St) (ρ:En) (a:Addr):Prop:=∃ i t,Qb ρ i=.ow t∧σ[i]?=some (some (.ref a))
noncomputable def MlA (σ:St) (ρ:En) (a:Addr):Prop:=∃ i t,Qb ρ i=.ml t∧σ[i]?=some (some (.ref a))
noncomputable def PnA (σ:St) (ρ:En) (i:Nat) (a:Addr):Prop:=(∃ t,Qb ρ i=.ml t∨Qb ρ i=.ro t∨Qb ρ i=.fx t)∧σ[i]?=some (some (.ref a))
structure FI (B:Bs) (H:Hp) (G:Addr→Prop) (σ:St) (ρ:En):Prop where
 len:σ.length=ρ.length
 slot:∀ i,Qm0 H G σ i (Qb ρ i)
 apart:∀ i j a,PrvAt σ ρ i a→PrvAt σ ρ j a→i=j
 prv:Pen H G
 chg:∀ b o,¬ B.O b→¬ B.M b→B.H b=some o→H b=some o
 keep:∀ b o,B.H b=some o→∃ o',H b=some o'
 newO:∀ a,OwA σ ρ a→B.H a=none∨B.O a
 newM:∀ a,MlA σ ρ a→B.M a
 fix:∀ i a,PnA σ ρ i a→B.P i a
 gg:∀ b,B.G b→G b
 gn:∀ b,G b→B.G b∨B.H b=none
 bp:∀ b,B.G b→∃ o,B.H b=some o
noncomputable abbrev Qaz (H:Hp) (G:Addr→Prop) (σ:St) (ρ:En):Bs:=⟨H,G,OwA σ ρ,MlA σ ρ,PnA σ ρ⟩
section
variable {B:Bs} {H H1 H2:Hp} {G G1:Addr→Prop} {σ σ1:St} {ρ ρ1 ρ2:En}
theorem FI.self (F:FI B H G σ ρ):FI (Qaz H G σ ρ) H G σ ρ :=
 ⟨F.len,F.slot,F.apart,F.prv,fun _ _ _ _ e=>e,fun _ o e=>⟨o,e⟩,fun _ h=>.inr h,fun _ h=>h,fun _ _ h=>h,fun _ h=>h,fun _ h=>.inl h,fun b h=>let ⟨xs,e,_⟩:=F.prv b h;⟨_,e⟩⟩
theorem FI.ownG (F:FI B H G σ ρ) {a:Addr} (h:OwA σ ρ a):G a:=by
 obtain ⟨i,t,e,s⟩:=h
 have q:=F.slot i
 rw [e] at q
 obtain ⟨b,hb,g,_⟩:=q
 rw [s] at hb
 cases hb
 exact g
theorem FI.mlG (F:FI B H G σ ρ) {a:Addr} (h:MlA σ ρ a):G a:=by
 obtain ⟨i,t,e,s⟩:=h
 have q:=F.slot i
 rw [e] at q
 obtain ⟨b,hb,g,_⟩:=q
 rw [s] at hb
 cases hb
 exact g
theorem FI.same (F0:FI B H G σ ρ) (F:FI (Qaz H G σ ρ) H1 G1 σ1 ρ1):Same (dls H G) (dls H1 G1):=fun b o e=>by
 obtain ⟨n,e⟩:=Qan e
 have e1:=F.chg b o (fun z=>n (F0.ownG z)) (fun z=>n (F0.mlG z)) e
 rw [Qb9 fun z=>?_]
 ·exact e1
 ·rcases F.gn b z with z | z
  ·exact n z
  ·rw [show H b=none from z] at e;cases e
theorem FI.trans (F0:FI B H G σ ρ) (F:FI (Qaz H G σ ρ) H1 G1 σ1 ρ1):FI B H1 G1 σ1 ρ1 where
 len:=F.len
 slot:=F.slot
 apart:=F.apart
 prv:=F.prv
 chg:=fun b o h1 h2 e=>F.chg b o (fun z=>by
  rcases F0.newO b z with z | z
  ·rw [e] at z;cases z
  ·exact h1 z) (fun z=>h2 (F0.newM b z)) (F0.chg b o h1 h2 e)
 keep:=fun b o e=>by
  obtain ⟨o1,e1⟩:=F0.keep b o e
  exact F.keep b o1 e1
 newO:=fun a h=>by
  rcases F.newO a h with z | z
  ·refine .inl ?_
   cases e:B.H a with
   | none=>rfl
   | some o =>
    obtain ⟨o1,e1⟩:=F0.keep a o e
    rw [show H a=none from z] at e1
    cases e1
  ·exact F0.newO a z
 newM:=fun a h=>F0.newM a (F.newM a h)
 fix:=fun i a h=>F0.fix i a (F.fix i a h)
 gg:=fun b h=>F.gg b (F0.gg b h)
 gn:=fun b h=>by
  rcases F.gn b h with z | z
  ·exact F0.gn b z
  ·refine .inr ?_
   cases e:B.H b with
   | none=>rfl
   | some o =>
    obtain ⟨o1,e1⟩:=F0.keep b o e
    rw [show H b=none from z] at e1
    cases e1
 bp:=F0.bp
theorem FI.free (F:FI B H G σ ρ) {b:Addr} (h:H b=none):B.H b=none:=by
 cases e:B.H b with
 | none=>rfl
 | some o =>
  obtain ⟨o1,e1⟩:=F.keep b o e
  rw [h] at e1
  cases e1
theorem FI.grow (F:FI B H G σ ρ) (s:Same H H1):FI B H1 G σ ρ where
 len:=F.len
 slot:=fun i=>by
  have q:=F.slot i
  cases hs:Qb ρ i with
  | un=>trivial
  | fz t=>rw [hs] at q;obtain ⟨v,a,b⟩:=q;exact ⟨v,a,b.mono (Qbn s)⟩
  | ow t=>rw [hs] at q;obtain ⟨a,h1,h2,o,h5,h6⟩:=q;exact ⟨a,h1,h2,o,s _ _ h5,h6.mono (Qbn s)⟩
  | ml t=>rw [hs] at q;obtain ⟨a,h1,h2,o,h5,h6⟩:=q;exact ⟨a,h1,h2,o,s _ _ h5,h6.mono (Qbn s)⟩
  | ro t=>rw [hs] at q;obtain ⟨a,h1,h2,o,h5,h6⟩:=q;exact ⟨a,h1,h2,o,s _ _ h5,h6.mono (Qbn s)⟩
  | pin a=>rw [hs] at q;exact q
  | fx t=>rw [hs] at q;obtain ⟨v,o,a,e,b⟩:=q;exact ⟨v,o,a,Qbn s _ _ e,b.mono (Qbn s)⟩
 apart:=F.apart
 prv:=F.prv.mono s
 chg:=fun b o h1 h2 e=>s b o (F.chg b o h1 h2 e)
 keep:=fun b o e=>by
  obtain ⟨o1,e1⟩:=F.keep b o e
  exact ⟨o1,s _ _ e1⟩
 newO:=F.newO
 newM:=F.newM
 fix:=F.fix
 gg:=F.gg
 gn:=F.gn
 bp:=F.bp
end
section
variable {B:Bs} {H H1 H2:Hp} {G G1:Addr→Prop} {σ σ1:St} {ρ ρ1 ρ2:En} {t:T}
theorem FI.prvAt (F:FI B H G σ ρ) {i:Nat} (e:(Qb ρ i).prv=some t):∃ a,σ[i]?=some (some (.ref a))∧G a∧OwnAt H G a t:=by
 have q:=F.slot i
 cases hs:Qb ρ i with
 | un=>rw [hs] at e;cases e
 | fz t=>rw [hs] at e;cases e
 | ow t=>rw [hs] at e q;cases e;exact q
 | ml t=>rw [hs] at e q;cases e;exact q
 | ro t=>rw [hs] at e q;cases e;exact q
 | pin a=>rw [hs] at e;cases e
 | fx t=>rw [hs] at e;cases e
theorem Qiv {i:Nat} {s:Slot} (h:Qm0 H G σ i s) (sm:Same (dls H G) (dls H1 G1)) (hk:∀ a o,(∃ t,s.prv=some t)→σ[i]?=some (some (.ref a))→H a=some o→H1 a=some o∧G1 a):Qm0 H1 G1 σ i s:=by
 cases s with
 | un=>trivial
 | fz t=>obtain ⟨v,a,b⟩:=h;exact ⟨v,a,b.mono sm⟩
 | ow t=>obtain ⟨a,h1,h2,o,h5,h6⟩:=h;exact ⟨a,h1,(hk a _ ⟨_,rfl⟩ h1 h5).2,o,(hk a _ ⟨_,rfl⟩ h1 h5).1,h6.mono sm⟩
 | ml t=>obtain ⟨a,h1,h2,o,h5,h6⟩:=h;exact ⟨a,h1,(hk a _ ⟨_,rfl⟩ h1 h5).2,o,(hk a _ ⟨_,rfl⟩ h1 h5).1,h6.mono sm⟩
 | ro t=>obtain ⟨a,h1,h2,o,h5,h6⟩:=h;exact ⟨a,h1,(hk a _ ⟨_,rfl⟩ h1 h5).2,o,(hk a _ ⟨_,rfl⟩ h1 h5).1,h6.mono sm⟩
 | pin a=>exact h
 | fx t=>obtain ⟨v,o,a,e,b⟩:=h;exact ⟨v,o,a,sm _ _ e,b.mono sm⟩
theorem PrvAt.at (F:FI B H G σ ρ) {i:Nat} {a:Addr} (h:PrvAt σ ρ i a):G a∧∃ t,OwnAt H G a t:=by
 obtain ⟨⟨t,e⟩,s⟩:=h
 obtain ⟨b,sb,g,o⟩:=F.prvAt e
 rw [s] at sb
 cases sb
 exact ⟨g,t,o⟩
theorem OwA.prv {a:Addr} (h:OwA σ ρ a):∃ i,PrvAt σ ρ i a:=by
 obtain ⟨i,t,e,s⟩:=h
 exact ⟨i,⟨t,by rw [e];rfl⟩,s⟩
theorem MlA.prv {a:Addr} (h:MlA σ ρ a):∃ i,PrvAt σ ρ i a:=by
 obtain ⟨i,t,e,s⟩:=h
 exact ⟨i,⟨t,by rw [e];rfl⟩,s⟩
theorem Qya {i:Nat} {a:Addr} (h:PrvAt σ ρ i a):OwA σ ρ a∨MlA σ ρ a∨PnA σ ρ i a:=by
 obtain ⟨⟨t,e⟩,s⟩:=h
 cases hs:Qb ρ i with
 | un=>rw [hs] at e;cases e
 | fz t=>rw [hs] at e;cases e
 | ow t=>exact .inl ⟨i,t,hs,s⟩
 | ml t=>exact .inr (.inl ⟨i,t,hs,s⟩)
 | ro t=>exact .inr (.inr ⟨⟨t,.inr (.inl hs)⟩,s⟩)
 | pin a=>rw [hs] at e;cases e
 | fx t=>rw [hs] at e;cases e
theorem FI.reG (F:FI B H G σ ρ) (sm:Same (dls H G) (dls H1 G1)) (s:Same H H1) (hk:∀ i a,PrvAt σ ρ i a→G1 a) (hp:Pen H1 G1) (gg:∀ b,B.G b→G1 b) (gn:∀ b,G1 b→B.G b∨B.H b=none):FI B H1 G1 σ ρ where
 len:=F.len
 slot:=fun i=>Qiv (F.slot i) sm fun a o h1 h2 e=>⟨s _ _ e,hk i a ⟨h1,h2⟩⟩
 apart:=F.apart
 prv:=hp
 chg:=fun b o h1 h2 e=>s b o (F.chg b o h1 h2 e)
 keep:=fun b o e=>by
  obtain ⟨o1,e1⟩:=F.keep b o e
  exact ⟨o1,s _ _ e1⟩
 newO:=F.newO
 newM:=F.newM
 fix:=F.fix
 gg:=gg
 gn:=gn
 bp:=F.bp
theorem FI.lessG (F:FI B H G σ ρ) (Z:Addr→Prop) (hz:∀ b,Z b→B.H b=none∧∀ i,¬ PrvAt σ ρ i b):FI B H (fun b=>G b∧¬ Z b) σ ρ:=by
 refine F.reG (Qcy fun b h=>h.1) (Same.refl H) (fun i a h=>⟨(PrvAt.at F h).1,fun z=>(hz a z).2 i h⟩) (fun b h=>F.prv b h.1) (fun b h=>⟨F.gg b h,fun z=>?_⟩) fun b h=>F.gn b h.1
 obtain ⟨o,e⟩:=F.bp b h
 rw [(hz b z).1] at e
 cases e
theorem FI.addG (F:FI B H G σ ρ) {l:Addr} {vs:HO} (hl:H l=none) (s:Same H H1) (e:H1 l=some vs) (hpn:Q9r vs=true):FI B H1 (fun b=>G b∨b=l) σ ρ:=by
 refine F.reG (fun b o eb=>?_) s (fun i a h=>.inl (PrvAt.at F h).1) (fun b hb=>?_) (fun b h=>.inl (F.gg b h)) (fun b h=>?_)
 ·obtain ⟨nb,eb⟩:=Qan eb
  rw [Qb9 fun z=>?_]
  ·exact s b o eb
  ·rcases z with z | z
   ·exact nb z
   ·rw [z,hl] at eb;cases eb
 ·rcases hb with hb | hb
  ·exact F.prv.mono s b hb
  ·exact ⟨vs,hb ▸ e,hpn⟩
 ·rcases h with h | h
  ·exact F.gn b h
  ·exact .inr (h ▸ F.free hl)
end
noncomputable def TmpR (H0:Hp) (H:Hp) (G:Addr→Prop) (σ:St) (ρ:En) (v:V) (t:T):Prop:=∃ a,v=.ref a∧H0 a=none∧G a∧(∀ i,¬ PrvAt σ ρ i a)∧OwnAt H G a t
noncomputable def PVR (H0:Hp) (H:Hp) (G:Addr→Prop) (σ:St) (ρ:En) (v:V):PV→Prop
 | .fz t=>Is (dls H G) v t
 | .ow t=>TmpR H0 H G σ ρ v t
 | .sl i=>σ[i]?=some (some v)
section
variable {H0 H:Hp} {G:Addr→Prop} {σ:St} {ρ:En}
theorem PVR.is {v:V} {t:T} (h:PVR H0 H G σ ρ v (.fz t)):Is (dls H G) v t:=h
theorem pvI {i:Int}:PVR H0 H G σ ρ (.int i) (.fz (.int i)):=show Is (dls H G) (.int i) (.int i) from Is.int
theorem pvB {i:Bool}:PVR H0 H G σ ρ (.bl i) (.fz (.bl i)):=show Is (dls H G) (.bl i) (.bl i) from Is.bl
theorem pvN:PVR H0 H G σ ρ .non (.fz .non):=show Is (dls H G) .non .non from Is.non
end
noncomputable def Rdb (H:Hp) (G:Addr→Prop) (v:V) (t:T):Prop:=Is (dls H G) v t∨∃ a,v=.ref a∧OwnAt H G a t
theorem Rdb.is {H:Hp} {G:Addr→Prop} {v:V} {t:T} (h:Rdb H G v t):Is H v t:=by
 rcases h with h | ⟨a,rfl,o,e,q⟩
 ·exact h.mono (Qz1 _ _)
 ·exact q.is e (Qz1 _ _)
theorem Rdb.lst {H:Hp} {G:Addr→Prop} {v:V} {ts:List T} (h:Rdb H G v (.lst ts)):∃ a vs,v=.ref a∧ts.length≤100000∧H a=some (.lst vs)∧IsL (dls H G) vs ts:=by
 rcases h with h | ⟨a,rfl,q⟩
 ·obtain ⟨a,vs,rfl,e,r⟩:=h.lst_inv
  exact ⟨a,vs,rfl,h.lst_len,(Qan e).2,r⟩
 ·obtain ⟨vs,z,h,r⟩:=q.lst_inv
  exact ⟨a,vs,rfl,z,h,r⟩
theorem Rdb.tup {H:Hp} {G:Addr→Prop} {v:V} {ts:List T} (h:Rdb H G v (.tup ts)):Is (dls H G) v (.tup ts):=by
 rcases h with h | ⟨a,_,q⟩
 ·exact h
 ·exact q.no_tup.elim
theorem Rdb.int {H:Hp} {G:Addr→Prop} {v:V} {i:Int} (h:Rdb H G v (.int i)):v=.int i:=h.is.int_inv
theorem Rdb.bl {H:Hp} {G:Addr→Prop} {v:V} {b:Bool} (h:Rdb H G v (.bl b)):v=.bl b:=by
 have q:=h.is
 unfold Is at q
 exact q
theorem Rdb.str {H:Hp} {G:Addr→Prop} {v:V} {b:Str} (h:Rdb H G v (.str b)):v=.str b:=by
 have q:=h.is
 unfold Is at q
 exact q
theorem Rdb.non {H:Hp} {G:Addr→Prop} {v:V} (h:Rdb H G v .non):v=.non:=by
 have q:=h.is
 unfold Is at q
 exact q
section
variable {B:Bs} {H H0 H1 H2:Hp} {G G1 G2:Addr→Prop} {σ σ1:St} {ρ ρ1 ρ2:En} {v:V} {r:PV} {t:T}
theorem PVR.rdb (h:PVR H0 H G σ ρ1 v r) (F:FI B H G σ ρ) (e:cont ρ r=some t):Rdb H G v t:=by
 cases r with
 | fz t=>cases e;exact .inl h
 | ow t =>
  cases e
  obtain ⟨a,rfl,_,_,_,q⟩:=h
  exact .inr ⟨a,rfl,q⟩
 | sl i =>
  obtain ⟨a,s,g,q⟩:=F.prvAt e
  have h:σ[i]?=some (some v):=h
  rw [s] at h
  cases h
  exact .inr ⟨a,rfl,q⟩
theorem OwnAt.mono {a:Addr} (h:OwnAt H G a t) (s:Same (dls H G) (dls H1 G1)) (e:∀ o,H a=some o→H1 a=some o):OwnAt H1 G1 a t:=by
 obtain ⟨o,h3,h4⟩:=h
 exact ⟨o,e _ h3,h4.mono s⟩
theorem FI.nobody (F0:FI B H G σ ρ) (F:FI (Qaz H G σ ρ) H1 G1 σ ρ1) {a:Addr} {o:HO} (e:H a=some o) (n:∀ i,¬ PrvAt σ ρ i a):∀ i,¬ PrvAt σ ρ1 i a:=fun i h=>by
 have h0:=h
 rcases Qya h with h | h | h
 ·rcases F.newO a h with z | z
  ·rw [show H a=none from z] at e;cases e
  ·obtain ⟨j,z⟩:=OwA.prv z;exact n j z
 ·obtain ⟨j,z⟩:=MlA.prv (F.newM a h);exact n j z
 ·obtain ⟨⟨t,z⟩,s⟩:=F.fix i a h
  have g1:=(PrvAt.at F h0).1
  rcases z with z | z | z
  ·exact n i ⟨⟨t,by rw [z];rfl⟩,s⟩
  ·exact n i ⟨⟨t,by rw [z];rfl⟩,s⟩
  ·have q:=F0.slot i
   rw [z] at q
   obtain ⟨b,o',sb,eb,_⟩:=q
   rw [s] at sb
   cases sb
   obtain ⟨ng,hb⟩:=Qan eb
   rcases F.gn a g1 with z | z
   ·exact ng z
   ·rw [show H a=none from z] at hb;cases hb
theorem PVR.step (h:PVR H0 H G σ ρ v r) (F0:FI B H G σ ρ) (F:FI (Qaz H G σ ρ) H1 G1 σ ρ1):PVR H0 H1 G1 σ ρ1 v r:=by
 cases r with
 | fz t=>exact Is.mono (F0.same F) h
 | sl i=>exact h
 | ow t =>
  obtain ⟨a,rfl,n,g,np,q⟩:=h
  have q':=q
  obtain ⟨ob,ea,_⟩:=q
  refine ⟨a,rfl,n,F.gg a g,F0.nobody F ea np,q'.mono (F0.same F) fun o e=>F.chg a o (fun z=>?_) (fun z=>?_) e⟩
  ·obtain ⟨j,z⟩:=OwA.prv z;exact np j z
  ·obtain ⟨j,z⟩:=MlA.prv z;exact np j z
theorem PVR.early (h:PVR H1 H2 G2 σ ρ2 v r) (F:FI (Qaz H G σ ρ) H1 G1 σ ρ1):PVR H H2 G2 σ ρ2 v r:=by
 cases r with
 | fz t=>exact h
 | sl i=>exact h
 | ow t =>
  obtain ⟨a,rfl,n,g⟩:=h
  exact ⟨a,rfl,F.free n,g⟩
end
noncomputable def argR (H:Hp) (dx:Option Addr):List Int→Prop
 | []=>dx=none
 | [i]=>∃ d,dx=some d∧H d=some (.xd [("at",.int i)])
 | [i,j]=>∃ d,dx=some d∧H d=some (.xd [("many",.int i),("most",.int j)])
 | _=>False
noncomputable def Q91 (mg:Str→Option Value) (H:Hp) (x:Xn) (cls:Value) (dx:Option Addr):Prop:=∃ nm,Quc[x.c]?=some nm∧cls=.ref (cad mg nm)∧argR H dx x.arg
structure Pr where
 cf:CF
 R:XR
 mg:Str→Option Value
noncomputable def Fin (p:Pr) (B:Bs) (σ:St) {α:Type} (o:Out α) (K:α→En→Prop):Prop:=match o with
 | .ok a ρ1=>K a ρ1
 | .xn x ρ1=>∀ cls dx H1 G1,FI B H1 G1 σ ρ1→Q91 p.mg H1 x cls dx→p.R cls dx σ H1
 | .no=>False
noncomputable def tE (p:Pr) (e:E):TE:=fun σ H Q=>∃ G ρ,FI (Qaz H G σ ρ) H G σ ρ∧Fin p (Qaz H G σ ρ) σ (evE p.cf e ρ) fun r ρ1=>∀ v H1 G1,FI (Qaz H G σ ρ) H1 G1 σ ρ1→PVR H H1 G1 σ ρ1 v r→Q v H1
inductive PVRs (H0:Hp) (H:Hp) (G:Addr→Prop) (σ:St) (ρ:En):List V→List PV→Prop where
 | nil:PVRs H0 H G σ ρ [] []
 | cons {v r vs rs}:PVR H0 H G σ ρ v r→PVRs H0 H G σ ρ vs rs→PVRs H0 H G σ ρ (v::vs) (r::rs)
noncomputable def tA (p:Pr) (es:Es):TA:=fun σ H Q=>∃ G ρ,FI (Qaz H G σ ρ) H G σ ρ∧Fin p (Qaz H G σ ρ) σ (evA p.cf es ρ) fun rs ρ1=>∀ vs H1 G1,FI (Qaz H G σ ρ) H1 G1 σ ρ1→PVRs H H1 G1 σ ρ1 vs rs→Q vs H1
noncomputable def tT (p:Pr) (e:E):TT:=fun σ H Q=>∃ G ρ,FI (Qaz H G σ ρ) H G σ ρ∧Fin p (Qaz H G σ ρ) σ (Qay (evE p.cf e ρ)) fun b ρ1=>∀ H1 G1,FI (Qaz H G σ ρ) H1 G1 σ ρ1→Q b H1
section
variable {p:Pr} {B:Bs} {H H0 H1 H2:Hp} {G G1:Addr→Prop} {σ:St} {ρ ρ1 ρ2:En} {α β:Type}
theorem Fin.bind {o:Out α} {k:α→En→Out β} {K:β→En→Prop} (h:Fin p B σ (o.bind k) K):Fin p B σ o fun a ρ1=>Fin p B σ (k a ρ1) K:=by
 cases o with
 | ok a ρ1=>exact h
 | xn x ρ1=>exact h
 | no=>exact h
theorem Fin.imp {o:Out α} {K K':α→En→Prop} (h:Fin p B σ o K) (q:∀ a ρ1,K a ρ1→K' a ρ1):Fin p B σ o K':=by
 cases o with
 | ok a ρ1=>exact q _ _ h
 | xn x ρ1=>exact h
 | no=>exact h
theorem Fin.rebase {o:Out α} {K K':α→En→Prop} (F:FI B H1 G σ ρ1) (h:Fin p B σ o K) (q:∀ a ρ2,K a ρ2→K' a ρ2):Fin p (Qaz H1 G σ ρ1) σ o K':=by
 cases o with
 | ok a ρ1=>exact q _ _ h
 | xn x ρ1=>exact fun cls dx H2 G2 F2=>h cls dx H2 G2 (F.trans F2)
 | no=>exact h
theorem Q0d {e:E} {Q:VK} {K:PV→En→Prop} (F:FI B H1 G σ ρ1) (h:Fin p B σ (evE p.cf e ρ1) K) (q:∀ r ρ2 v H2 G2,K r ρ2→FI B H2 G2 σ ρ2→FI (Qaz H1 G σ ρ1) H2 G2 σ ρ2→PVR H1 H2 G2 σ ρ2 v r→Q v H2):tE p e σ H1 Q :=
 ⟨G,ρ1,F.self,h.rebase F fun r ρ2 k v H2 G2 F2 pv=>q r ρ2 v H2 G2 k (F.trans F2) F2 pv⟩
theorem Qady {es:Es} {Q:List V→Hp→Prop} {K:List PV→En→Prop} (F:FI B H1 G σ ρ1) (h:Fin p B σ (evA p.cf es ρ1) K) (q:∀ r ρ2 v H2 G2,K r ρ2→FI B H2 G2 σ ρ2→FI (Qaz H1 G σ ρ1) H2 G2 σ ρ2→PVRs H1 H2 G2 σ ρ2 v r→Q v H2):tA p es σ H1 Q :=
 ⟨G,ρ1,F.self,h.rebase F fun r ρ2 k v H2 G2 F2 pv=>q r ρ2 v H2 G2 k (F.trans F2) F2 pv⟩
theorem Q0e {e:E} {Q:Bool→Hp→Prop} {K:Bool→En→Prop} (F:FI B H1 G σ ρ1) (h:Fin p B σ (Qay (evE p.cf e ρ1)) K) (q:∀ b ρ2 H2 G2,K b ρ2→FI B H2 G2 σ ρ2→FI (Qaz H1 G σ ρ1) H2 G2 σ ρ2→Q b H2):tT p e σ H1 Q :=
 ⟨G,ρ1,F.self,h.rebase F fun r ρ2 k H2 G2 F2=>q r ρ2 H2 G2 k (F.trans F2) F2⟩
theorem tE2 {a b:E} {f:PV→PV→En→Out β} {K:β→En→Prop} {Z:V→V→Hp→Prop} (F:FI (Qaz H G σ ρ) H G σ ρ) (h:Fin p (Qaz H G σ ρ) σ ((evE p.cf a ρ).bind fun ra ρ1=>(evE p.cf b ρ1).bind fun rb ρ2=>f ra rb ρ2) K)
  (q:∀ ra rb ρ2 x y H2 G2,FI (Qaz H G σ ρ) H2 G2 σ ρ2→PVR H H2 G2 σ ρ2 x ra→PVR H H2 G2 σ ρ2 y rb→Fin p (Qaz H G σ ρ) σ (f ra rb ρ2) K→Z x y H2):tE p a σ H fun x H1=>tE p b σ H1 fun y H2=>Z x y H2:=by
 refine ⟨G,ρ,F,h.bind.imp fun ra ρ1 h1 x H1 G1 F1 r1=>?_⟩
 refine Q0d F1 h1.bind fun rb ρ2 y H2 G2 h2 F2 F2' r2=>?_
 exact q ra rb ρ2 x y H2 G2 F2 (r1.step F1 F2') (r2.early F1) h2
theorem Qsa {o:Out PV} {K:Bool→En→Prop} (h:Fin p B σ (Qay o) K):Fin p B σ o fun r ρ1=>∃ b,r=.fz (.bl b)∧K b ρ1:=by
 cases o with
 | ok r ρ1 =>
  cases r with
  | fz t=>cases t <;> first | exact ⟨_,rfl,h⟩ | exact False.elim h
  | ow t=>exact False.elim h
  | sl i=>exact False.elim h
 | xn x ρ1=>exact h
 | no=>exact h
end
theorem QE.weak {X:Cx} {e:Expr} {t t':TE} (h:QE X e t) (q:∀ σ H Q,t' σ H Q→t σ H Q):QE X e t':=⟨h.h.weak q⟩
theorem QA.weak {X:Cx} {e:List Expr} {t t':TA} (h:QA X e t) (q:∀ σ H Q,t' σ H Q→t σ H Q):QA X e t':=⟨h.h.weak q⟩
theorem QT.weak {X:Cx} {e:Expr} {t t':TT} (h:QT X e t) (q:∀ σ H Q,t' σ H Q→t σ H Q):QT X e t':=⟨fun pins s σ H Q I z=>h.h pins s σ H Q I (q _ _ _ z)⟩
theorem QW.weak {X:Cx} {e:Expr} {t t':TT} (h:QW X e t) (q:∀ σ H Q,t' σ H Q→t σ H Q):QW X e t':=⟨fun wh pins s σ H Q I z=>h.h wh pins s σ H Q I (q _ _ _ z)⟩
section
variable {X:Cx} {p:Pr} {e a b:Expr} {es:List Expr} {e' a' b' c':E} {es':Es} {pos p1 p2 p3:Pos} {x:Str}
theorem Qadz {i:Nat} (hN:X.N[i]?=some x) (hv:Vis X.env.scope x) (hd:(x==("__debug__" : Str))=false) (hcd:(x==("__classdict__" : Str))=false):QE X (.Name x pos) (tE p (.var i)) :=
 (Qig i hN hv hd hcd).weak fun σ H Q zz1=>by
  obtain ⟨G,ρ,F,h⟩:=zz1
  have q:=F.slot i
  unfold evE at h
  cases hs:Qb ρ i with
  | un=>rw [hs] at h;exact False.elim h
  | pin _=>rw [hs] at h;exact False.elim h
  | fx t=>rw [hs] at h q;obtain ⟨v,o,e,_,r⟩:=q;exact ⟨_,e,h _ H G F r⟩
  | fz t=>rw [hs] at h q;obtain ⟨v,e,r⟩:=q;exact ⟨v,e,h v H G F r⟩
  | ow t=>rw [hs] at h q;obtain ⟨a,e,_⟩:=q;exact ⟨_,e,h _ H G F e⟩
  | ml t=>rw [hs] at h q;obtain ⟨a,e,_⟩:=q;exact ⟨_,e,h _ H G F e⟩
  | ro t=>rw [hs] at h q;obtain ⟨a,e,_⟩:=q;exact ⟨_,e,h _ H G F e⟩
theorem Q1 {i j}:QE X (.Constant (.int i) j pos) (tE p (.int i)):=Qr2.weak fun σ H Q zz1=>by obtain ⟨G,ρ,F,h⟩:=zz1;unfold evE at h;exact h _ H G F pvI
theorem Qjn {i j}:QE X (.Constant (.bool i) j pos) (tE p (.bl i)):=Q9a.weak fun σ H Q zz1=>by obtain ⟨G,ρ,F,h⟩:=zz1;unfold evE at h;exact h _ H G F pvB
theorem Qm1 {j}:QE X (.Constant .none j pos) (tE p .non):=Qacu.weak fun σ H Q zz1=>by obtain ⟨G,ρ,F,h⟩:=zz1;unfold evE at h;exact h _ H G F pvN
theorem Q92 {i:Int} (h:∃ u,X.mg x=some u∧RelV (.int i) u) (hg:Gl X x) (hd:(x==("__debug__" : Str))=false):QE X (.Name x pos) (tE p (.int i)) :=
 (Q9b h hg hd).weak fun σ H Q zz1=>by obtain ⟨G,ρ,F,h⟩:=zz1;unfold evE at h;exact h _ H G F pvI
theorem Qh:QA X [] (tA p .nil):=Qha.weak fun σ H Q zz1=>by obtain ⟨G,ρ,F,h⟩:=zz1;unfold evA at h;exact h [] H G F .nil
theorem PVRs.early {H H1 H2:Hp} {G G1 G2:Addr→Prop} {σ:St} {ρ ρ1 ρ2:En} {vs:List V} {rs:List PV} (h:PVRs H1 H2 G2 σ ρ2 vs rs) (F:FI (Qaz H G σ ρ) H1 G1 σ ρ1):PVRs H H2 G2 σ ρ2 vs rs:=by
 induction h with
 | nil=>exact .nil
 | cons a _ ih=>exact .cons (a.early F) ih
theorem Q93 (ha:QE X e (tE p e')) (hr:QA X es (tA p es')) (hs:Qam e=true):QA X (e::es) (tA p (.cons e' es')) :=
 (Qdt ha hr hs).weak fun σ H Q zz1=>by
  obtain ⟨G,ρ,F,h⟩:=zz1
  unfold evA at h
  refine ⟨G,ρ,F,h.bind.imp fun r ρ1 h1 v H1 G1 F1 r1=>?_⟩
  refine Qady F1 h1.bind fun rs ρ2 vs H2 G2 h2 F2 F2' r2=>?_
  exact h2 (v::vs) H2 G2 F2 (.cons (r1.step F1 F2') (r2.early F1))
noncomputable def Qm2:List V→List PV→Addr→Prop
 | v::vs,.ow _::rs,b=>v=.ref b∨Qm2 vs rs b
 | _::vs,_::rs,b=>Qm2 vs rs b
 | _,_,_=>False
theorem PVRs.tmp {H0 H:Hp} {G:Addr→Prop} {σ:St} {ρ:En} {vs:List V} {rs:List PV} (h:PVRs H0 H G σ ρ vs rs) {b:Addr} (z:Qm2 vs rs b):H0 b=none∧∀ i,¬ PrvAt σ ρ i b:=by
 induction h with
 | nil=>exact False.elim z
 | cons a _ ih =>
  rename_i v r vs rs _
  cases r with
  | fz t=>exact ih z
  | sl i=>exact ih z
  | ow t =>
   rcases z with z | z
   ·obtain ⟨c,e,n,_,np,_⟩:=a
    rw [z] at e
    cases e
    exact ⟨n,np⟩
   ·exact ih z
theorem PVRs.frz {H0 H:Hp} {G G':Addr→Prop} {σ:St} {ρ:En} {vs:List V} {rs:List PV} (h:PVRs H0 H G σ ρ vs rs) (s:∀ b,G' b→G b) (n:∀ b,Qm2 vs rs b→¬ G' b):∀ {ts:List T},Qfj rs=some ts→IsL (dls H G') vs ts:=by
 induction h with
 | nil=>intro ts e;cases e;exact .nil
 | cons a _ ih =>
  intro ts e
  rename_i v r vs rs _
  unfold Qfj at e
  cases h1:L2.frz r with
  | none=>rw [h1] at e;cases e
  | some t =>
   cases h2:Qfj rs with
   | none=>rw [h1,h2] at e;cases e
   | some us =>
    rw [h1,h2] at e
    cases e
    cases r with
    | sl i=>cases h1
    | fz t' =>
     cases h1
     exact .cons (Is.mono (Qcy s) a) (ih (fun b z=>n b z) h2)
    | ow t' =>
     cases h1
     obtain ⟨c,rfl,_,_,_,ob,ec,q⟩:=a
     exact .cons (q.is (by rw [Qb9 (n c (.inl rfl))];exact ec) (Qcy s)) (ih (fun b z=>n b (.inr z)) h2)
theorem PVRs.lay {B:Bs} {H:Hp} {G:Addr→Prop} {σ:St} {ρ:En} {vs:List V} {rs:List PV} {ts:List T} (h:PVRs B.H H G σ ρ vs rs) (F:FI B H G σ ρ) (e:Qfj rs=some ts):∃ G',FI B H G' σ ρ∧IsL (dls H G') vs ts∧∀ b,G' b→G b :=
 ⟨_,F.lessG (Qm2 vs rs) fun b z=>h.tmp z,h.frz (fun b z=>z.1) (fun b z y=>y.2 z) e,fun b z=>z.1⟩
theorem PVR.lay {B:Bs} {H:Hp} {G:Addr→Prop} {σ:St} {ρ:En} {v:V} {r:PV} {t:T} (h:PVR B.H H G σ ρ v r) (F:FI B H G σ ρ) (e:L2.frz r=some t):∃ G',FI B H G' σ ρ∧Is (dls H G') v t∧∀ b,G' b→G b:=by
 obtain ⟨G',F',i,s⟩:=PVRs.lay (.cons h .nil) F (ts:=[t]) (by unfold Qfj;rw [e];rfl)
 obtain ⟨v',w,e,a,_⟩:=i.cons_inv
 cases e
 exact ⟨G',F',a,s⟩
theorem Q62 {x1} (h:QA X es (tA p es')):QE X (.Tuple es x1 pos) (tE p (.tup es')) :=
 (Qac1 h).weak fun σ H Q zz1=>by
  obtain ⟨G,ρ,F,h⟩:=zz1
  unfold evE at h
  refine ⟨G,ρ,F,h.bind.imp fun rs ρ1 h1 vs H1 G1 F1 r1=>?_⟩
  cases e:Qfj rs with
  | none=>rw [e] at h1;exact False.elim h1
  | some ts =>
   rw [e] at h1
   by_cases z:ts.length≤100000
   ·simp only [if_pos z] at h1
    obtain ⟨G',F',r,_⟩:=PVRs.lay (B:=Qaz H G σ ρ) r1 F1 e
    refine Q9t F'.prv r z fun y H2 s2 i2=>h1 y H2 G' (F'.grow s2) i2
   ·simp only [if_neg z] at h1
    exact False.elim h1
theorem Q0f {B:Bs} {H H1:Hp} {G:Addr→Prop} {σ:St} {ρ:En} {l:Addr} {ob:HO} {t:T} (F:FI B H G σ ρ) (hl:H l=none) (s:Same H H1) (e:H1 l=some ob) (r:OwnO (dls H G) t ob) :
  FI B H1 (fun b=>G b∨b=l) σ ρ∧PVR B.H H1 (fun b=>G b∨b=l) σ ρ (.ref l) (.ow t):=by
 refine ⟨F.addG hl s e r.pen,l,rfl,F.free hl,.inr rfl,fun i h=>?_,ob,e,r.mono fun b o eb=>?_⟩
 ·obtain ⟨_,t,o,ea,_⟩:=PrvAt.at F h
  rw [hl] at ea
  cases ea
 ·obtain ⟨nb,eb⟩:=Qan eb
  rw [Qb9 fun z=>?_]
  ·exact s b o eb
  ·rcases z with z | z
   ·exact nb z
   ·rw [z,hl] at eb;cases eb
theorem Qga {B:Bs} {H H1:Hp} {G:Addr→Prop} {σ:St} {ρ:En} {l:Addr} {vs:List V} {ts:List T} (F:FI B H G σ ρ) (hl:H l=none) (s:Same H H1) (e:H1 l=some (.lst vs)) (r:IsL (dls H G) vs ts) (z:ts.length≤100000) :
  FI B H1 (fun b=>G b∨b=l) σ ρ∧PVR B.H H1 (fun b=>G b∨b=l) σ ρ (.ref l) (.ow (.lst ts)):=Q0f F hl s e ⟨z,r⟩
theorem Qm3 (h:QA X es (tA p es')):QE X (.List es pos) (tE p (.lst es')) :=
 (Q6p h).weak fun σ H Q zz1=>by
  obtain ⟨G,ρ,F,h⟩:=zz1
  unfold evE at h
  refine ⟨G,ρ,F,h.bind.imp fun rs ρ1 h1 vs H1 G1 F1 r1=>?_⟩
  cases e:Qfj rs with
  | none=>rw [e] at h1;exact False.elim h1
  | some ts =>
   rw [e] at h1
   by_cases z:ts.length≤100000
   ·simp only [if_pos z] at h1
    obtain ⟨G',F',r,_⟩:=PVRs.lay (B:=Qaz H G σ ρ) r1 F1 e
    refine Q9u F'.prv r z fun l H2 s2 n2 e2 i2=>?_
    obtain ⟨F2,r2⟩:=Qga F' n2 s2 e2 r z
    exact h1 _ H2 _ F2 r2
   ·simp only [if_neg z] at h1
    exact False.elim h1
theorem Qqm {B:Bs} {σ:St} {ρ:En} {α:Type} {o:Option α} {K:α→En→Prop} (h:Fin p B σ (.opt o ρ) K):∃ a,o=some a∧K a ρ:=by
 cases o with
 | none=>exact False.elim h
 | some a=>exact ⟨a,rfl,h⟩
theorem Q0g {B:Bs} {σ:St} {ρ:En} {α:Type} {ra rb:PV} {f:T→T→Out α} {K:α→En→Prop} (h:Fin p B σ (match cont ρ ra,cont ρ rb with | some x,some y=>f x y | _,_=>.no) K):∃ x y,cont ρ ra=some x∧cont ρ rb=some y∧Fin p B σ (f x y) K:=by
 cases h1:cont ρ ra with
 | none=>rw [h1] at h;exact False.elim h
 | some x =>
  cases h2:cont ρ rb with
  | none=>rw [h1,h2] at h;exact False.elim h
  | some y=>rw [h1,h2] at h;exact ⟨x,y,rfl,rfl,h⟩
noncomputable def Op2 (r:R2) (f:T→T→Option PV):Prop:=∀ (B:Bs) (H:Hp) (G:Addr→Prop) (σ:St) (ρ:En) (x y:V) (t u:T) (w:PV) (Q:VK),FI B H G σ ρ→Rdb H G x t→Rdb H G y u→f t u=some w→(∀ v H1 G1,FI B H1 G1 σ ρ→PVR B.H H1 G1 σ ρ v w→Q v H1)→r x y H Q
theorem Qph {op:Operator} {r:R2} {o:BOp} (ho:QOp X (binaryOp op) r) (hs:Op2 r (opB o)) (ha:QE X a (tE p a')) (hb:QE X b (tE p b')):QE X (.BinOp a op b pos) (tE p (.bin o a' b')) :=
 (q_op ho ha hb).weak fun σ H Q zz1=>by
  obtain ⟨G,ρ,F,h⟩:=zz1
  unfold evE at h
  refine tE2 F h fun ra rb ρ2 x y H2 G2 F2 r1 r2 h2=>?_
  obtain ⟨t,u,c1,c2,h3⟩:=Q0g h2
  obtain ⟨w,e,k⟩:=Qqm h3
  exact hs _ H2 G2 σ ρ2 x y t u w Q F2 (r1.rdb F2 c1) (r2.rdb F2 c2) e fun v H3 G3 F3 pv=>k v H3 G3 F3 pv
theorem Qe7 {t:T} {i:Int} (e:asI t=some i):t=.int i:=by
 cases t <;> first | (cases e;done) | skip
 cases e
 rfl
theorem Ql1 {o:BOp} {t u:T} {w:PV} (e:opB o t u=some w) (hx:∀ t u,opX o t u=none):∃ i j,t=.int i∧u=.int j∧opN o i j=some w:=by
 unfold opB at e
 cases h1:asI t with
 | none=>rw [h1] at e;exact absurd e (by simp [hx])
 | some i =>
  cases h2:asI u with
  | none=>rw [h1,h2] at e;exact absurd e (by simp [hx])
  | some j=>rw [h1,h2] at e;exact ⟨i,j,Qe7 h1,Qe7 h2,e⟩
theorem Qv4 {o:BOp} {t u:T} {w:PV} (e:opB o t u=some w):(∃ i j,t=.int i∧u=.int j∧opN o i j=some w)∨opX o t u=some w:=by
 unfold opB at e
 cases h1:asI t with
 | none=>rw [h1] at e;exact .inr e
 | some i =>
  cases h2:asI u with
  | none=>rw [h1,h2] at e;exact .inr e
  | some j=>rw [h1,h2] at e;exact .inl ⟨i,j,Qe7 h1,Qe7 h2,e⟩
theorem Q4a (K:PySem.W.Frag):Op2 (Qmp K) (opB .add):=by
 intro B H G σ ρ x y t u w Q F hx hy e q
 rcases Qv4 e with ⟨i,j,rfl,rfl,e⟩ | e1
 ·obtain rfl:=hx.int
  obtain rfl:=hy.int
  cases e
  exact .inl ⟨_,_,rfl,rfl,q _ H G F pvI⟩
 replace e:Q9y t u=some w:=e1
 clear e1
 unfold Q9y at e
 split at e
 ·rename_i ts us
  by_cases z:ts.length+us.length≤100000
  ·rw [if_pos z] at e;cases e
   exact Q9s F.prv hx.tup hy.tup z fun v H1 s1 i1=>q v H1 G (F.grow s1) i1
  ·rw [if_neg z] at e;cases e
 ·rename_i ts us
  by_cases z:ts.length+us.length≤100000
  ·rw [if_pos z] at e;cases e
   obtain ⟨a,vs,rfl,z1,ea,r1⟩:=hx.lst
   obtain ⟨b,ws,rfl,z2,eb,r2⟩:=hy.lst
   refine .inr (.inl ⟨a,b,vs,ws,rfl,rfl,ea,eb,Qct (by rw [r1.length,r2.length];exact z),fun l hl=>?_⟩)
   obtain ⟨F2,r3⟩:=Qga F hl (Same.upd hl) Q6 (r1.append r2) (by rw [length_append];exact z)
   exact q _ _ _ F2 r3
  ·rw [if_neg z] at e;cases e
 ·cases e
theorem Q4b:Op2 (rI0 fun i j=>.int (i-j)) (opB .sub):=by
 intro B H G σ ρ x y t u w Q F hx hy e q
 obtain ⟨i,j,rfl,rfl,e⟩:=Ql1 e fun _ _=>rfl
 obtain rfl:=hx.int
 obtain rfl:=hy.int
 cases e
 exact ⟨_,_,rfl,rfl,q _ H G F pvI⟩
theorem Qsb {i:Int} (h:i.natAbs<2^250):Builtin.Int.intBits i≤2^20:=by
 have h1:Builtin.Int.intBits i≤250:=by
  unfold Builtin.Int.intBits
  split
  ·exact Nat.zero_le _
  ·rename_i hn
   have h0:i.natAbs≠0:=by
    intro z
    exact hn (by simpa using z)
   have h2:i.natAbs.log2<250:=(Nat.log2_lt h0).mpr h
   omega
 exact Nat.le_trans h1 (by decide)
theorem Qsc {i:Int} (h:i.natAbs.log2<9000):Builtin.Int.intBits i≤2^20:=by
 have h1:Builtin.Int.intBits i≤9000:=by
  unfold Builtin.Int.intBits
  split
  ·exact Nat.zero_le _
  ·omega
 exact Nat.le_trans h1 (by decide)
theorem Q4c {i j:Int} (h:Qbu i j=true):IntMulOk i j:=by
 unfold Qbu at h
 simp only [Bool.or_eq_true,Bool.and_eq_true,decide_eq_true_eq] at h
 rcases h with h | h | ⟨h1,h2⟩ | ⟨h1,h2⟩
 ·exact CMul.ok (.inl ⟨by omega,by omega⟩)
 ·exact CMul.ok (.inr ⟨by omega,by omega⟩)
 ·exact .of_bits (Qsb h1) (Qsb h2)
 ·exact .of_bits (Qsc h1) (Qsc h2)
noncomputable def Q0h:R2:=fun x y H Q=>(rI (fun i j=>IntMulOk i j) fun i j=>.int (i*j)) x y H Q∨Q6m x y H Q
theorem Q94:QOp X (binaryOp .Mult) Q0h:=⟨(opI fun _ _ _ _ _ _ _ hc q=>mul_int q hc).or uMul⟩
theorem Q4d:Op2 Q0h (opB .mul):=by
 intro B H G σ ρ x y t u w Q F hx hy e q
 rcases Qv4 e with ⟨i,j,rfl,rfl,e⟩ | e1
 ·obtain rfl:=hx.int
  obtain rfl:=hy.int
  have e':(if Qbu i j=true then some (PV.fz (.int (i*j))) else none)=some w:=e
  by_cases z:Qbu i j=true
  ·rw [if_pos z] at e';cases e'
   exact .inl ⟨_,_,rfl,rfl,Q4c z,q _ H G F pvI⟩
  ·rw [if_neg z] at e';cases e'
 replace e:Q9z t (asI u)=some w:=e1
 clear e1
 unfold Q9z at e
 split at e
 ·rename_i ts k hk
  obtain rfl:=Qe7 hk
  obtain rfl:=hy.int
  by_cases z:ts.length*k.toNat≤100000∧1≤k∧k.natAbs≤100000∧ts≠[]
  ·rw [if_pos z] at e;cases e
   obtain ⟨a,vs,rfl,ha,r⟩:=hx.tup.tup_inv
   obtain ⟨z1,z2,z3,z4⟩:=z
   have hl:=r.length
   refine .inr (.inr (.inr ⟨a,k,vs,rfl,rfl,(Qan ha).2,fun e=>?_,z2,by omega,Qct (by rw [hl];exact z1),fun l H1 s1 e1 _=>q _ H1 G (F.grow s1) (Qhx (F.prv.mono s1) e1 ((r.flat k.toNat).mono (Qbn s1)) ?_)⟩))
   ·rw [e] at hl
    exact z4 (List.length_eq_zero_iff.mp hl.symm)
   ·rw [Qje,Nat.mul_comm];exact z1
  ·rw [if_neg z] at e;cases e
 ·rename_i ts k hk
  obtain rfl:=Qe7 hk
  obtain rfl:=hy.int
  by_cases z:ts.length*k.toNat≤100000∧1≤k∧k.natAbs≤100000
  ·rw [if_pos z] at e;cases e
   obtain ⟨a,vs,rfl,z1,ea,r1⟩:=hx.lst
   obtain ⟨z2,z3,z4⟩:=z
   refine .inr (.inr (.inl ⟨a,k,vs,rfl,rfl,ea,by omega,by omega,Qct (by rw [r1.length];exact z2),fun l hl=>?_⟩))
   obtain ⟨F2,r3⟩:=Qga F hl (Same.upd hl) Q6 (r1.flat k.toNat) (by rw [Qje,Nat.mul_comm];exact z2)
   exact q _ _ _ F2 r3
  ·rw [if_neg z] at e;cases e
 ·cases e
noncomputable def CDvF (i j:Int):Prop:=j≠0∧j.natAbs.log2<9000
theorem Q95:QOp X (binaryOp .FloorDiv) (rI CDvF fun i j=>.int (i.fdiv j)):=⟨opI fun i j _ _ _ _ _ hc q=>floordiv_int hc.1 q (.inl (PyProof.noPylong_of_log2 hc.2))⟩
theorem Q96:QOp X (binaryOp .Mod) (rI (fun _ j=>j≠0) fun i j=>.int (i.fmod j)):=⟨Q3b⟩
theorem Q4e:Op2 (rI CDvF fun i j=>.int (i.fdiv j)) (opB .fdv):=by
 intro B H G σ ρ x y t u w Q F hx hy e q
 obtain ⟨i,j,rfl,rfl,e⟩:=Ql1 e fun _ _=>rfl
 obtain rfl:=hx.int
 obtain rfl:=hy.int
 have e':(if 0<j∧j.natAbs<2^64 then some (PV.fz (.int (i / j))) else if j≠0∧j.natAbs.log2<9000 then some (.fz (.int (i.fdiv j))) else none)=some w:=e
 by_cases z:0<j∧j.natAbs<2^64
 ·rw [if_pos z] at e';cases e'
  refine ⟨_,_,rfl,rfl,⟨by omega,Nat.lt_trans ((Nat.log2_lt (show j.natAbs≠0 by omega)).mpr z.2) (by decide)⟩,?_⟩
  show Q (.int (i.fdiv j)) H
  rw [Int.fdiv_eq_ediv_of_nonneg i (by omega)]
  exact q _ H G F pvI
 ·rw [if_neg z] at e'
  by_cases z2:j≠0∧j.natAbs.log2<9000
  ·rw [if_pos z2] at e';cases e'
   exact ⟨_,_,rfl,rfl,z2,q _ H G F pvI⟩
  ·rw [if_neg z2] at e';cases e'
theorem Q4f:Op2 (rI (fun _ j=>j≠0) fun i j=>.int (i.fmod j)) (opB .mod):=by
 intro B H G σ ρ x y t u w Q F hx hy e q
 obtain ⟨i,j,rfl,rfl,e⟩:=Ql1 e fun _ _=>rfl
 obtain rfl:=hx.int
 obtain rfl:=hy.int
 have e':(if 0<j then some (PV.fz (.int (i%j))) else if j<0 then some (.fz (.int (i.fmod j))) else none)=some w:=e
 by_cases z:0<j
 ·rw [if_pos z] at e';cases e'
  refine ⟨_,_,rfl,rfl,by omega,?_⟩
  show Q (.int (i.fmod j)) H
  rw [Int.fmod_eq_emod_of_nonneg i (by omega)]
  exact q _ H G F pvI
 ·rw [if_neg z] at e'
  by_cases z2:j<0
  ·rw [if_pos z2] at e';cases e'
   exact ⟨_,_,rfl,rfl,by omega,q _ H G F pvI⟩
  ·rw [if_neg z2] at e';cases e'
theorem Q4g:Op2 (rI Q8i fun i j=>.int (i^j.toNat)) (opB .pow):=by
 intro B H G σ ρ x y t u w Q F hx hy e q
 obtain ⟨i,j,rfl,rfl,e⟩:=Ql1 e fun _ _=>rfl
 obtain rfl:=hx.int
 obtain rfl:=hy.int
 have e':(if 0≤j∧j.natAbs≤1000000∧i.natAbs<2^64 then some (PV.fz (.int (i^j.toNat))) else none)=some w:=e
 by_cases z:0≤j∧j.natAbs≤1000000∧i.natAbs<2^64
 ·rw [if_pos z] at e';cases e'
  exact ⟨_,_,rfl,rfl,⟨z.1,by omega,z.2.2⟩,q _ H G F pvI⟩
 ·rw [if_neg z] at e';cases e'
theorem Qsd (ha:QE X a (tE p a')):QE X (.UnaryOp .USub a pos) (tE p (.neg a')) :=
 (q_un Qac7 ha).weak fun σ H Q zz1=>by
  obtain ⟨G,ρ,F,h⟩:=zz1
  unfold evE at h
  refine ⟨G,ρ,F,h.bind.imp fun r ρ1 h1 v H1 G1 F1 r1=>?_⟩
  cases r with
  | fz t =>
   cases t <;> first | exact False.elim h1 | skip
   obtain rfl:=r1.is.int_inv
   exact ⟨_,rfl,h1 _ H1 G1 F1 pvI⟩
  | ow t=>exact False.elim h1
  | sl i=>exact False.elim h1
theorem PVR.bl {H0 H:Hp} {G:Addr→Prop} {σ:St} {ρ:En} {v:V} {b:Bool} (h:PVR H0 H G σ ρ v (.fz (.bl b))):v=.bl b:=by
 have q:=h.is
 unfold Is at q
 exact q
theorem Qv5 {Q:Bool→Hp→Prop} {σ:St} {H:Hp} (h:tT p e' σ H Q):tE p e' σ H fun x H1=>∃ c,x=.bl c∧Q c H1:=by
 obtain ⟨G,ρ,F,h⟩:=h
 refine ⟨G,ρ,F,(Qsa h).imp ?_⟩
 rintro r ρ1 ⟨b,rfl,k⟩ v H1 G1 F1 r1
 exact ⟨b,r1.bl,k H1 G1 F1⟩
theorem Q63 (ha:QE X a (tE p a')):QE X (.UnaryOp .Not a pos) (tE p (.not a')) :=
 (Qacw ha).weak fun σ H Q zz1=>by
  obtain ⟨G,ρ,F,h⟩:=zz1
  unfold evE at h
  exact Qv5 (Q:=fun c H1=>Q (.bl (!c)) H1) ⟨G,ρ,F,h.bind.imp fun b ρ1 k H1 G1 F1=>k _ H1 G1 F1 pvB⟩
theorem Qm4 {rest:List Expr} (ha:QE X a (tE p a')) (hb:QE X (.BoolOp .And (b::rest) pos) (tE p b')):QE X (.BoolOp .And (a::b::rest) pos) (tE p (.and a' b')) :=
 (Qacy ha hb).weak fun σ H Q zz1=>by
  obtain ⟨G,ρ,F,h⟩:=zz1
  unfold evE at h
  refine Qv5 (Q:=fun c H1=>if c=true then tE p b' σ H1 Q else Q (.bl false) H1) ⟨G,ρ,F,h.bind.imp fun c ρ1 k H1 G1 F1=>?_⟩
  cases c with
  | false=>exact k _ H1 G1 F1 pvB
  | true =>
   show tE p b' σ H1 Q
   refine Q0d F1 (Qsa k.bind) ?_
   rintro r ρ2 v H2 G2 ⟨d,rfl,k2⟩ F2 F2' r2
   exact k2 v H2 G2 F2 r2
theorem Qse {op} (ha:QE X a (tE p a')):QE X (.BoolOp op [a] pos) (tE p a'):=Qacx ha
theorem Qad1 (ha:QE X e (tE p e')) (he:∀ whole,isTrue e X.env whole=(do let v ← whole;standAt e.pos;holding [v] (truthy v))):QT X e (tT p e'):=(Q9c ha he).weak fun σ H Q h=>Qv5 h
theorem Qg1 (ha:QT X a (tT p a')):QT X (.UnaryOp .Not a pos) (tT p (.not a')) :=
 (Q9d ha).weak fun σ H Q zz1=>by
  obtain ⟨G,ρ,F,h⟩:=zz1
  unfold evE at h
  refine ⟨G,ρ,F,?_⟩
  cases e:Qay (evE p.cf a' ρ) with
  | ok b ρ1=>rw [e] at h;exact h
  | xn x ρ1=>rw [e] at h;exact h
  | no=>rw [e] at h;exact h
theorem Qad2 {rest:List Expr} (ha:QT X a (tT p a')) (hb:QW X (.BoolOp .And (b::rest) pos) (tT p b')):QW X (.BoolOp .And (a::b::rest) pos) (tT p (.and a' b')) :=
 (Q9f ha hb).weak fun σ H Q zz1=>by
  obtain ⟨G,ρ,F,h⟩:=zz1
  unfold evE at h
  have h2:Fin p (Qaz H G σ ρ) σ (Qay (evE p.cf a' ρ)) fun c ρ1=>Fin p (Qaz H G σ ρ) σ (if c then Qay (evE p.cf b' ρ1) else .ok false ρ1) fun b ρ1=>∀ H1 G1,FI (Qaz H G σ ρ) H1 G1 σ ρ1→Q b H1:=by
   cases e:Qay (evE p.cf a' ρ) with
   | ok b ρ1 =>
    rw [e] at h
    cases b with
    | false=>exact h
    | true =>
     show Fin _ _ _ (Qay (evE p.cf b' ρ1)) _
     cases e2:Qay (evE p.cf b' ρ1) with
     | ok b ρ2=>simp only [Out.bind,if_true,e2] at h;exact h
     | xn x ρ2=>simp only [Out.bind,if_true,e2] at h;exact h
     | no=>simp only [Out.bind,if_true,e2] at h;exact h
   | xn x ρ1=>rw [e] at h;exact h
   | no=>rw [e] at h;exact h
  refine ⟨G,ρ,F,h2.imp fun c ρ1 k H1 G1 F1=>?_⟩
  cases c with
  | false=>exact k H1 G1 F1
  | true=>exact Q0e F1 k fun b ρ2 H2 G2 k2 F2 _=>k2 H2 G2 F2
theorem Qiw {rest:List Expr} (ha:QT X a (tT p a')) (hb:QW X (.BoolOp .Or (b::rest) pos) (tT p b')):QW X (.BoolOp .Or (a::b::rest) pos) (tT p (.or a' b')) :=
 (Qac0 ha hb).weak fun σ H Q zz1=>by
  obtain ⟨G,ρ,F,h⟩:=zz1
  unfold evE at h
  have h2:Fin p (Qaz H G σ ρ) σ (Qay (evE p.cf a' ρ)) fun c ρ1=>Fin p (Qaz H G σ ρ) σ (if c then .ok true ρ1 else Qay (evE p.cf b' ρ1)) fun b ρ1=>∀ H1 G1,FI (Qaz H G σ ρ) H1 G1 σ ρ1→Q b H1:=by
   cases e:Qay (evE p.cf a' ρ) with
   | ok b ρ1 =>
    rw [e] at h
    cases b with
    | true=>exact h
    | false =>
     show Fin _ _ _ (Qay (evE p.cf b' ρ1)) _
     cases e2:Qay (evE p.cf b' ρ1) with
     | ok b ρ2=>simp only [Out.bind,e2] at h;exact h
     | xn x ρ2=>simp only [Out.bind,e2] at h;exact h
     | no=>simp only [Out.bind,e2] at h;exact h
   | xn x ρ1=>rw [e] at h;exact h
   | no=>rw [e] at h;exact h
  refine ⟨G,ρ,F,h2.imp fun c ρ1 k H1 G1 F1=>?_⟩
  cases c with
  | true=>exact k H1 G1 F1
  | false=>exact Q0e F1 k fun b ρ2 H2 G2 k2 F2 _=>k2 H2 G2 F2
theorem Qfr {op} (ha:QT X a (tT p a')):QW X (.BoolOp op [a] pos) (tT p a'):=by
 cases op with
 | And=>exact Q3x ha
 | Or=>exact Q9e ha
theorem t_w (h:QW X e (tT p e')):QT X e (tT p e'):=q_wt h
end
section
variable {X:Cx} {p:Pr} {e a b:Expr} {es:List Expr} {e' a' b' c':E} {es':Es} {pos p1 p2 p3:Pos} {x:Str}
noncomputable def Oc2 (r:R2) (f:T→T→Option Bool):Prop:=∀ (H:Hp) (G:Addr→Prop) (x y:V) (t u:T) (k:Bool) (Q:VK),Rdb H G x t→Rdb H G y u→f t u=some k→Q (.bl k) H→r x y H Q
theorem Q0i {r:R2} {o:COp} (hs:Oc2 r (opC o)) {σ:St} {H:Hp} {Q:VK} (h:tE p (.cmp o a' b') σ H Q):tOp r (tE p a') (tE p b') σ H Q:=by
 obtain ⟨G,ρ,F,h⟩:=h
 unfold evE at h
 refine tE2 F h fun ra rb ρ2 x y H2 G2 F2 r1 r2 h2=>?_
 obtain ⟨t,u,c1,c2,h3⟩:=Q0g h2
 cases e:opC o t u with
 | none=>rw [e] at h3;exact False.elim h3
 | some k =>
  rw [e] at h3
  exact hs H2 G2 x y t u k Q (r1.rdb F2 c1) (r2.rdb F2 c2) e (h3 _ H2 G2 F2 pvB)
theorem Qsf {op:CmpOp} {r:R2} {o:COp} (ho:QOp X (compareOp op) r) (hs:Oc2 r (opC o)) (ha:QE X a (tE p a')) (hb:QE X b (tE p b')) (hm:behindInMarks op b=false):QE X (.Compare a [op] [b] pos) (tE p (.cmp o a' b')) :=
 (Qacz ho ha hb hm).weak fun σ H Q h=>Q0i hs h
theorem Qm5 {op:CmpOp} {r:R2} {o:COp} (ho:QOp X (compareOp op) r) (hs:Oc2 r (opC o)) (ha:QE X a (tE p a')) (hb:QE X b (tE p b')) (hm:behindInMarks op b=false):QT X (.Compare a [op] [b] pos) (tT p (.cmp o a' b')) :=
 (Qzw ho ha hb hm).weak fun σ H Q h=>Q0i hs (Qv5 h)
noncomputable def vOf:T→V
 | .non=>.non | .bl b=>.bl b | .int i=>.int i | .str x=>.str x | _=>.non
theorem Rdb.vOf {H:Hp} {G:Addr→Prop} {v:V} {t:T} (h:Rdb H G v t) (e:Qev t=true):v=vOf t:=by
 cases t with
 | non=>exact h.non
 | bl b=>exact h.bl
 | int i=>exact h.int
 | str x=>exact h.str
 | tup ts=>cases e
 | lst ts=>cases e
 | dct ks ts=>cases e
 | clo ks ts=>cases e
 | dtt ks ts=>cases e
theorem Qsg {t u:T} {k:Bool} (e:eqO t u=some k) (h1:Qev t=true) (h2:Qev u=true):Q8o (vOf t) (vOf u)=true∧decide (vOf t=vOf u)=k:=by
 cases t <;> first | (cases h1;done) | skip
 all_goals (cases u <;> first | (cases h2;done) | skip)
 all_goals (first | (cases e;done) | skip)
 all_goals (have e':=Option.some.inj e;subst e';refine ⟨rfl,?_⟩;simp [vOf])
theorem Qsh {t u:T} {k:Bool} (e:eqO t u=some k):(Qev t=true∧Qev u=true)∨(Qq 50 t=true∧Qq 50 u=true∧((∃ ts us,t=.tup ts∧u=.tup us)∨∃ ts us,t=.lst ts∧u=.lst us)∧k=eqT t u)∨(Qx7 t u=true∧k=false):=by
 have nn:∀ {t u:T},eqN t u=some k→(Qev t=true∧Qev u=true)∨(Qx7 t u=true∧k=false):=fun {t u} e=>by
  unfold eqN at e
  by_cases z:(Qev t&&Qev u)=true
  ·exact .inl ((Bool.and_eq_true _ _).mp z)
  ·rw [if_neg z] at e
   by_cases y:Qx7 t u=true
   ·rw [if_pos y] at e
    exact .inr ⟨y,(Option.some.inj e).symm⟩
   ·rw [if_neg y] at e;cases e
 cases t with
 | tup ts =>
  cases u with
  | tup us =>
   have e:(if Qq 50 (.tup ts)=true∧Qq 50 (.tup us)=true then some (eqT (.tup ts) (.tup us)) else none)=some k:=e
   by_cases z:Qq 50 (.tup ts)=true∧Qq 50 (.tup us)=true
   ·rw [if_pos z] at e
    exact .inr (.inl ⟨z.1,z.2,.inl ⟨_,_,rfl,rfl⟩,(Option.some.inj e).symm⟩)
   ·rw [if_neg z] at e;cases e
  | _=>exact (nn e).imp id .inr
 | lst ts =>
  cases u with
  | lst us =>
   have e:(if Qq 50 (.lst ts)=true∧Qq 50 (.lst us)=true then some (eqT (.lst ts) (.lst us)) else none)=some k:=e
   by_cases z:Qq 50 (.lst ts)=true∧Qq 50 (.lst us)=true
   ·rw [if_pos z] at e
    exact .inr (.inl ⟨z.1,z.2,.inr ⟨_,_,rfl,rfl⟩,(Option.some.inj e).symm⟩)
   ·rw [if_neg z] at e;cases e
  | _=>exact (nn e).imp id .inr
 | _=>exact (nn e).imp id .inr
noncomputable def rEqU:R2:=fun x y H Q=>rEq x y H Q∨(Q31 false x y H Q∨Q33 false x y H Q)
noncomputable def rNeU:R2:=fun x y H Q=>rNe x y H Q∨(Q31 true x y H Q∨Q33 true x y H Q)
theorem Q64 (hu:X.A.units+64<cLine):QOp X (compareOp .Eq) rEqU:=⟨o_eq.h.or ((Qadk hu).h.or (Qadm hu).h)⟩
theorem Q65 (hu:X.A.units+64<cLine):QOp X (compareOp .NotEq) rNeU:=⟨o_ne.h.or ((Qadl hu).h.or (Qadn hu).h)⟩
theorem Q0j:Oc2 rEqU (opC .eq):=by
 intro H G x y t u k Q hx hy e q
 have e:eqO t u=some k:=e
 rcases Qsh e with ⟨h1,h2⟩ | ⟨h1,h2,h3,rfl⟩ | ⟨h1,rfl⟩
 ·obtain ⟨z1,z2⟩:=Qsg e h1 h2
  rw [hx.vOf h1,hy.vOf h2]
  exact .inl ⟨z1,by rw [z2];exact q⟩
 ·exact .inr (.inl ⟨t,u,hx.is,hy.is,h1,h2,h3,q⟩)
 ·exact .inr (.inr ⟨t,u,hx.is,hy.is,h1,q⟩)
theorem Q0k:Oc2 rNeU (opC .ne):=by
 intro H G x y t u k Q hx hy e q
 have e:(eqO t u).map (!·)=some k:=e
 cases e0:eqO t u with
 | none=>rw [e0] at e;cases e
 | some k0 =>
  rw [e0] at e
  cases e
  rcases Qsh e0 with ⟨h1,h2⟩ | ⟨h1,h2,h3,rfl⟩ | ⟨h1,rfl⟩
  ·obtain ⟨z1,z2⟩:=Qsg e0 h1 h2
   rw [hx.vOf h1,hy.vOf h2]
   exact .inl ⟨z1,by rw [z2];exact q⟩
  ·exact .inr (.inl ⟨t,u,hx.is,hy.is,h1,h2,h3,q⟩)
  ·exact .inr (.inr ⟨t,u,hx.is,hy.is,h1,q⟩)
theorem Qjo {f:Int→Int→Bool} {t u:T} {k:Bool} (e:Qx8 f t u=some k):∃ i j,t=.int i∧u=.int j∧f i j=k:=by
 unfold Qx8 at e
 cases h1:asI t with
 | none=>rw [h1] at e;cases e
 | some i =>
  cases h2:asI u with
  | none=>rw [h1,h2] at e;cases e
  | some j=>rw [h1,h2] at e;exact ⟨i,j,Qe7 h1,Qe7 h2,Option.some.inj e⟩
theorem Q0l:Oc2 (rI0 fun i j=>.bl (decide (i<j))) (opC .lt):=by
 intro H G x y t u k Q hx hy e q
 obtain ⟨i,j,rfl,rfl,rfl⟩:=Qjo e
 obtain rfl:=hx.int
 obtain rfl:=hy.int
 exact ⟨_,_,rfl,rfl,q⟩
theorem Q97:Oc2 (rI0 fun i j=>.bl (decide (i≤j))) (opC .le):=by
 intro H G x y t u k Q hx hy e q
 obtain ⟨i,j,rfl,rfl,rfl⟩:=Qjo e
 obtain rfl:=hx.int
 obtain rfl:=hy.int
 exact ⟨_,_,rfl,rfl,q⟩
theorem Q98:Oc2 (rI0 fun i j=>.bl (decide (j<i))) (opC .gt):=by
 intro H G x y t u k Q hx hy e q
 obtain ⟨i,j,rfl,rfl,rfl⟩:=Qjo e
 obtain rfl:=hx.int
 obtain rfl:=hy.int
 exact ⟨_,_,rfl,rfl,q⟩
theorem Q99:Oc2 (rI0 fun i j=>.bl (decide (j≤i))) (opC .ge):=by
 intro H G x y t u k Q hx hy e q
 obtain ⟨i,j,rfl,rfl,rfl⟩:=Qjo e
 obtain rfl:=hx.int
 obtain rfl:=hy.int
 exact ⟨_,_,rfl,rfl,q⟩
theorem Qv6 {H:Hp} {v:V} {t:T} (h:Is H v t):decide (v=.non)=Qew t:=by
 cases t with
 | non=>unfold Is at h;subst h;rfl
 | bl b=>unfold Is at h;subst h;rfl
 | int i=>unfold Is at h;subst h;rfl
 | str x=>unfold Is at h;subst h;rfl
 | tup ts=>obtain ⟨a,vs,rfl,_⟩:=h.tup_inv;rfl
 | lst ts=>obtain ⟨a,vs,rfl,_⟩:=h.lst_inv;rfl
 | dct ks ts=>unfold Is at h;obtain ⟨a,vs,rfl,_⟩:=h;rfl
 | clo ks ts=>unfold Is at h;obtain ⟨a,vs,l,rfl,_⟩:=h;rfl
 | dtt ks ts=>unfold Is at h;obtain ⟨_,a,vs,rfl,_⟩:=h;rfl
theorem Q4h:Oc2 rIsN (opC .isn):=by
 intro H G x y t u k Q hx hy e q
 cases u <;> first | (cases e;done) | skip
 have e:some (Qew t)=some k:=e
 cases e
 exact ⟨hy.non,by rw [Qv6 hx.is];exact q⟩
theorem Q0m:Oc2 Q6t (opC .isnn):=by
 intro H G x y t u k Q hx hy e q
 cases u <;> first | (cases e;done) | skip
 have e:some (!Qew t)=some k:=e
 cases e
 exact ⟨hy.non,by rw [Qv6 hx.is];exact q⟩
theorem Q0n {n:String} (h:Qmz n=true):n∈["int","bool","tuple","list","dict","str"]:=by
 unfold Qmz at h
 simp only [Bool.or_eq_true,beq_iff_eq] at h
 simp only [mem_cons,not_mem_nil,or_false]
 rcases h with ((((h | h) | h) | h) | h) | h <;> subst h <;> simp
theorem Qad5 {n:String} {tn:Expr} (hm:X.mg "isinstance" = none) (hv:bootBuiltins "isinstance" = some (.builtin "isinstance")) (ha:QE X a (tE p a')) (ht:QE X tn (tC (.ty n))) (hg:Gl X "isinstance") (h1:Qam a=true) (h2:Qam tn=true):QE X (.Call (.Name "isinstance" p1) [a,tn] [] pos) (tE p (.isI a' n)) :=
 (Q9g Q9l hm hv (Qdt ha (Qdt ht Qha h2) h1) hg (by decide) (by decide) h1 (by rw [Qcx h2];rfl)).weak fun σ H Q zz1=>by
  obtain ⟨G,ρ,F,h⟩:=zz1
  unfold evE at h
  refine ⟨G,ρ,F,h.bind.imp fun r ρ1 h1 v H1 G1 F1 r1=>?_⟩
  cases e:cont ρ1 r with
  | none=>rw [e] at h1;exact False.elim h1
  | some t =>
   rw [e] at h1
   by_cases z:(Qmz n && !Qin t)=true
   ·simp only [if_pos z] at h1
    rw [Bool.and_eq_true,Bool.not_eq_true'] at z
    exact ⟨v,n,t,rfl,(r1.rdb F1 e).is,z.2,Q0n z.1,h1 _ H1 G1 F1 pvB⟩
   ·simp only [if_neg z] at h1
    exact False.elim h1
inductive Rdbs (H:Hp) (G:Addr→Prop):List V→List T→Prop where
 | nil:Rdbs H G [] []
 | cons {v t vs ts}:Rdb H G v t→Rdbs H G vs ts→Rdbs H G (v::vs) (t::ts)
theorem PVRs.rdbs {B:Bs} {H0 H:Hp} {G:Addr→Prop} {σ:St} {ρ:En} {vs:List V} {rs:List PV} (h:PVRs H0 H G σ ρ vs rs) (F:FI B H G σ ρ):∀ {ts:List T},Qaa ρ rs=some ts→Rdbs H G vs ts:=by
 induction h with
 | nil=>intro ts e;cases e;exact .nil
 | cons a _ ih =>
  intro ts e
  rename_i v r vs rs _
  unfold Qaa at e
  cases h1:cont ρ r with
  | none=>rw [h1] at e;cases e
  | some t =>
   cases h2:Qaa ρ rs with
   | none=>rw [h1,h2] at e;cases e
   | some us =>
    rw [h1,h2] at e
    cases e
    exact .cons (a.rdb F h1) (ih h2)
noncomputable def Ob (r:List V→Hp→VK→Prop) (b:Bi):Prop:=∀ (B:Bs) (H:Hp) (G:Addr→Prop) (σ:St) (ρ:En) (vs:List V) (ts:List T) (w:PV) (Q:VK),FI B H G σ ρ→Rdbs H G vs ts→Qg6 b ts=some w→(∀ v H1 G1,FI B H1 G1 σ ρ→PVR B.H H1 G1 σ ρ v w→Q v H1)→r vs H Q
theorem Q66 {r:List V→Hp→VK→Prop} {b:Bi} (hs:Ob r b) {σ:St} {H:Hp} {Q:VK} (h:tE p (.bi b es') σ H Q):tCB r (tA p es') σ H Q:=by
 obtain ⟨G,ρ,F,h⟩:=h
 unfold evE at h
 refine ⟨G,ρ,F,h.bind.imp fun rs ρ1 h1 vs H1 G1 F1 r1=>?_⟩
 cases e:Qaa ρ1 rs with
 | none=>rw [e] at h1;exact False.elim h1
 | some ts =>
  rw [e] at h1
  obtain ⟨w,ew,k⟩:=Qqm h1
  exact hs _ H1 G1 σ ρ1 vs ts w Q F1 (r1.rdbs F1 e) ew fun v H2 G2 F2 r2=>k v H2 G2 F2 r2
theorem Rdbs.one {H:Hp} {G:Addr→Prop} {vs:List V} {t:T} (h:Rdbs H G vs [t]):∃ v,vs=[v]∧Rdb H G v t:=by
 cases h with
 | cons a b=>cases b;exact ⟨_,rfl,a⟩
theorem Rdbs.two {H:Hp} {G:Addr→Prop} {vs:List V} {t u:T} (h:Rdbs H G vs [t,u]):∃ v w,vs=[v,w]∧Rdb H G v t∧Rdb H G w u:=by
 cases h with
 | cons a b =>
  cases b with
  | cons c d=>cases d;exact ⟨_,_,rfl,a,c⟩
theorem Qjp:∀ {ts:List T} {is:List Int},Qf9 ts=some is→ts=is.map T.int
 | [],is,e=>by cases e;rfl
 | .int i::ts,is,e=>by
  unfold Qf9 at e
  cases h:Qf9 ts with
  | none=>rw [h] at e;cases e
  | some js=>rw [h] at e;cases e;rw [Qjp h];rfl
 | .non::_,_,e=>by cases e
 | .bl _::_,_,e=>by cases e
 | .str _::_,_,e=>by cases e
 | .tup _::_,_,e=>by cases e
 | .lst _::_,_,e=>by cases e
 | .dct _ _::_,_,e=>by cases e
 | .clo _ _::_,_,e=>by cases e
 | .dtt _ _::_,_,e=>by cases e
theorem Qm6 {D:Hp}:∀ {ts:List T} {bs:List Bool} {vs:List V},Qhb ts=some bs→IsL D vs ts→vs.all Qmn=true∧vs.all Qlu=bs.all id∧vs.any Qlu=bs.any id
 | [],bs,vs,e,r=>by cases e;rw [r.nil_inv];exact ⟨rfl,rfl,rfl⟩
 | t::ts,bs,vs,e,r=>by
  obtain ⟨v,w,rfl,a,q⟩:=r.cons_inv
  unfold Qhb at e
  cases h1:truT t with
  | none=>rw [h1] at e;cases e
  | some b =>
   cases h2:Qhb ts with
   | none=>rw [h1,h2] at e;cases e
   | some cs =>
    rw [h1,h2] at e
    cases e
    obtain ⟨q1,q2,q3⟩:=Qm6 h2 q
    have hv:Qmn v=true∧Qlu v=b:=by
     cases t <;> first | (cases h1;done) | skip
     ·unfold Is at a;subst a;cases h1;exact ⟨rfl,rfl⟩
     ·obtain rfl:=a.int_inv;cases h1
      refine ⟨rfl,?_⟩
      rename_i i
      show (i != 0)=decide (i≠0)
      by_cases z:i=0 <;> simp [z]
    rw [all_cons,all_cons,any_cons,all_cons,any_cons,q1,q2,q3,hv.1,hv.2]
    exact ⟨rfl,rfl,rfl⟩
theorem Qa9 (K:PySem.W.Frag):Ob (Q86 K) .len:=by
 intro B H G σ ρ vs ts w Q F r e q
 match ts,e,r with
 | [.lst a],e,r =>
  cases e
  obtain ⟨v,rfl,h⟩:=r.one
  obtain ⟨l,ws,rfl,z,el,rl⟩:=h.lst
  exact ⟨l,ws,rfl,.inl (SqL.of el),by rw [rl.length];exact q _ H G F pvI⟩
 | [.tup a],e,r =>
  cases e
  obtain ⟨v,rfl,h⟩:=r.one
  obtain ⟨l,ws,rfl,el,rl⟩:=h.tup.tup_inv
  exact ⟨l,ws,rfl,.inr (SqT.of (Qan el).2),by rw [rl.length];exact q _ H G F pvI⟩
theorem Q0o:Ob rAbs .abs:=by
 intro B H G σ ρ vs ts w Q F r e q
 match ts,e,r with
 | [.int i],e,r =>
  cases e
  obtain ⟨v,rfl,h⟩:=r.one
  obtain rfl:=h.int
  exact ⟨i,rfl,q _ H G F pvI⟩
theorem Qm7 (K:PySem.W.Frag):Ob (Q87 K) .all:=by
 intro B H G σ ρ vs ts w Q F r e q
 match ts,e,r with
 | [.lst a],e,r =>
  obtain ⟨v,rfl,h⟩:=r.one
  obtain ⟨l,ws,rfl,z,el,rl⟩:=h.lst
  have e:(Qhb a).map (fun bs=>PV.fz (.bl (bs.all id)))=some w:=e
  cases h1:Qhb a with
  | none=>rw [h1] at e;cases e
  | some bs =>
   rw [h1] at e
   cases e
   obtain ⟨q1,q2,q3⟩:=Qm6 h1 rl
   exact ⟨l,ws,rfl,SqL.of el,q1,by rw [q2];exact q _ H G F pvB⟩
theorem Qaaa (K:PySem.W.Frag):Ob (Q88 K) .any:=by
 intro B H G σ ρ vs ts w Q F r e q
 match ts,e,r with
 | [.lst a],e,r =>
  obtain ⟨v,rfl,h⟩:=r.one
  obtain ⟨l,ws,rfl,z,el,rl⟩:=h.lst
  have e:(Qhb a).map (fun bs=>PV.fz (.bl (bs.any id)))=some w:=e
  cases h1:Qhb a with
  | none=>rw [h1] at e;cases e
  | some bs =>
   rw [h1] at e
   cases e
   obtain ⟨q1,q2,q3⟩:=Qm6 h1 rl
   exact ⟨l,ws,rfl,SqL.of el,q1,by rw [q3];exact q _ H G F pvB⟩
theorem Q0p (K:PySem.W.Frag):Ob (Qzu K) .sum:=by
 intro B H G σ ρ vs ts w Q F r e q
 match ts,e,r with
 | [.lst a],e,r =>
  obtain ⟨v,rfl,h⟩:=r.one
  obtain ⟨l,ws,rfl,z,el,rl⟩:=h.lst
  have e:(Qf9 a).map (fun is=>PV.fz (.int is.sum))=some w:=e
  cases h1:Qf9 a with
  | none=>rw [h1] at e;cases e
  | some is =>
   rw [h1] at e
   cases e
   rw [Qjp h1] at rl
   rw [rl.ints_inv] at el
   exact ⟨l,is,rfl,SqL.of el,q _ H G F pvI⟩
theorem Qv7:∀ (xs:List Int) (m:Int),m≤Qmx m xs∧(∀ a∈xs,a≤Qmx m xs)∧(Qmx m xs=m∨Qmx m xs∈xs)
 | [],m=>⟨Int.le_refl _,fun _ h=>(nomatch h),.inl rfl⟩
 | x::xs,m=>by
  unfold Qmx
  obtain ⟨h1,h2,h3⟩:=Qv7 xs (if m<x then x else m)
  have k1:m≤(if m<x then x else m):=by split <;> omega
  have k2:x≤(if m<x then x else m):=by split <;> omega
  refine ⟨by omega,fun a ha=>?_,?_⟩
  ·rcases mem_cons.mp ha with rfl | ha
   ·omega
   ·exact h2 a ha
  ·rcases h3 with h3 | h3
   ·rw [h3]
    split
    ·exact .inr mem_cons_self
    ·exact .inl rfl
   ·exact .inr (mem_cons_of_mem _ h3)
theorem Qv8:∀ (xs:List Int) (m:Int),Qmy m xs≤m∧(∀ a∈xs,Qmy m xs≤a)∧(Qmy m xs=m∨Qmy m xs∈xs)
 | [],m=>⟨Int.le_refl _,fun _ h=>(nomatch h),.inl rfl⟩
 | x::xs,m=>by
  unfold Qmy
  obtain ⟨h1,h2,h3⟩:=Qv8 xs (if x<m then x else m)
  have k1:(if x<m then x else m)≤m:=by split <;> omega
  have k2:(if x<m then x else m)≤x:=by split <;> omega
  refine ⟨by omega,fun a ha=>?_,?_⟩
  ·rcases mem_cons.mp ha with rfl | ha
   ·omega
   ·exact h2 a ha
  ·rcases h3 with h3 | h3
   ·rw [h3]
    split
    ·exact .inr mem_cons_self
    ·exact .inl rfl
   ·exact .inr (mem_cons_of_mem _ h3)
noncomputable def Q67 (K:PySem.W.Frag):List V→Hp→VK→Prop:=fun xs H Q=>Q6v xs H Q∨Qzs K xs H Q
noncomputable def Q68 (K:PySem.W.Frag):List V→Hp→VK→Prop:=fun xs H Q=>Q6w xs H Q∨Qzt K xs H Q
theorem Q0q (K:PySem.W.Frag) (hK:X.K=K) (hc:X.calm=true):QCl X (.builtin "max") (Q67 K):=⟨(Q9o hc).h.or (Q9m K hK hc).h⟩
theorem Qaab (K:PySem.W.Frag) (hK:X.K=K) (hc:X.calm=true):QCl X (.builtin "min") (Q68 K):=⟨(Q9p hc).h.or (Q9n K hK hc).h⟩
theorem Q0r (K:PySem.W.Frag):Ob (Q67 K) .max:=by
 intro B H G σ ρ vs ts w Q F r e q
 match ts,e,r with
 | [.int i,.int j],e,r =>
  cases e
  obtain ⟨v,u,rfl,h1,h2⟩:=r.two
  obtain rfl:=h1.int
  obtain rfl:=h2.int
  exact .inl ⟨i,j,rfl,q _ H G F pvI⟩
 | [.lst a],e,r =>
  obtain ⟨v,rfl,h⟩:=r.one
  obtain ⟨l,ws,rfl,z,el,rl⟩:=h.lst
  have e:(match Qf9 a with | some (x::xs)=>some (PV.fz (.int (Qmx x xs))) | _=>none)=some w:=e
  cases h1:Qf9 a with
  | none=>rw [h1] at e;cases e
  | some is =>
   rw [h1] at e
   cases is with
   | nil=>cases e
   | cons i is =>
    cases e
    rw [Qjp h1] at rl
    rw [rl.ints_inv] at el
    obtain ⟨k1,k2,k3⟩:=Qv7 is i
    refine .inr ⟨l,i::is,rfl,SqL.of el,by simp,fun M hM hle=>?_⟩
    have e:M=Qmx i is:=by
     have a1:=hle (Qmx i is) (k3.elim (fun k3=>by rw [k3];exact mem_cons_self) fun k3=>mem_cons_of_mem _ k3)
     have a2:M≤Qmx i is:=by
      rcases mem_cons.mp hM with rfl | hM
      ·exact k1
      ·exact k2 M hM
     omega
    rw [e]
    exact q _ H G F pvI
theorem Qaac (K:PySem.W.Frag):Ob (Q68 K) .min:=by
 intro B H G σ ρ vs ts w Q F r e q
 match ts,e,r with
 | [.int i,.int j],e,r =>
  cases e
  obtain ⟨v,u,rfl,h1,h2⟩:=r.two
  obtain rfl:=h1.int
  obtain rfl:=h2.int
  exact .inl ⟨i,j,rfl,q _ H G F pvI⟩
 | [.lst a],e,r =>
  obtain ⟨v,rfl,h⟩:=r.one
  obtain ⟨l,ws,rfl,z,el,rl⟩:=h.lst
  have e:(match Qf9 a with | some (x::xs)=>some (PV.fz (.int (Qmy x xs))) | _=>none)=some w:=e
  cases h1:Qf9 a with
  | none=>rw [h1] at e;cases e
  | some is =>
   rw [h1] at e
   cases is with
   | nil=>cases e
   | cons i is =>
    cases e
    rw [Qjp h1] at rl
    rw [rl.ints_inv] at el
    obtain ⟨k1,k2,k3⟩:=Qv8 is i
    refine .inr ⟨l,i::is,rfl,SqL.of el,by simp,fun M hM hle=>?_⟩
    have e:M=Qmy i is:=by
     have a1:=hle (Qmy i is) (k3.elim (fun k3=>by rw [k3];exact mem_cons_self) fun k3=>mem_cons_of_mem _ k3)
     have a2:Qmy i is≤M:=by
      rcases mem_cons.mp hM with rfl | hM
      ·exact k1
      ·exact k2 M hM
     omega
    rw [e]
    exact q _ H G F pvI
theorem Qaad:Ob rDvm .dvm:=by
 intro B H G σ ρ vs ts w Q F r e q
 match ts,e,r with
 | [.int i,.int j],e,r =>
  have e:(if 0<j∧j.natAbs<2^64 then some (PV.fz (.tup [.int (i / j),.int (i%j)])) else none)=some w:=e
  by_cases z:0<j∧j.natAbs<2^64
  ·rw [if_pos z] at e;cases e
   obtain ⟨v,u,rfl,h1,h2⟩:=r.two
   obtain rfl:=h1.int
   obtain rfl:=h2.int
   refine ⟨i,j,rfl,⟨z.1,by omega⟩,fun l hl=>q _ _ G (F.grow (Same.upd hl)) ?_⟩
   exact Qhx (F.prv.mono (Same.upd hl)) Q6 (.cons Is.int (.one Is.int)) (by show 2≤100000;decide)
  ·rw [if_neg z] at e;cases e
theorem Q0s:Ob Q6y .int:=by
 intro B H G σ ρ vs ts w Q F r e q
 match ts,e,r with
 | [.int i],e,r =>
  cases e
  obtain ⟨v,rfl,h⟩:=r.one
  obtain rfl:=h.int
  exact .inl ⟨i,rfl,q _ H G F pvI⟩
 | [.bl b],e,r =>
  cases e
  obtain ⟨v,rfl,h⟩:=r.one
  obtain rfl:=h.bl
  exact .inr ⟨b,rfl,q _ H G F pvI⟩
theorem Q4i (K:PySem.W.Frag):Ob (Qqh K) .list:=by
 intro B H G σ ρ vs ts w Q F r e q
 match ts,e,r with
 | [.lst a],e,r =>
  cases e
  obtain ⟨v,rfl,h⟩:=r.one
  obtain ⟨l,ws,rfl,z,el,rl⟩:=h.lst
  refine ⟨l,ws,rfl,.inl (SqL.of el),fun l2 hl=>?_⟩
  obtain ⟨F2,r2⟩:=Qga F hl (Same.upd hl) Q6 rl z
  exact q _ _ _ F2 r2
 | [.tup a],e,r =>
  cases e
  obtain ⟨v,rfl,h⟩:=r.one
  have z:=h.tup.tup_len
  obtain ⟨l,ws,rfl,el,rl⟩:=h.tup.tup_inv
  refine ⟨l,ws,rfl,.inr (SqT.of (Qan el).2),fun l2 hl=>?_⟩
  obtain ⟨F2,r2⟩:=Qga F hl (Same.upd hl) Q6 rl z
  exact q _ _ _ F2 r2
theorem Qex (K:PySem.W.Frag):Ob (Qt7 K) .tup:=by
 intro B H G σ ρ vs ts w Q F r e q
 match ts,e,r with
 | [.lst a],e,r =>
  cases e
  obtain ⟨v,rfl,h⟩:=r.one
  obtain ⟨l,ws,rfl,z,el,rl⟩:=h.lst
  exact ⟨l,ws,rfl,.inl ⟨SqL.of el,fun l2 hl=>q _ _ G (F.grow (Same.upd hl)) (Qhx (F.prv.mono (Same.upd hl)) Q6 (rl.mono (Qbn (Same.upd hl))) z)⟩⟩
 | [.tup a],e,r =>
  cases e
  obtain ⟨v,rfl,h⟩:=r.one
  have h0:=h.tup
  obtain ⟨l,ws,rfl,el,rl⟩:=h.tup.tup_inv
  exact ⟨l,ws,rfl,.inr ⟨SqT.of (Qan el).2,q _ H G F h0⟩⟩
theorem Qjq:∀ {es:List Expr} {env:Env} {pos:Pos},es.all Qam=true→(backTo pos (starEach es env)).any (·.1)=false
 | [],_,_,_=>rfl
 | e::es,env,pos,h=>by
  rw [all_cons,Bool.and_eq_true] at h
  rw [Qcx h.1]
  have q:=Qjq (env:=env) (pos:=pos) h.2
  unfold backTo at q ⊢
  rw [map_cons,any_cons,q]
  rfl
theorem s_bi {id:String} {r:List V→Hp→VK→Prop} {b:Bi} (hc:QCl X (.builtin id) r) (hs:Ob r b) (hm:X.mg x=none) (hv:bootBuiltins x=some (.builtin id)) (ha:QA X (e::es) (tA p es')) (hg:Gl X x) (hn:x ≠ "__name__") (hdb:(x==("__debug__" : Str))=false) (h1:Qam e=true) (h2:es.all Qam=true) :
  QE X (.Call (.Name x p1) (e::es) [] pos) (tE p (.bi b es')):=(Q9g hc hm hv ha hg hn hdb h1 (Qjq h2)).weak fun σ H Q h=>Q66 hs h
theorem Qad6 {T:String} {r:List V→Hp→VK→Prop} {b:Bi} (hc:QCl X (.type T) r) (hs:Ob r b) (hm:X.mg x=none) (hv:bootBuiltins x=some (.type T)) (ha:QA X (e::es) (tA p es')) (hg:Gl X x) (hn:x ≠ "__name__") (hdb:(x==("__debug__" : Str))=false) (h1:Qam e=true) (h2:es.all Qam=true) :
  QE X (.Call (.Name x p1) (e::es) [] pos) (tE p (.bi b es')):=(Qac2 hc hm hv ha hg hn hdb h1 (Qjq h2)).weak fun σ H Q h=>Q66 hs h
theorem IsL.atI {D:Hp} {vs:List V} {ts:List T} {i:Int} {t:T} (r:IsL D vs ts) (h:atI ts i=some t):∃ v,L2.atI vs i=some v∧Is D v t:=by
 unfold L2.atI at h ⊢
 rw [r.length]
 cases e:ixN ts.length i with
 | none=>rw [e] at h;cases h
 | some j =>
  rw [e] at h
  exact r.getT h
theorem s_ix (K:PySem.W.Frag) (hK:X.K=K) (ha:QE X a (tE p a')) (hb:QE X b (tE p b')) (hs:Qlz b):QE X (.Subscript a b pos) (tE p (.ix a' b')) :=
 (q_ix (o_ix K hK) ha hb hs).weak fun σ H Q zz1=>by
  obtain ⟨G,ρ,F,h⟩:=zz1
  unfold evE at h
  refine tE2 F h fun ra rb ρ2 x y H2 G2 F2 r1 r2 h2=>?_
  obtain ⟨t,u,c1,c2,h3⟩:=Q0g h2
  have hx:=r1.rdb F2 c1
  have hy:=r2.rdb F2 c2
  cases e:Q0c t u with
  | none=>rw [e] at h3;exact False.elim h3
  | some w =>
   rw [e] at h3
   cases t <;> first | (cases e;done) | skip
   all_goals (cases u <;> first | (cases e;done) | skip)
   ·obtain rfl:=hy.int
    obtain ⟨l,ws,rfl,el,rl⟩:=hx.tup.tup_inv
    obtain ⟨v,ev,iv⟩:=rl.atI e
    exact .inr (.inl ⟨l,ws,_,v,rfl,rfl,SqT.of (Qan el).2,ev,h3 v H2 G2 F2 iv⟩)
   ·obtain rfl:=hy.int
    obtain ⟨l,ws,rfl,z,el,rl⟩:=hx.lst
    obtain ⟨v,ev,iv⟩:=rl.atI e
    exact .inl ⟨l,ws,_,v,rfl,rfl,SqL.of el,ev,h3 v H2 G2 F2 iv⟩
noncomputable def tO (p:Pr) (es:Es):TO:=fun σ H Q=>∃ G ρ,FI (Qaz H G σ ρ) H G σ ρ∧Fin p (Qaz H G σ ρ) σ (evA p.cf es ρ) fun rs ρ1=>∃ i,Qjl rs=some i∧∀ H1 G1,FI (Qaz H G σ ρ) H1 G1 σ ρ1→Q i H1
theorem QO.weak {X:Cx} {e:Option Expr} {t t':TO} (h:QO X e t) (q:∀ σ H Q,t' σ H Q→t σ H Q):QO X e t':=⟨fun pins s σ H Q I z=>h.h pins s σ H Q I (q _ _ _ z)⟩
theorem Qe8:QO X none (tO p .nil):=q_no.weak fun σ H Q zz1=>by
 obtain ⟨G,ρ,F,h⟩:=zz1
 unfold evA at h
 obtain ⟨i,e,k⟩:=h
 cases e
 exact k H G F
theorem Q4j {r:PV} {i:Option Int} (h:Qjl [r]=some i):∃ j,r=.fz (.int j)∧i=some j:=by
 cases r with
 | fz t=>cases t <;> first | (cases h;done) | exact ⟨_,rfl,(Option.some.inj h).symm⟩
 | ow t=>cases h
 | sl i=>cases h
theorem Qe9 (ha:QE X a (tE p a')):QO X (some a) (tO p (.cons a' .nil)):=(Qt8 ha).weak fun σ H Q zz1=>by
 obtain ⟨G,ρ,F,h⟩:=zz1
 unfold evA at h
 refine ⟨G,ρ,F,h.bind.imp fun r ρ1 h1 v H1 G1 F1 r1=>?_⟩
 have h1:=h1.bind
 unfold evA at h1
 obtain ⟨i,e,k⟩:=h1
 obtain ⟨j,rfl,rfl⟩:=Q4j e
 obtain rfl:=r1.is.int_inv
 exact ⟨j,rfl,k H1 G1 F1⟩
theorem Qad7 (K:PySem.W.Frag) (hK:X.K=K) {lo hi:Option Expr} {lo' hi':Es} (ha:QE X a (tE p a')) (hl:QO X lo (tO p lo')) (hh:QO X hi (tO p hi')):QE X (.Subscript a (.Slice lo hi none p2) pos) (tE p (.slc a' lo' hi')) :=
 (q_sl (o_sl K hK) ha hl hh).weak fun σ H Q zz1=>by
  obtain ⟨G,ρ,F,h⟩:=zz1
  unfold evE at h
  refine ⟨G,ρ,F,h.bind.imp fun ra ρ1 h1 v H1 G1 F1 r1=>?_⟩
  refine ⟨G1,ρ1,F1.self,h1.bind.rebase F1 fun rl ρ2 h2=>?_⟩
  cases el:Qjl rl with
  | none=>rw [el] at h2;exact False.elim h2
  | some l =>
   rw [el] at h2
   refine ⟨l,rfl,fun H2 G2 F2=>⟨G2,ρ2,F2.self,h2.bind.rebase (F1.trans F2) fun rh ρ3 h3=>?_⟩⟩
   cases eh:Qjl rh with
   | none=>rw [eh] at h3;exact False.elim h3
   | some u =>
    rw [eh] at h3
    refine ⟨u,rfl,fun H3 G3 F3=>?_⟩
    have F12:=F1.trans F2
    have F4:=F12.trans F3
    cases ec:cont ρ3 ra with
    | none=>rw [ec] at h3;exact False.elim h3
    | some t =>
     rw [ec] at h3
     obtain ⟨w,ew,k⟩:=Qqm h3
     have hx:=((r1.step F1 F2).step F12 F3).rdb F4 ec
     cases t <;> first | (cases ew;done) | skip
     ·cases ew
      exact Qz3 F4.prv hx.tup fun y H5 s5 i5=>k y H5 G3 (F4.grow s5) i5
     ·cases ew
      rename_i ts
      obtain ⟨c,ws,rfl,z,ec,rl⟩:=hx.lst
      refine .inl ⟨c,ws,rfl,SqL.of ec,fun q hq=>?_⟩
      obtain ⟨F5,r5⟩:=Qga F4 hq (Same.upd hq) Q6 (rl.cut l u) (by have:=Qr4 ts l u;omega)
      exact k _ _ _ F5 r5
end
theorem Qgb (i:Nat):Qb [] i=.un:=rfl
theorem Qa (s:Slot) (ρ:En):Qb (s::ρ) 0=s:=rfl
theorem Qc (s:Slot) (ρ:En) (i:Nat):Qb (s::ρ) (i+1)=Qb ρ i:=by unfold Qb;rw [getElem?_cons_succ]
theorem Qca {ρ:En} {i j:Nat} {s:Slot}:Qb (ρ.set j s) i=if i=j∧j<ρ.length then s else Qb ρ i:=by
 unfold Qb
 by_cases h:i=j∧j<ρ.length
 ·rw [if_pos h]
  obtain ⟨rfl,hj⟩:=h
  rw [List.getElem?_set_self hj]
 ·rw [if_neg h]
  by_cases e:i=j
  ·subst e
   have hl:ρ.length≤i:=by
    rcases Nat.lt_or_ge i ρ.length with z | z
    ·exact absurd ⟨rfl,z⟩ h
    ·exact z
   rw [List.set_eq_of_length_le hl]
  ·rw [List.getElem?_set_ne (fun z=>e z.symm)]
theorem Qhz {ρ:En} {i:Nat} (h:Qb ρ i≠.un):i<ρ.length:=by
 rcases Nat.lt_or_ge i ρ.length with z | z
 ·exact z
 ·exact absurd (by unfold Qb;rw [List.getElem?_eq_none_iff.mpr z]) h
theorem Qcb (rs:List PV) (fin:List T) (i:Nat) (s:Slot):Qv rs fin i s=s∨∃ k t,Qj rs i=some k∧fin[k]?=some t∧Qv rs fin i s=s.put t:=by
 unfold Qv
 cases h1:Qj rs i with
 | none=>exact .inl rfl
 | some k =>
  cases h2:fin[k]? with
  | none=>exact .inl (by simp only [h2])
  | some t=>exact .inr ⟨k,t,rfl,h2,by simp only [h2]⟩
theorem Qg2 (rs:List PV) (fin:List T):∀ (ρ:En) (n i:Nat),Qb (Qi rs fin n ρ) i=Qv rs fin (n+i) (Qb ρ i)
 | [],n,i=>by
  unfold Qi
  rw [Qgb]
  rcases Qcb rs fin (n+i) .un with h | ⟨k,t,_,_,h⟩
  ·exact h.symm
  ·rw [h];rfl
 | s::ρ,n,0=>by unfold Qi;rfl
 | s::ρ,n,i+1=>by
  unfold Qi
  rw [Qc,Qc,Qg2 rs fin ρ (n+1) i,show n+1+i=n+(i+1) by omega]
theorem Qdi (ρ:En) (rs:List PV) (fin:List T) (i:Nat):Qb (Qao ρ rs fin) i=Qv rs fin i (Qb ρ i):=by
 unfold Qao
 rw [Qg2,Nat.zero_add]
theorem Qjr (rs:List PV) (fin:List T):∀ (ρ:En) (n:Nat),(Qi rs fin n ρ).length=ρ.length
 | [],_=>rfl
 | s::ρ,n=>by unfold Qi;rw [length_cons,length_cons,Qjr rs fin ρ (n+1)]
theorem Qjs (ρ:En) (i:Nat):Q7 ρ (.sl i)=match Qb ρ i with
 | .ow t=>some (.ml t)
 | .ml t=>some (.ml t)
 | .ro t=>some (.ro t)
 | _=>none:=rfl
theorem PVRs.len {H0 H:Hp} {G:Addr→Prop} {σ:St} {ρ:En} {vs:List V} {rs:List PV} (h:PVRs H0 H G σ ρ vs rs):vs.length=rs.length:=by
 induction h with
 | nil=>rfl
 | cons _ _ ih=>rw [length_cons,length_cons,ih]
theorem PVRs.get {H0 H:Hp} {G:Addr→Prop} {σ:St} {ρ:En} {vs:List V} {rs:List PV} (h:PVRs H0 H G σ ρ vs rs):∀ {i:Nat} {v:V} {r:PV},vs[i]?=some v→rs[i]?=some r→PVR H0 H G σ ρ v r:=by
 induction h with
 | nil=>intro i v r e;simp at e
 | cons a _ ih =>
  intro i v r e1 e2
  cases i with
  | zero=>simp at e1 e2;subst e1;subst e2;exact a
  | succ i=>rw [getElem?_cons_succ] at e1 e2;exact ih e1 e2
theorem Qgc {ρ:En}:∀ {rs:List PV} {as:List Arg},Qt ρ rs=some as→as.length=rs.length∧∀ (i:Nat) (a:Arg),as[i]?=some a→∃ r,rs[i]?=some r∧Q7 ρ r=some a
 | [],as,e=>by cases e;exact ⟨rfl,fun i a h=>by simp at h⟩
 | r::rs,as,e=>by
  unfold Qt at e
  cases h1:Q7 ρ r with
  | none=>rw [h1] at e;cases e
  | some a0 =>
   cases h2:Qt ρ rs with
   | none=>rw [h1,h2] at e;cases e
   | some as0 =>
    rw [h1,h2] at e
    cases e
    obtain ⟨q1,q2⟩:=Qgc h2
    refine ⟨by rw [length_cons,length_cons,q1],fun i a h=>?_⟩
    cases i with
    | zero=>simp at h;subst h;exact ⟨r,rfl,h1⟩
    | succ i=>rw [getElem?_cons_succ] at h ⊢;exact q2 i a h
theorem Qm8:∀ {rs:List PV},Qs rs=true→∀ (i j k:Nat),rs[i]?=some (.sl k)→rs[j]?=some (.sl k)→i=j
 | [],_,i,j,k,e,_=>by simp at e
 | r::rs,h,i,j,k,e1,e2=>by
  have tl:Qs rs=true:=by
   cases r with
   | sl p=>unfold Qs at h;rw [Bool.and_eq_true] at h;exact h.2
   | fz t=>exact h
   | ow t=>exact h
  have hd:∀ (m:Nat),r=PV.sl k→rs[m]?=some (PV.sl k)→False:=fun m er em=>by
   subst er
   unfold Qs at h
   rw [Bool.and_eq_true] at h
   have q:=all_eq_true.mp h.1 _ (mem_of_getElem? em)
   simp at q
  cases i with
  | zero =>
   cases j with
   | zero=>rfl
   | succ j=>simp at e1;rw [getElem?_cons_succ] at e2;exact (hd j e1 e2).elim
  | succ i =>
   cases j with
   | zero=>simp at e2;rw [getElem?_cons_succ] at e1;exact (hd i e2 e1).elim
   | succ j =>
    rw [getElem?_cons_succ] at e1 e2
    rw [Qm8 tl i j k e1 e2]
theorem Qem:∀ {rs:List PV} {i k:Nat},Qj rs i=some k→rs[k]?=some (.sl i)
 | [],i,k,e=>by cases e
 | .sl j::rs,i,k,e=>by
  unfold Qj at e
  by_cases h:j=i
  ·rw [if_pos h] at e;cases e;rw [h];rfl
  ·rw [if_neg h] at e
   cases h2:Qj rs i with
   | none=>rw [h2] at e;cases e
   | some m=>rw [h2] at e;cases e;rw [getElem?_cons_succ];exact Qem h2
 | .fz t::rs,i,k,e=>by
  unfold Qj at e
  cases h2:Qj rs i with
  | none=>rw [h2] at e;cases e
  | some m=>rw [h2] at e;cases e;rw [getElem?_cons_succ];exact Qem h2
 | .ow t::rs,i,k,e=>by
  unfold Qj at e
  cases h2:Qj rs i with
  | none=>rw [h2] at e;cases e
  | some m=>rw [h2] at e;cases e;rw [getElem?_cons_succ];exact Qem h2
theorem Qjt:∀ {rs:List PV} {i k:Nat},Qj rs i=none→rs[k]?≠some (.sl i)
 | [],i,k,_,e=>by simp at e
 | r::rs,i,k,h,e=>by
  have tl:Qj rs i=none:=by
   cases r with
   | sl j =>
    unfold Qj at h
    by_cases z:j=i
    ·rw [if_pos z] at h;cases h
    ·rw [if_neg z] at h;simpa using h
   | fz t=>unfold Qj at h;simpa using h
   | ow t=>unfold Qj at h;simpa using h
  cases k with
  | zero =>
   simp at e
   subst e
   unfold Qj at h
   rw [if_pos rfl] at h
   cases h
  | succ k=>rw [getElem?_cons_succ] at e;exact Qjt tl e
theorem Qpi:∀ {vs:List V} {rs:List PV} {i:Nat} {t:T} {b:Addr},vs[i]?=some (.ref b)→rs[i]?=some (.ow t)→Qm2 vs rs b
 | [],_,_,_,_,e,_=>by simp at e
 | _::_,[],_,_,_,_,e=>by simp at e
 | v::vs,r::rs,0,t,b,e1,e2=>by
  simp at e1 e2
  subst e1;subst e2
  exact .inl rfl
 | v::vs,r::rs,i+1,t,b,e1,e2=>by
  rw [getElem?_cons_succ] at e1 e2
  have q:=Qpi e1 e2
  cases r with
  | fz t=>exact q
  | sl j=>exact q
  | ow t=>exact .inr q
noncomputable def ArgR (H:Hp) (G:Addr→Prop) (v:V):Arg→Prop
 | .fz t=>Is (dls H G) v t
 | .ml t=>∃ a,v=.ref a∧G a∧OwnAt H G a t
 | .ro t=>∃ a,v=.ref a∧G a∧OwnAt H G a t
noncomputable def Arg.prv:Arg→Bool
 | .fz _=>false
 | _=>true
structure ArgsR (H:Hp) (G:Addr→Prop) (vs:List V) (as:List Arg):Prop where
 len:vs.length=as.length
 get:∀ (i:Nat) (v:V) (a:Arg),vs[i]?=some v→as[i]?=some a→ArgR H G v a
 apart:∀ (i j:Nat) (b:Addr) (x y:Arg),as[i]?=some x→as[j]?=some y→x.prv=true→y.prv=true→vs[i]?=some (.ref b)→vs[j]?=some (.ref b)→i=j
noncomputable def Qv9 (vs:List V) (as:List Arg) (b:Addr):Prop:=∃ (i:Nat) (t:T),as[i]?=some (.ml t)∧vs[i]?=some (.ref b)
structure CallP (H:Hp) (G:Addr→Prop) (vs:List V) (as:List Arg) (H':Hp) (G':Addr→Prop) (fin:List T):Prop where
 prv:Pen H' G'
 chg:∀ b o,¬ Qv9 vs as b→H b=some o→H' b=some o
 keep:∀ b o,H b=some o→∃ o',H' b=some o'
 gg:∀ b,G b→G' b
 gn:∀ b,G' b→G b∨H b=none
 fin:∀ (i:Nat) (t:T) (a:Addr),as[i]?=some (.ml t)→vs[i]?=some (.ref a)→∃ t',fin[i]?=some t'∧OwnAt H' G' a t'
noncomputable def RetR (H H':Hp) (G':Addr→Prop) (v:V):PV→Prop
 | .fz t=>Is (dls H' G') v t
 | .ow t=>∃ a,v=.ref a∧H a=none∧G' a∧OwnAt H' G' a t
 | .sl _=>False
noncomputable def FROk (mg:Str→Option Value) (H:Hp) (G:Addr→Prop) (vs:List V) (as:List Arg) (o:FR) (Q:VK) (E:XK):Prop:=match o with
 | .ok r fin=>∀ v H' G',CallP H G vs as H' G' fin→RetR H H' G' v r→Q v H'
 | .xn x fin=>∀ cls dx H' G',CallP H G vs as H' G' fin→Q91 mg H' x cls dx→E cls dx H'
 | .no=>False
noncomputable def spF (cf:CF) (mg:Str→Option Value) (f:Nat):Sp:=fun vs H Q E=>∃ G as,ArgsR H G vs as∧Pen H G∧FROk mg H G vs as (cf f as) Q E
section
variable {p:Pr} {B:Bs} {H H1 H2:Hp} {G G1 G2:Addr→Prop} {σ:St} {ρ:En} {vs:List V} {rs:List PV} {as:List Arg} {fin:List T}
theorem Qpj {r:PV} {a:Arg} (e:Q7 ρ r=some a) (h:a.prv=true):∃ i t,r=.sl i∧(Qb ρ i).prv=some t:=by
 cases r with
 | fz t=>cases e;cases h
 | ow t=>cases e;cases h
 | sl i =>
  rw [Qjs] at e
  cases hs:Qb ρ i with
  | un=>rw [hs] at e;cases e
  | pin _=>rw [hs] at e;cases e
  | fx _=>rw [hs] at e;cases e
  | fz t=>rw [hs] at e;cases e
  | ow t=>exact ⟨i,t,rfl,by rw [hs];rfl⟩
  | ml t=>exact ⟨i,t,rfl,by rw [hs];rfl⟩
  | ro t=>exact ⟨i,t,rfl,by rw [hs];rfl⟩
theorem Q0t {r:PV} {t:T} (e:Q7 ρ r=some (.ml t)):∃ i,r=.sl i∧(Qb ρ i=.ow t∨Qb ρ i=.ml t):=by
 cases r with
 | fz t=>cases e
 | ow t=>cases e
 | sl i =>
  rw [Qjs] at e
  cases hs:Qb ρ i with
  | un=>rw [hs] at e;cases e
  | pin _=>rw [hs] at e;cases e
  | fx _=>rw [hs] at e;cases e
  | fz t=>rw [hs] at e;cases e
  | ow t=>rw [hs] at e;cases e;exact ⟨i,rfl,.inl hs⟩
  | ml t=>rw [hs] at e;cases e;exact ⟨i,rfl,.inr hs⟩
  | ro t=>rw [hs] at e;cases e
theorem Q4k (F:FI B H G σ ρ) (r:PVRs B.H H G σ ρ vs rs) (ea:Qt ρ rs=some as) (hb:Qs rs=true):∃ G',FI B H G' σ ρ∧ArgsR H G' vs as:=by
 have F':=F.lessG (Qm2 vs rs) fun b z=>r.tmp z
 obtain ⟨l1,g1⟩:=Qgc ea
 refine ⟨_,F',by rw [l1];exact r.len,fun i v a ev e=>?_,fun i j b x y ex ey px py vx vy=>?_⟩
 ·obtain ⟨q,eq,ar⟩:=g1 i a e
  have pv:=r.get ev eq
  cases q with
  | fz t=>cases ar;exact Is.mono (Qcy fun b h=>h.1) pv.is
  | ow t =>
   cases ar
   obtain ⟨c,rfl,_,_,_,ob,ec,ql⟩:=pv
   exact ql.is (by rw [Qb9 fun z=>z.2 (Qpi ev eq)];exact ec) (Qcy fun b h=>h.1)
  | sl k =>
   have pv:σ[k]?=some (some v):=pv
   rw [Qjs] at ar
   have sk:=F'.slot k
   cases hs:Qb ρ k with
   | un=>rw [hs] at ar;cases ar
   | pin _=>rw [hs] at ar;cases ar
   | fx _=>rw [hs] at ar;cases ar
   | fz t=>rw [hs] at ar;cases ar
   | ow t=>rw [hs] at ar sk;cases ar;obtain ⟨c,h1,h2,h3⟩:=sk;rw [pv] at h1;cases h1;exact ⟨c,rfl,h2,h3⟩
   | ml t=>rw [hs] at ar sk;cases ar;obtain ⟨c,h1,h2,h3⟩:=sk;rw [pv] at h1;cases h1;exact ⟨c,rfl,h2,h3⟩
   | ro t=>rw [hs] at ar sk;cases ar;obtain ⟨c,h1,h2,h3⟩:=sk;rw [pv] at h1;cases h1;exact ⟨c,rfl,h2,h3⟩
 ·obtain ⟨q1,e1,a1⟩:=g1 i x ex
  obtain ⟨q2,e2,a2⟩:=g1 j y ey
  obtain ⟨k1,t1,rfl,s1⟩:=Qpj a1 px
  obtain ⟨k2,t2,rfl,s2⟩:=Qpj a2 py
  have p1:σ[k1]?=some (some (.ref b)):=r.get vx e1
  have p2:σ[k2]?=some (some (.ref b)):=r.get vy e2
  have ek:=F.apart k1 k2 b ⟨⟨t1,s1⟩,p1⟩ ⟨⟨t2,s2⟩,p2⟩
  subst ek
  exact Qm8 hb i j k1 e1 e2
theorem Ql2 {s:Slot} {t u:T} (h:(s.put t).prv=some u):∃ w,s.prv=some w:=by
 cases s <;> first | exact ⟨_,rfl⟩ | cases h
theorem Qm9 {i:Nat} {u:T} (h:(Qb (Qao ρ rs fin) i).prv=some u):∃ w,(Qb ρ i).prv=some w:=by
 rw [Qdi] at h
 rcases Qcb rs fin i (Qb ρ i) with e | ⟨k,t,_,_,e⟩
 ·rw [e] at h;exact ⟨u,h⟩
 ·rw [e] at h;exact Ql2 h
theorem Q4l {i:Nat} {u:T} (h:Qb (Qao ρ rs fin) i=.ow u):∃ w,Qb ρ i=.ow w:=by
 rw [Qdi] at h
 rcases Qcb rs fin i (Qb ρ i) with e | ⟨k,t,_,_,e⟩
 ·rw [e] at h;exact ⟨u,h⟩
 ·rw [e] at h
  cases hs:Qb ρ i <;> rw [hs] at h <;> first | exact ⟨_,rfl⟩ | cases h
theorem Qwa {i:Nat} {u:T} (h:Qb (Qao ρ rs fin) i=.ml u):∃ w,Qb ρ i=.ml w:=by
 rw [Qdi] at h
 rcases Qcb rs fin i (Qb ρ i) with e | ⟨k,t,_,_,e⟩
 ·rw [e] at h;exact ⟨u,h⟩
 ·rw [e] at h
  cases hs:Qb ρ i <;> rw [hs] at h <;> first | exact ⟨_,rfl⟩ | cases h
theorem Q4m {i:Nat} {u:T} (h:Qb (Qao ρ rs fin) i=.ro u):∃ w,Qb ρ i=.ro w:=by
 rw [Qdi] at h
 rcases Qcb rs fin i (Qb ρ i) with e | ⟨k,t,_,_,e⟩
 ·rw [e] at h;exact ⟨u,h⟩
 ·rw [e] at h
  cases hs:Qb ρ i <;> rw [hs] at h <;> first | exact ⟨_,rfl⟩ | cases h
theorem Q4n {i:Nat} {u:T} (h:Qb (Qao ρ rs fin) i=.fx u):∃ w,Qb ρ i=.fx w:=by
 rw [Qdi] at h
 rcases Qcb rs fin i (Qb ρ i) with e | ⟨k,t,_,_,e⟩
 ·rw [e] at h;exact ⟨u,h⟩
 ·rw [e] at h
  cases hs:Qb ρ i <;> rw [hs] at h <;> first | exact ⟨_,rfl⟩ | cases h
theorem FI.called (F:FI B H G σ ρ) (A:ArgsR H G vs as) (hv:∀ (k i:Nat) (v:V),rs[k]?=some (.sl i)→vs[k]?=some v→σ[i]?=some (some v)) (hl:vs.length=rs.length) (ea:Qt ρ rs=some as) (hb:Qs rs=true) (C:CallP H G vs as H1 G1 fin):FI B H1 G1 σ (Qao ρ rs fin):=by
 have ml:∀ b,Qv9 vs as b→∃ (k i:Nat) (t:T),rs[k]?=some (.sl i)∧as[k]?=some (.ml t)∧vs[k]?=some (.ref b)∧(Qb ρ i=.ow t∨Qb ρ i=.ml t)∧σ[i]?=some (some (.ref b)):=fun b h=>by
  obtain ⟨k,t,e1,e2⟩:=h
  obtain ⟨q,eq,ar⟩:=(Qgc ea).2 k _ e1
  obtain ⟨i,rfl,hs⟩:=Q0t ar
  exact ⟨k,i,t,eq,e1,e2,hs,hv k i _ eq e2⟩
 have mp:∀ b,Qv9 vs as b→OwA σ ρ b∨MlA σ ρ b:=fun b h=>by
  obtain ⟨k,i,t,_,_,_,hs | hs,e⟩:=ml b h
  ·exact .inl ⟨i,t,hs,e⟩
  ·exact .inr ⟨i,t,hs,e⟩
 have sm:Same (dls H G) (dls H1 G1):=fun b o e=>by
  obtain ⟨n,e⟩:=Qan e
  have e1:=C.chg b o (fun z=>n ((mp b z).elim F.ownG F.mlG)) e
  rw [Qb9 fun z=>?_]
  ·exact e1
  ·rcases C.gn b z with z | z
   ·exact n z
   ·rw [z] at e;cases e
 -- a slot's list that is not lent
 have stay:∀ i a t,(Qb ρ i).prv=some t→σ[i]?=some (some (.ref a))→OwnAt H G a t→((∀ t,Qb ρ i≠.ow t)∧(∀ t,Qb ρ i≠.ml t)∨Qj rs i=none)→OwnAt H1 G1 a t:=fun i a t e s o h=>by
  refine o.mono sm fun u eu=>C.chg a u (fun z=>?_) eu
  obtain ⟨k,j,t',e1,_,_,hs,e2⟩:=ml a z
  have ej:j=i:=F.apart j i a ⟨⟨t',by rcases hs with hs | hs <;> rw [hs] <;> rfl⟩,e2⟩ ⟨⟨t,e⟩,s⟩
  subst ej
  rcases h with ⟨h1,h2⟩ | h
  ·rcases hs with hs | hs
   ·exact h1 _ hs
   ·exact h2 _ hs
  ·exact Qjt h e1
 -- one that is lent
 have lent:∀ i a t k,(Qb ρ i=.ow t∨Qb ρ i=.ml t)→σ[i]?=some (some (.ref a))→Qj rs i=some k→∃ t',fin[k]?=some t'∧OwnAt H1 G1 a t':=fun i a t k hs s hk=>by
  have e1:=Qem hk
  have hk':k<vs.length:=by rw [hl];exact (List.getElem?_eq_some_iff.mp e1).1
  have e2:=hv k i _ e1 (getElem?_eq_getElem hk')
  rw [s] at e2
  have e3:vs[k]?=some (.ref a):=by rw [getElem?_eq_getElem hk'];rw [←Option.some.inj (Option.some.inj e2)]
  have hk2:k<as.length:=by rw [←A.len];exact hk'
  obtain ⟨q,eq,ar⟩:=(Qgc ea).2 k _ (getElem?_eq_getElem hk2)
  rw [e1] at eq
  cases eq
  have e4:as[k]?=some (.ml t):=by
   rw [getElem?_eq_getElem hk2,←ar]
   rw [Qjs]
   rcases hs with hs | hs <;> rw [hs]
  exact C.fin k t a e4 e3
 exact {
  len:=by unfold Qao;rw [Qjr];exact F.len
  slot:=fun i=>by
   have q:=F.slot i
   have bc:=Qcb rs fin i (Qb ρ i)
   rw [Qdi]
   cases hs:Qb ρ i with
   | un =>
    rw [hs] at bc
    rcases bc with e | ⟨k,t,_,_,e⟩ <;> rw [e] <;> trivial
   | pin a =>
    rw [hs] at q bc
    rcases bc with e | ⟨k,t,_,_,e⟩ <;> rw [e] <;> exact q
   | fz t =>
    rw [hs] at q bc
    obtain ⟨v,e1,e2⟩:=q
    rcases bc with e | ⟨k,t,_,_,e⟩ <;> rw [e] <;> exact ⟨v,e1,e2.mono sm⟩
   | fx t =>
    rw [hs] at q bc
    obtain ⟨v,o,e1,e3,e2⟩:=q
    rcases bc with e | ⟨k,t,_,_,e⟩ <;> rw [e] <;> exact ⟨v,o,e1,sm _ _ e3,e2.mono sm⟩
   | ro t =>
    rw [hs] at q bc
    obtain ⟨a,e1,g,o⟩:=q
    have o':=stay i a t (by rw [hs];rfl) e1 o (.inl ⟨fun t z=>(by rw [hs] at z;cases z),fun t z=>(by rw [hs] at z;cases z)⟩)
    rcases bc with e | ⟨k,t,_,_,e⟩ <;> rw [e] <;> exact ⟨a,e1,C.gg a g,o'⟩
   | ow t =>
    rw [hs] at q bc
    obtain ⟨a,e1,g,o⟩:=q
    cases hp:Qj rs i with
    | none =>
     have o':=stay i a t (by rw [hs];rfl) e1 o (.inr hp)
     rcases bc with e | ⟨k,t',h,_,e⟩
     ·rw [e];exact ⟨a,e1,C.gg a g,o'⟩
     ·rw [hp] at h;cases h
    | some k =>
     obtain ⟨t',ef,o'⟩:=lent i a t k (.inl hs) e1 hp
     have e:Qv rs fin i (.ow t)=.ow t':=by unfold Qv;rw [hp];simp only [ef];rfl
     rw [e]
     exact ⟨a,e1,C.gg a g,o'⟩
   | ml t =>
    rw [hs] at q bc
    obtain ⟨a,e1,g,o⟩:=q
    cases hp:Qj rs i with
    | none =>
     have o':=stay i a t (by rw [hs];rfl) e1 o (.inr hp)
     rcases bc with e | ⟨k,t',h,_,e⟩
     ·rw [e];exact ⟨a,e1,C.gg a g,o'⟩
     ·rw [hp] at h;cases h
    | some k =>
     obtain ⟨t',ef,o'⟩:=lent i a t k (.inr hs) e1 hp
     have e:Qv rs fin i (.ml t)=.ml t':=by unfold Qv;rw [hp];simp only [ef];rfl
     rw [e]
     exact ⟨a,e1,C.gg a g,o'⟩
  apart:=fun i j a h1 h2=>F.apart i j a ⟨let ⟨u,e⟩:=h1.1;Qm9 e,h1.2⟩ ⟨let ⟨u,e⟩:=h2.1;Qm9 e,h2.2⟩
  prv:=C.prv
  chg:=fun b o h1 h2 e=>C.chg b o (fun z=>by
   rcases mp b z with z | z
   ·rcases F.newO b z with z | z
    ·rw [e] at z;cases z
    ·exact h1 z
   ·exact h2 (F.newM b z)) (F.chg b o h1 h2 e)
  keep:=fun b o e=>by
   obtain ⟨o1,e1⟩:=F.keep b o e
   exact C.keep b o1 e1
  newO:=fun a h=>by
   obtain ⟨i,t,e,s⟩:=h
   obtain ⟨w,e⟩:=Q4l e
   exact F.newO a ⟨i,w,e,s⟩
  newM:=fun a h=>by
   obtain ⟨i,t,e,s⟩:=h
   obtain ⟨w,e⟩:=Qwa e
   exact F.newM a ⟨i,w,e,s⟩
  fix:=fun i a h=>by
   obtain ⟨⟨t,e⟩,s⟩:=h
   refine F.fix i a ⟨?_,s⟩
   rcases e with e | e | e
   ·obtain ⟨w,e⟩:=Qwa e;exact ⟨w,.inl e⟩
   ·obtain ⟨w,e⟩:=Q4m e;exact ⟨w,.inr (.inl e)⟩
   ·obtain ⟨w,e⟩:=Q4n e;exact ⟨w,.inr (.inr e)⟩
  gg:=fun b h=>C.gg b (F.gg b h)
  gn:=fun b h=>by
   rcases C.gn b h with z | z
   ·exact F.gn b z
   ·exact .inr (F.free z)
  bp:=F.bp }
end
section
variable {X:Cx} {p:Pr} {x:Str} {e:Expr} {es:List Expr} {es':Es} {f k:Nat} {ps:List Str} {pos p1:Pos}
theorem Q4o {σ:St} {H:Hp} {Q:VK} (h:tE p (.call f es') σ H Q):Qz6 (spF p.cf p.mg f) p.R (tA p es') σ H Q:=by
 obtain ⟨G,ρ,F,h⟩:=h
 unfold evE at h
 refine ⟨G,ρ,F,h.bind.imp fun rs ρ1 h1 vs H1 G1 F1 r1=>?_⟩
 unfold Qlf at h1
 by_cases hb:Qs rs=true
 ·rw [if_pos hb] at h1
  cases ea:Qt ρ1 rs with
  | none=>rw [ea] at h1;exact False.elim h1
  | some as =>
   rw [ea] at h1
   replace h1:Fin p (Qaz H G σ ρ) σ (match p.cf f as with | .ok r fin=>.ok r (Qao ρ1 rs fin) | .xn x fin=>.xn x (Qao ρ1 rs fin) | .no=>.no) _:=h1
   obtain ⟨G',F',A⟩:=Q4k (B:=Qaz H G σ ρ) F1 r1 ea hb
   have hv:∀ (k i:Nat) (v:V),rs[k]?=some (.sl i)→vs[k]?=some v→σ[i]?=some (some v):=fun k i v e1 e2=>r1.get e2 e1
   refine ⟨G',as,A,F'.prv,?_⟩
   cases ec:p.cf f as with
   | no=>rw [ec] at h1;exact False.elim h1
   | xn z fin =>
    rw [ec] at h1
    exact fun cls dx H' G2 C xr=>h1 cls dx H' G2 (F'.called A hv r1.len ea hb C) xr
   | ok r fin =>
    rw [ec] at h1
    refine fun v H' G2 C rr=>h1 v H' G2 (F'.called A hv r1.len ea hb C) ?_
    cases r with
    | sl i=>exact False.elim rr
    | fz t=>exact rr
    | ow t =>
     obtain ⟨a,rfl,n,g,o⟩:=rr
     refine ⟨a,rfl,F'.free n,g,fun i hp=>?_,o⟩
     obtain ⟨w,e⟩:=Qm9 hp.1.choose_spec
     obtain ⟨_,t,ob,ea,_⟩:=PrvAt.at F' ⟨⟨w,e⟩,hp.2⟩
     rw [n] at ea
     cases ea
 ·rw [if_neg hb] at h1
  exact False.elim h1
theorem Qaae (h:HasE X.prog X.w X.K X.mg X.base x ps k (spF p.cf p.mg f)) (pz:Qmu X p.R) (hr:Room k X.A) (ha:QA X (e::es) (tA p es')) (hg:Gl X x) (hdb:(x==("__debug__" : Str))=false) (h1:Qam e=true) (h2:es.all Qam=true) :
  QE X (.Call (.Name x p1) (e::es) [] pos) (tE p (.call f es')):=(Qadi h pz hr ha hg hdb (Qcx h1) (Qjq h2)).weak fun σ H Q h=>Q4o h
end
section
variable {B:Bs} {H H1:Hp} {G G1:Addr→Prop} {σ:St} {ρ ρ':En} {i:Nat} {v:V} {t:T}
theorem st_set {w:Option V} (h:i<σ.length):(σ.set i w)[i]?=some w:=by rw [List.getElem?_set_self h]
theorem Qg3 {j:Nat} {w:Option V} (h:j≠i):(σ.set i w)[j]?=σ[j]?:=by rw [List.getElem?_set_ne (fun z=>h z.symm)]
theorem FI.lay (F:FI B H G σ ρ) (hi:i<ρ.length) {s:Slot} {w:Option V} (hs:Qm0 H G (σ.set i w) i s) (hp:∀ a,(∃ t,s.prv=some t)→w=some (.ref a)→∀ j,j≠i→¬ PrvAt σ ρ j a)
  (ho:∀ t a,s=.ow t→w=some (.ref a)→B.H a=none∨B.O a) (hm:∀ t,s≠.ml t) (hr:∀ t,s≠.ro t) (hx:∀ t,s≠.fx t:=by intro _ z;cases z):FI B H G (σ.set i w) (ρ.set i s):=by
 have hl:i<σ.length:=by rw [F.len];exact hi
 have sa:∀ j,Qb (ρ.set i s) j=if j=i then s else Qb ρ j:=fun j=>by
  rw [Qca]
  by_cases e:j=i
  ·rw [if_pos ⟨e,hi⟩,if_pos e]
  ·rw [if_neg (fun z=>e z.1),if_neg e]
 have old:∀ j a,PrvAt (σ.set i w) (ρ.set i s) j a→j≠i→PrvAt σ ρ j a:=fun j a h n=>by
  obtain ⟨⟨u,e⟩,q⟩:=h
  rw [sa,if_neg n] at e
  rw [Qg3 n] at q
  exact ⟨⟨u,e⟩,q⟩
 have here:∀ a,PrvAt (σ.set i w) (ρ.set i s) i a→(∃ t,s.prv=some t)∧w=some (.ref a):=fun a h=>by
  obtain ⟨⟨u,e⟩,q⟩:=h
  rw [sa,if_pos rfl] at e
  rw [st_set hl] at q
  exact ⟨⟨u,e⟩,Option.some.inj q⟩
 exact {
  len:=by rw [length_set,length_set];exact F.len
  slot:=fun j=>by
   rw [sa]
   by_cases e:j=i
   ·rw [if_pos e,e];exact hs
   ·rw [if_neg e]
    have q:=F.slot j
    cases hh:Qb ρ j with
    | un=>trivial
    | pin a=>rw [hh] at q;show (σ.set i _)[j]?=_;rw [Qg3 e];exact q
    | fz t=>rw [hh] at q;obtain ⟨v,a,b⟩:=q;exact ⟨v,by rw [Qg3 e];exact a,b⟩
    | fx t=>rw [hh] at q;obtain ⟨v,o,a,b⟩:=q;exact ⟨v,o,by rw [Qg3 e];exact a,b⟩
    | ow t=>rw [hh] at q;obtain ⟨v,a,b⟩:=q;exact ⟨v,by rw [Qg3 e];exact a,b⟩
    | ml t=>rw [hh] at q;obtain ⟨v,a,b⟩:=q;exact ⟨v,by rw [Qg3 e];exact a,b⟩
    | ro t=>rw [hh] at q;obtain ⟨v,a,b⟩:=q;exact ⟨v,by rw [Qg3 e];exact a,b⟩
  apart:=fun j k a h1 h2=>by
   by_cases e1:j=i
   ·by_cases e2:k=i
    ·rw [e1,e2]
    ·rw [e1] at h1
     exact (hp a (here a h1).1 (here a h1).2 k e2 (old k a h2 e2)).elim
   ·by_cases e2:k=i
    ·rw [e2] at h2
     exact (hp a (here a h2).1 (here a h2).2 j e1 (old j a h1 e1)).elim
    ·exact F.apart j k a (old j a h1 e1) (old k a h2 e2)
  prv:=F.prv
  chg:=F.chg
  keep:=F.keep
  newO:=fun a h=>by
   obtain ⟨j,u,e,q⟩:=h
   rw [sa] at e
   by_cases z:j=i
   ·rw [if_pos z] at e
    rw [z,st_set hl] at q
    exact ho u a e (Option.some.inj q)
   ·rw [if_neg z] at e
    rw [Qg3 z] at q
    exact F.newO a ⟨j,u,e,q⟩
  newM:=fun a h=>by
   obtain ⟨j,u,e,q⟩:=h
   rw [sa] at e
   by_cases z:j=i
   ·rw [if_pos z] at e;exact (hm u e).elim
   ·rw [if_neg z] at e
    rw [Qg3 z] at q
    exact F.newM a ⟨j,u,e,q⟩
  fix:=fun j a h=>by
   obtain ⟨⟨u,e⟩,q⟩:=h
   rw [sa] at e
   by_cases z:j=i
   ·rw [if_pos z] at e
    rcases e with e | e | e
    ·exact (hm u e).elim
    ·exact (hr u e).elim
    ·exact (hx u e).elim
   ·rw [if_neg z] at e
    rw [Qg3 z] at q
    exact F.fix j a ⟨⟨u,e⟩,q⟩
  gg:=F.gg
  gn:=F.gn
  bp:=F.bp }
theorem FI.setFz (F:FI B H G σ ρ) (hi:i<ρ.length) (hv:Is (dls H G) v t):FI B H G (σ.set i (some v)) (ρ.set i (.fz t)) :=
 F.lay hi ⟨v,st_set (by rw [F.len];exact hi),hv⟩ (fun a h=>by obtain ⟨u,e⟩:=h;cases e) (fun _ _ e=>by cases e) (fun _ e=>by cases e) (fun _ e=>by cases e)
theorem Qkp {s:Slot} (h:Qbk i s ρ=some ρ'):i<ρ.length∧ρ'=ρ.set i s:=by
 unfold Qbk at h
 by_cases z:i<ρ.length
 ·rw [if_pos z] at h
  cases hs:Qb ρ i <;> rw [hs] at h <;> first | (cases h;done) | exact ⟨z,(Option.some.inj h).symm⟩
 ·rw [if_neg z] at h;cases h
theorem FI.setS (F:FI B H G σ ρ) (h:L2.Qbk i (.fz t) ρ=some ρ') (hv:Is (dls H G) v t):FI B H G (σ.set i (some v)) ρ':=by
 obtain ⟨h1,rfl⟩:=Qkp h
 exact F.setFz h1 hv
theorem FI.setOw {H0:Hp} (F:FI B H G σ ρ) (hb:B.H=H0) (h:L2.Qbk i (.ow t) ρ=some ρ') (hv:TmpR H0 H G σ ρ v t):FI B H G (σ.set i (some v)) ρ':=by
 obtain ⟨h1,rfl⟩:=Qkp h
 obtain ⟨a,rfl,n,g,np,o⟩:=hv
 refine F.lay h1 ⟨a,st_set (by rw [F.len];exact h1),g,o⟩ (fun b _ e j _=>?_) (fun _ b _ e=>?_) (fun _ e=>by cases e) (fun _ e=>by cases e)
 ·cases e;exact np j
 ·cases e;exact .inl (by rw [hb];exact n)
theorem FI.forget (F:FI B H G σ ρ) (i:Nat):FI B H G σ (ρ.set i .un):=by
 have sa:∀ j,Qb (ρ.set i .un) j=.un∨Qb (ρ.set i .un) j=Qb ρ j:=fun j=>by
  rw [Qca]
  by_cases e:j=i∧i<ρ.length
  ·rw [if_pos e];exact .inl rfl
  ·rw [if_neg e];exact .inr rfl
 have old:∀ j a,PrvAt σ (ρ.set i .un) j a→PrvAt σ ρ j a:=fun j a h=>by
  obtain ⟨⟨u,e⟩,q⟩:=h
  rcases sa j with z | z
  ·rw [z] at e;cases e
  ·rw [z] at e;exact ⟨⟨u,e⟩,q⟩
 exact { F with
  len:=by rw [length_set];exact F.len
  slot:=fun j=>by
   rcases sa j with z | z
   ·rw [z];trivial
   ·rw [z];exact F.slot j
  apart:=fun j k a h1 h2=>F.apart j k a (old j a h1) (old k a h2)
  newO:=fun a h=>by
   obtain ⟨j,u,e,q⟩:=h
   rcases sa j with z | z
   ·rw [z] at e;cases e
   ·rw [z] at e;exact F.newO a ⟨j,u,e,q⟩
  newM:=fun a h=>by
   obtain ⟨j,u,e,q⟩:=h
   rcases sa j with z | z
   ·rw [z] at e;cases e
   ·rw [z] at e;exact F.newM a ⟨j,u,e,q⟩
  fix:=fun j a h=>by
   obtain ⟨⟨u,e⟩,q⟩:=h
   rcases sa j with z | z
   ·rw [z] at e;rcases e with e | e | e <;> cases e
   ·rw [z] at e;exact F.fix j a ⟨⟨u,e⟩,q⟩ }
theorem FI.freeze (F:FI B H G σ ρ) (hO:∀ a,¬ B.O a) (hs:Qb ρ i=.ow t):∃ G1,FI B H G1 σ (ρ.set i (.fz t))∧Same (dls H G) (dls H G1):=by
 have hi:i<ρ.length:=Qhz (by rw [hs];intro z;cases z)
 have q:=F.slot i
 rw [hs] at q
 obtain ⟨a,e,g,ob,ea,il⟩:=q
 have F1:=F.forget i
 have np:∀ j,¬ PrvAt σ (ρ.set i .un) j a:=fun j h=>by
  have hj:j≠i:=fun z=>by
   obtain ⟨⟨u,e⟩,_⟩:=h
   rw [z,Qca,if_pos ⟨rfl,hi⟩] at e
   cases e
  obtain ⟨⟨u,e2⟩,q2⟩:=h
  rw [Qca,if_neg (fun z=>hj z.1)] at e2
  exact hj (F.apart j i a ⟨⟨u,e2⟩,q2⟩ ⟨⟨_,by rw [hs];rfl⟩,e⟩)
 have hb:B.H a=none:=by
  rcases F.newO a ⟨i,_,hs,e⟩ with z | z
  ·exact z
  ·exact (hO a z).elim
 have F2:=F1.lessG (fun b=>b=a) fun b hb'=>⟨hb' ▸ hb,hb' ▸ np⟩
 have hv:Is (dls H fun b=>G b∧¬ b=a) (.ref a) t:=il.is (by rw [Qb9 fun z=>z.2 rfl];exact ea) (Qcy fun b h=>h.1)
 have F3:=F2.setFz (i:=i) (by rw [length_set];exact hi) hv
 rw [List.set_set] at F3
 have e3:σ.set i (some (.ref a))=σ:=by
  apply List.ext_getElem?
  intro j
  by_cases hj:j=i
  ·rw [hj,e,st_set (by rw [F.len];exact hi)]
  ·rw [Qg3 hj]
 rw [e3] at F3
 exact ⟨_,F3,Qcy fun b h=>h.1⟩
theorem FI.changeO (F:FI B H G σ ρ) {t0 u0:T} {ob:HO} {s':Slot} (hs:(Qb ρ i=.ow t0∧s'=.ow u0)∨(Qb ρ i=.ml t0∧s'=.ml u0)) {a:Addr} (e:σ[i]?=some (some (.ref a))) (il:OwnO (dls H G) u0 ob) :
  FI B (upd H a ob) G σ (ρ.set i s')∧Same (dls H G) (dls (upd H a ob) G):=by
 have hpv:(Qb ρ i).prv=some t0:=by rcases hs with ⟨h,_⟩ | ⟨h,_⟩ <;> rw [h] <;> rfl
 have hi:i<ρ.length:=Qhz (by rcases hs with ⟨h,_⟩ | ⟨h,_⟩ <;> rw [h] <;> intro z <;> cases z)
 obtain ⟨a',e',g,o',ea,_⟩:=F.prvAt hpv
 rw [e] at e'
 cases e'
 have sa:∀ j,Qb (ρ.set i s') j=if j=i then s' else Qb ρ j:=fun j=>by
  rw [Qca]
  by_cases e:j=i
  ·rw [if_pos ⟨e,hi⟩,if_pos e]
  ·rw [if_neg (fun z=>e z.1),if_neg e]
 have sm:Same (dls H G) (dls (upd H a ob) G):=fun b o eb=>by
  obtain ⟨n,eb⟩:=Qan eb
  rw [Qb9 n,Qab (fun (z:b=a)=>n (by rw [z];exact g))]
  exact eb
 have pv':∀ j b,PrvAt σ (ρ.set i s') j b→PrvAt σ ρ j b:=fun j b h=>by
  obtain ⟨⟨u,e1⟩,q⟩:=h
  rw [sa] at e1
  by_cases hj:j=i
  ·rw [hj] at q ⊢;exact ⟨⟨_,hpv⟩,q⟩
  ·rw [if_neg hj] at e1;exact ⟨⟨u,e1⟩,q⟩
 have own:OwnAt (upd H a ob) G a u0:=⟨ob,Q6,il.mono sm⟩
 refine ⟨{
  len:=by rw [length_set];exact F.len
  slot:=fun j=>by
   rw [sa]
   by_cases hj:j=i
   ·rw [if_pos hj,hj]
    rcases hs with ⟨_,h⟩ | ⟨_,h⟩ <;> rw [h] <;> exact ⟨a,e,g,own⟩
   ·rw [if_neg hj]
    refine Qiv (F.slot j) sm fun b o hb1 hb2 eb=>?_
    have nb:b≠a:=fun z=>hj (F.apart j i a ⟨hb1,z ▸ hb2⟩ ⟨⟨_,hpv⟩,e⟩)
    exact ⟨by rw [Qab nb];exact eb,(PrvAt.at F ⟨hb1,hb2⟩).1⟩
  apart:=fun j k b h1 h2=>F.apart j k b (pv' j b h1) (pv' k b h2)
  prv:=fun b hb=>by
   by_cases h:b=a
   ·exact ⟨ob,by rw [h,Q6],il.pen⟩
   ·rw [Qab h];exact F.prv b hb
  chg:=fun b o h1 h2 eb=>by
   have nb:b≠a:=fun z=>by
    rcases hs with ⟨h,_⟩ | ⟨h,_⟩
    ·rcases F.newO a ⟨i,_,h,e⟩ with y | y
     ·rw [z,y] at eb;cases eb
     ·exact h1 (z ▸ y)
    ·exact h2 (z ▸ F.newM a ⟨i,_,h,e⟩)
   rw [Qab nb]
   exact F.chg b o h1 h2 eb
  keep:=fun b o eb=>by
   by_cases h:b=a
   ·exact ⟨_,by rw [h,Q6]⟩
   ·rw [Qab h];exact F.keep b o eb
  newO:=fun b h=>by
   obtain ⟨j,u,e1,q⟩:=h
   rw [sa] at e1
   by_cases hj:j=i
   ·rw [if_pos hj] at e1
    rcases hs with ⟨h,h2⟩ | ⟨h,h2⟩
    ·exact F.newO b ⟨i,_,h,hj ▸ q⟩
    ·rw [h2] at e1;cases e1
   ·rw [if_neg hj] at e1;exact F.newO b ⟨j,u,e1,q⟩
  newM:=fun b h=>by
   obtain ⟨j,u,e1,q⟩:=h
   rw [sa] at e1
   by_cases hj:j=i
   ·rw [if_pos hj] at e1
    rcases hs with ⟨h,h2⟩ | ⟨h,h2⟩
    ·rw [h2] at e1;cases e1
    ·exact F.newM b ⟨i,_,h,hj ▸ q⟩
   ·rw [if_neg hj] at e1;exact F.newM b ⟨j,u,e1,q⟩
  fix:=fun j b h=>by
   obtain ⟨⟨u,e1⟩,q⟩:=h
   rw [sa] at e1
   by_cases hj:j=i
   ·rw [if_pos hj] at e1
    rcases hs with ⟨h,h2⟩ | ⟨h,h2⟩
    ·rw [h2] at e1;rcases e1 with e1 | e1 | e1 <;> cases e1
    ·exact F.fix j b ⟨⟨_,.inl (by rw [hj];exact h)⟩,q⟩
   ·rw [if_neg hj] at e1;exact F.fix j b ⟨⟨u,e1⟩,q⟩
  gg:=F.gg
  gn:=F.gn
  bp:=F.bp },sm⟩
theorem FI.change (F:FI B H G σ ρ) {ts us:List T} {ws:List V} {s':Slot} (hs:(Qb ρ i=.ow (.lst ts)∧s'=.ow (.lst us))∨(Qb ρ i=.ml (.lst ts)∧s'=.ml (.lst us))) {a:Addr} (e:σ[i]?=some (some (.ref a))) (il:IsL (dls H G) ws us) (z:us.length≤100000) :
  FI B (upd H a (.lst ws)) G σ (ρ.set i s')∧Same (dls H G) (dls (upd H a (.lst ws)) G):=F.changeO hs e ⟨z,il⟩
end
theorem QG.weak {X:Cx} {e:Expr} {t t':TG} (h:QG X e t) (q:∀ v σ H Q,t' v σ H Q→t v σ H Q):QG X e t':=⟨fun pins s σ H v u Q I r z=>h.h pins s σ H v u Q I r (q _ _ _ _ z)⟩
theorem QI.weak {X:Cx} {tg e:Expr} {t t':TI} (h:QI X tg e t) (q:∀ σ H R,t' σ H R→t σ H R):QI X tg e t':=⟨fun pins s σ H R I z=>h.h pins s σ H R I (q _ _ _ z)⟩
theorem QC.weak {X:Cx} {e:List Expr} {t t':TT} (h:QC X e t) (q:∀ σ H Q,t' σ H Q→t σ H Q):QC X e t':=⟨fun pins s σ H Q I z=>h.h pins s σ H Q I (q _ _ _ z)⟩
noncomputable def tG (tg:Tg):TG:=fun v σ H Q=>∃ B G ρ t ρ',FI B H G σ ρ∧Is (dls H G) v t∧Qeb tg t ρ=some ρ'∧∀ σ',FI B H G σ' ρ'→(∀ k a,PrvAt σ' ρ' k a→PrvAt σ ρ k a)→Q σ' H
theorem Qsi {i:Nat} {t:T} {σ:St} {ρ ρ':En} {v:V} (h:Qbk i (.fz t) ρ=some ρ'):∀ k a,PrvAt (σ.set i (some v)) ρ' k a→PrvAt σ ρ k a:=fun k a hk=>by
 obtain ⟨h1,rfl⟩:=Qkp h
 obtain ⟨⟨u,e⟩,q⟩:=hk
 rw [Qca] at e
 by_cases z:k=i∧i<ρ.length
 ·rw [if_pos z] at e;cases e
 ·rw [if_neg z] at e
  have hk:k≠i:=fun y=>z ⟨y,h1⟩
  rw [Qg3 hk] at q
  exact ⟨⟨u,e⟩,q⟩
noncomputable def Qwb:List Nat→TGs
 | []=>Q8a
 | i::is=>Qy6 (Qe5 i) (Qwb is)
section
variable {X:Cx} {e:Expr} {es:List Expr} {pos:Pos}
theorem Qaj {i:Nat} (h:QG X e (Qe5 i)):QG X e (tG (.nm i)):=h.weak fun v σ H Q ⟨B,G,ρ,t,ρ',F,hv,hs,q⟩=>q _ (F.setS hs hv) (Qsi hs)
theorem Qqn {B:Bs} {H:Hp} {G:Addr→Prop} {Q:St→Hp→Prop}:∀ {is:List Nat} {ts:List T} {xs:List V} {σ:St} {ρ ρ':En},FI B H G σ ρ→IsL (dls H G) xs ts→Qcz is ts ρ=some ρ'→(∀ σ',FI B H G σ' ρ'→(∀ k a,PrvAt σ' ρ' k a→PrvAt σ ρ k a)→Q σ' H)→Qwb is xs σ H Q
 | [],[],xs,σ,ρ,ρ',F,r,e,q=>by
  cases e
  exact ⟨r.nil_inv,q σ F fun _ _ h=>h⟩
 | i::is,t::ts,xs,σ,ρ,ρ',F,r,e,q=>by
  obtain ⟨v,w,rfl,a,r⟩:=r.cons_inv
  unfold Qcz at e
  cases h:Qbk i (.fz t) ρ with
  | none=>rw [h] at e;cases e
  | some ρ1 =>
   rw [h] at e
   exact ⟨v,w,rfl,Qqn (F.setS h a) r e fun σ' F' o=>q σ' F' fun k b hk=>Qsi h k b (o k b hk)⟩
 | [],_::_,_,_,_,_,_,_,e,_=>by cases e
 | _::_,[],_,_,_,_,_,_,e,_=>by cases e
theorem Qhc:∀ {is:List Nat} {ts:List T} {ρ ρ':En},Qcz is ts ρ=some ρ'→ts.length=is.length
 | [],[],_,_,_=>rfl
 | i::is,t::ts,ρ,ρ',e=>by
  unfold Qcz at e
  cases h:Qbk i (.fz t) ρ with
  | none=>rw [h] at e;cases e
  | some ρ1=>rw [h] at e;rw [length_cons,length_cons,Qhc e]
 | [],_::_,_,_,e=>by cases e
 | _::_,[],_,_,e=>by cases e
theorem Q0u {K:PySem.W.Frag} {n:Nat} {is:List Nat} (h:QG X e (Q29 K n (Qwb is))) (hn:is.length=n):QG X e (tG (.tp is)):=h.weak fun v σ H Q zz1=>by
 obtain ⟨B,G,ρ,t,ρ',F,hv,hs,q⟩:=zz1
 cases t <;> first | (cases hs;done) | skip
 have hs:Qcz is _ ρ=some ρ':=hs
 obtain ⟨a,vs,rfl,ea,r⟩:=hv.tup_inv
 exact ⟨a,vs,rfl,SqT.of (Qan ea).2,by rw [r.length,Qhc hs,hn],Qqn F r hs q⟩
end
structure WkR (J:It) (H0:Hp) (G0:Addr→Prop) (Ok:Hp→Prop) (ts:List T):Prop where
 go:∀ i H,i<ts.length→Ok H→J.go i H
 stop:∀ i H,ts.length≤i→Ok H→J.stop i H
 yld:∀ i H x H',i<ts.length→Ok H→J.yld i H x H'→Same H H'∧∃ t,ts[i]?=some t∧∀ G,Pen H G→Same (dls H0 G0) (dls H G)→Is (dls H' G) x t
noncomputable def tW (p:Pr) (w:W):TI:=fun σ H R=>∃ G ρ,FI (Qaz H G σ ρ) H G σ ρ∧Fin p (Qaz H G σ ρ) σ (evW p.cf w ρ) fun its ρ1=>its.2=none∧∀ J H1 G1 Ok,FI (Qaz H G σ ρ) H1 G1 σ ρ1→WkR J H1 G1 Ok its.1→(∀ H' G',Same (dls H1 G1) (dls H' G')→Ok H')→R J H1
section
variable {X:Cx} {p:Pr} {e a b tg:Expr} {a' b' e':E} {pos p1:Pos} {K:PySem.W.Frag}
theorem wk_l {H:Hp} {G:Addr→Prop} {l:Addr} {vs:List V} {ts:List T} (r:IsL (dls H G) vs ts):WkR (Itl K l) H G (fun H'=>SqL K H' l vs) ts where
 go:=fun i H' hi ok=>⟨vs,_,ok,getElem?_eq_getElem (by rw [r.length];exact hi)⟩
 stop:=fun i H' hi ok=>⟨vs,ok,by rw [r.length];exact hi⟩
 yld:=fun i H' x H2 hi ok y=>by
  obtain ⟨rfl,hx⟩:=y
  obtain ⟨t,et,it⟩:=r.get (hx vs ok)
  exact ⟨Same.refl _,t,et,fun G' _ s=>it.mono s⟩
theorem wk_t {H:Hp} {G:Addr→Prop} {l:Addr} {vs:List V} {ts:List T} (r:IsL (dls H G) vs ts):WkR (Itt K l) H G (fun H'=>SqT K H' l vs) ts where
 go:=fun i H' hi ok=>⟨vs,_,ok,getElem?_eq_getElem (by rw [r.length];exact hi)⟩
 stop:=fun i H' hi ok=>⟨vs,ok,by rw [r.length];exact hi⟩
 yld:=fun i H' x H2 hi ok y=>by
  obtain ⟨rfl,hx⟩:=y
  obtain ⟨t,et,it⟩:=r.get (hx vs ok)
  exact ⟨Same.refl _,t,et,fun G' _ s=>it.mono s⟩
theorem Qaq (lo:Int) (n:Nat):(Qag lo n).length=n:=by unfold Qag;rw [length_map,length_range]
theorem Qkq {lo:Int} {n i:Nat} (hi:i<n):(Qag lo n)[i]?=some (.int (lo+i)):=by
 unfold Qag
 rw [getElem?_map,List.getElem?_range hi]
 rfl
theorem wk_r {H:Hp} {G:Addr→Prop} {lo:Int} {n:Nat}:WkR (Itr lo n) H G (fun _=>True) (Qag lo n) where
 go:=fun i H' hi _=>by rw [Qaq] at hi;exact hi
 stop:=fun i H' hi _=>by rw [Qaq] at hi;exact hi
 yld:=fun i H' x H2 hi _ y=>by
  rw [Qaq] at hi
  obtain ⟨rfl,rfl⟩:=y
  exact ⟨Same.refl _,_,Qkq hi,fun _ _ _=>Is.int⟩
theorem Q0v {r:PV} {ρ:En} {t:T} (h:Qlv r=none) (e:cont ρ r=some t):frz r=some t:=by
 cases r with
 | fz t=>exact e
 | ow t=>exact e
 | sl i=>cases h
theorem Qch (hK:X.K=K) (ha:QE X e (tE p e')):QI X tg e (tW p (.seq e')):=(Qzx K hK ha).weak fun σ H R zz1=>by
 obtain ⟨G,ρ,F,h⟩:=zz1
 unfold evW at h
 refine ⟨G,ρ,F,h.bind.imp fun r ρ1 h1 v H1 G1 F1 r1=>?_⟩
 cases ec:cont ρ1 r with
 | none=>rw [ec] at h1;exact False.elim h1
 | some t =>
  rw [ec] at h1
  cases es:Qej t with
  | none =>
   replace h1:Fin p (Qaz H G σ ρ) σ (match Qej t with | some ts=>.ok (ts,Qlv r) ρ1 | none=>.no) _:=h1
   rw [es] at h1
   exact False.elim h1
  | some ts =>
   replace h1:Fin p (Qaz H G σ ρ) σ (match Qej t with | some ts=>.ok (ts,Qlv r) ρ1 | none=>.no) _:=h1
   rw [es] at h1
   obtain ⟨hn,k⟩:=h1
   obtain ⟨G',F',hv,_⟩:=PVR.lay (B:=Qaz H G σ ρ) r1 F1 (Q0v hn ec)
   cases t <;> first | (cases es;done) | skip
   ·cases es
    obtain ⟨l,vs,rfl,el,rl⟩:=hv.tup_inv
    exact ⟨l,rfl,.inr ⟨⟨vs,SqT.of (Qan el).2⟩,k _ H1 G' _ F' (wk_t rl) fun H' G2 s=>SqT.of (Qan (s _ _ el)).2⟩⟩
   ·cases es
    obtain ⟨l,vs,rfl,el,rl⟩:=hv.lst_inv
    exact ⟨l,rfl,.inl ⟨⟨vs,SqL.of (Qan el).2⟩,k _ H1 G' _ F' (wk_l rl) fun H' G2 s=>SqL.of (Qan (s _ _ el)).2⟩⟩
theorem Q4p (hm:X.mg "range" = none) (ha:QE X a (tE p a')) (hg:Gl X "range") (hs:Qam a=true):QI X tg (.Call (.Name "range" p1) [a] [] pos) (tW p (.rng1 a')):=(Q9h hm (Qdt ha Qha hs) hg hs).weak fun σ H R zz1=>by
 obtain ⟨G,ρ,F,h⟩:=zz1
 unfold evW at h
 refine ⟨G,ρ,F,h.bind.imp fun r ρ1 h1 v H1 G1 F1 r1=>?_⟩
 cases r with
 | ow t=>exact False.elim h1
 | sl i=>exact False.elim h1
 | fz t =>
  cases t <;> first | exact False.elim h1 | skip
  rename_i j
  replace h1:Fin p (Qaz H G σ ρ) σ (if j.natAbs≤100000 then .ok (Qag 0 j.toNat,none) ρ1 else .no) _:=h1
  by_cases z:j.natAbs≤100000
  ·rw [if_pos z] at h1
   obtain rfl:=r1.is.int_inv
   exact ⟨j,rfl,by omega,by omega,h1.2 _ H1 G1 _ F1 wk_r fun _ _ _=>trivial⟩
  ·rw [if_neg z] at h1;exact False.elim h1
end
theorem Qdj (js:List (Option Nat)) (ρ:En) (k:Nat):Qb (Qcp js ρ) k=match js[k]? with
  | some (some j)=>(Qb ρ j).lend
  | _=>.un:=by
 show (match (js.map fun o=>match o with | none=>Slot.un | some j=>(Qb ρ j).lend)[k]? with | some s=>s | none=>Slot.un)=_
 rw [getElem?_map]
 cases js[k]? with
 | none=>rfl
 | some o=>cases o <;> rfl
theorem Qhd (js:List (Option Nat)) (σ:St) (k:Nat):(Qef js σ)[k]?=match js[k]? with
  | some (some j)=>some ((σ[j]?).join)
  | some none=>some none
  | none=>none:=by
 unfold Qef
 rw [getElem?_map]
 cases js[k]? with
 | none=>rfl
 | some o=>cases o <;> rfl
theorem Qhe (js:List (Option Nat)) (ρi:En):∀ (ρ:En) (n j:Nat),Qb (Qd6 js ρi n ρ) j=if j<ρ.length then Qio js ρi (n+j) (Qb ρ j) else .un
 | [],n,j=>by
  unfold Qd6
  rw [if_neg (by simp),Qgb]
 | s::ρ,n,0=>by unfold Qd6;rw [if_pos (by simp)];rfl
 | s::ρ,n,j+1=>by
  unfold Qd6
  rw [Qc,Qc,Qhe js ρi ρ (n+1) j,show n+1+j=n+(j+1) by omega]
  by_cases h:j<ρ.length
  ·rw [if_pos h,if_pos (by rw [length_cons];omega)]
  ·rw [if_neg h,if_neg (by rw [length_cons];omega)]
theorem Qlg (js:List (Option Nat)) (ρi:En):∀ (ρ:En) (n:Nat),(Qd6 js ρi n ρ).length=ρ.length
 | [],_=>rfl
 | s::ρ,n=>by unfold Qd6;rw [length_cons,length_cons,Qlg js ρi ρ (n+1)]
theorem Qdk (js:List (Option Nat)) (ρi:En) (j:Nat) (s:Slot):Qio js ρi j s=s∨∃ k t,js.idxOf? (some j)=some k∧Qb ρi k=.ml t∧Qio js ρi j s=s.put t:=by
 unfold Qio
 cases h1:js.idxOf? (some j) with
 | none=>exact .inl rfl
 | some k =>
  cases h2:Qb ρi k with
  | ml t=>exact .inr ⟨k,t,rfl,h2,by simp only [h2]⟩
  | un=>exact .inl (by simp only [h2])
  | pin _=>exact .inl (by simp only [h2])
  | fx _=>exact .inl (by simp only [h2])
  | fz t=>exact .inl (by simp only [h2])
  | ow t=>exact .inl (by simp only [h2])
  | ro t=>exact .inl (by simp only [h2])
theorem Qfa (js:List (Option Nat)) (ρi ρ:En) (j:Nat):Qb (Qjm js ρi ρ) j=Qio js ρi j (Qb ρ j):=by
 unfold Qjm
 rw [Qhe,Nat.zero_add]
 by_cases h:j<ρ.length
 ·rw [if_pos h]
 ·rw [if_neg h]
  have e:Qb ρ j=.un:=by
   unfold Qb
   rw [List.getElem?_eq_none_iff.mpr (by omega)]
  rw [e]
  rcases Qdk js ρi j .un with z | ⟨k,t,_,_,z⟩ <;> rw [z] <;> rfl
theorem Q4q:∀ {js:List (Option Nat)} {j k:Nat},js.idxOf? (some j)=some k→js[k]?=some (some j):=by
 intro js j k h
 have:=List.idxOf?_eq_some_iff.mp h
 obtain ⟨h1,h2,_⟩:=this
 rw [getElem?_eq_getElem h1,h2]
theorem Q0w {js:List (Option Nat)} {j k:Nat} (h:js.idxOf? (some j)=none):js[k]?≠some (some j):=fun e=>by
 have:=List.idxOf?_eq_none_iff.mp h
 exact this (mem_of_getElem? e)
theorem Qna:∀ {js:List (Option Nat)},Qbx js=true→∀ (i k j:Nat),js[i]?=some (some j)→js[k]?=some (some j)→i=k
 | [],_,i,k,j,e,_=>by simp at e
 | r::js,h,i,k,j,e1,e2=>by
  have tl:Qbx js=true:=by
   cases r with
   | some q=>unfold Qbx at h;rw [Bool.and_eq_true] at h;exact h.2
   | none=>exact h
  have hd:∀ (m:Nat),r=some j→js[m]?=some (some j)→False:=fun m er em=>by
   subst er
   unfold Qbx at h
   rw [Bool.and_eq_true] at h
   have q:=all_eq_true.mp h.1 _ (mem_of_getElem? em)
   simp at q
  cases i with
  | zero =>
   cases k with
   | zero=>rfl
   | succ k=>simp at e1;rw [getElem?_cons_succ] at e2;exact (hd k e1 e2).elim
  | succ i =>
   cases k with
   | zero=>simp at e2;rw [getElem?_cons_succ] at e1;exact (hd i e2 e1).elim
   | succ k =>
    rw [getElem?_cons_succ] at e1 e2
    rw [Qna tl i k j e1 e2]
theorem Qpk:∀ {ρ0 ρ:En},Qec ρ0 ρ=true→∀ (i:Nat) (t:T),Qb ρ0 i=.ml t→∃ t',Qb ρ i=.ml t'
 | [],[],_,i,t,e=>by rw [Qgb] at e;cases e
 | [],_::_,h,_,_,_=>by cases h
 | s0::ρ0,[],h,_,_,_=>by cases s0 <;> cases h
 | s0::ρ0,s::ρ,h,i,t,e=>by
  have tl:Qec ρ0 ρ=true:=by
   cases s0 <;> first | exact h | skip
   unfold Qec at h
   rw [Bool.and_eq_true] at h
   exact h.2
  cases i with
  | zero =>
   rw [Qa] at e
   subst e
   unfold Qec at h
   rw [Bool.and_eq_true] at h
   cases s <;> first | (simp at h;done) | exact ⟨_,rfl⟩
  | succ i =>
   rw [Qc] at e ⊢
   exact Qpk tl i t e
section
variable {B:Bs} {H H1 H2:Hp} {G G1 G2:Addr→Prop} {σ σ2:St} {ρ ρi:En} {js:List (Option Nat)}
theorem Q0x {s:Slot} {t:T} (h:s.lend.prv=some t):s.prv=some t:=by cases s <;> exact h
theorem FI.cap (F:FI B H G σ ρ) (hj:Qbx js=true):FI (Qaz H G (Qef js σ) (Qcp js ρ)) H G (Qef js σ) (Qcp js ρ):=by
 have pv:∀ k a,PrvAt (Qef js σ) (Qcp js ρ) k a→∃ j,js[k]?=some (some j)∧PrvAt σ ρ j a:=fun k a h=>by
  obtain ⟨⟨t,e⟩,q⟩:=h
  rw [Qdj] at e
  rw [Qhd] at q
  cases hk:js[k]? with
  | none=>rw [hk] at e;cases e
  | some o =>
   cases o with
   | none=>rw [hk] at e;cases e
   | some j =>
    rw [hk] at e q
    refine ⟨j,rfl,⟨t,Q0x e⟩,?_⟩
    replace q:some (σ[j]?.join)=some (some (.ref a)):=q
    cases hs:σ[j]? with
    | none=>rw [hs] at q;cases q
    | some w=>rw [hs] at q;exact q
 refine ⟨by unfold Qef Qcp;rw [length_map,length_map],fun k=>?_,fun i k a h1 h2=>?_,F.prv,fun _ _ _ _ e=>e,fun _ o e=>⟨o,e⟩,fun _ h=>.inr h,fun _ h=>h,fun _ _ h=>h,fun _ h=>h,fun _ h=>.inl h,fun b h=>let ⟨xs,e,_⟩:=F.prv b h;⟨_,e⟩⟩
 ·rw [Qdj]
  cases hk:js[k]? with
  | none=>trivial
  | some o =>
   cases o with
   | none=>trivial
   | some j =>
    have q:=F.slot j
    have gt:∀ v,σ[j]?=some (some v)→(Qef js σ)[k]?=some (some v):=fun v e=>by
     rw [Qhd,hk]
     show some (σ[j]?.join)=_
     rw [e]
     rfl
    show Qm0 H G (Qef js σ) k (Qb ρ j).lend
    cases hs:Qb ρ j with
    | un=>trivial
    | pin a=>trivial
    | fx t=>rw [hs] at q;obtain ⟨v,o,e,_,i⟩:=q;exact ⟨_,gt _ e,i⟩
    | fz t=>rw [hs] at q;obtain ⟨v,e,i⟩:=q;exact ⟨v,gt _ e,i⟩
    | ow t=>rw [hs] at q;obtain ⟨v,e,i⟩:=q;exact ⟨v,gt _ e,i⟩
    | ml t=>rw [hs] at q;obtain ⟨v,e,i⟩:=q;exact ⟨v,gt _ e,i⟩
    | ro t=>rw [hs] at q;obtain ⟨v,e,i⟩:=q;exact ⟨v,gt _ e,i⟩
 ·obtain ⟨j1,e1,p1⟩:=pv i a h1
  obtain ⟨j2,e2,p2⟩:=pv k a h2
  have ej:=F.apart j1 j2 a p1 p2
  subst ej
  exact Qna hj i k j1 e1 e2
theorem FI.uncap (F:FI B H G σ ρ) (hj:Qbx js=true) (I:FI (Qaz H G (Qef js σ) (Qcp js ρ)) H2 G2 σ2 ρi) (hk:Qec (Qcp js ρ) ρi=true):FI B H2 G2 σ (Qjm js ρi ρ):=by
 have Fc:=F.cap hj
 have sm:=Fc.same I
 have noO:∀ a,¬ OwA (Qef js σ) (Qcp js ρ) a:=fun a h=>by
  obtain ⟨k,t,e,_⟩:=h
  rw [Qdj] at e
  cases hk:js[k]? with
  | none=>rw [hk] at e;cases e
  | some o =>
   cases o with
   | none=>rw [hk] at e;cases e
   | some j =>
    rw [hk] at e
    have e:(Qb ρ j).lend=.ow t:=e
    cases hs:Qb ρ j <;> rw [hs] at e <;> cases e
 have isM:∀ a,MlA (Qef js σ) (Qcp js ρ) a→∃ (k j:Nat) (t:T),js[k]?=some (some j)∧(Qb ρ j=.ow t∨Qb ρ j=.ml t)∧σ[j]?=some (some (.ref a)):=fun a h=>by
  obtain ⟨k,t,e,q⟩:=h
  rw [Qdj] at e
  rw [Qhd] at q
  cases hk:js[k]? with
  | none=>rw [hk] at e;cases e
  | some o =>
   cases o with
   | none=>rw [hk] at e;cases e
   | some j =>
    rw [hk] at e q
    have e:(Qb ρ j).lend=.ml t:=e
    refine ⟨k,j,t,hk,?_,?_⟩
    ·cases hs:Qb ρ j <;> rw [hs] at e <;> cases e
     ·exact .inl rfl
     ·exact .inr rfl
    ·replace q:some (σ[j]?.join)=some (some (.ref a)):=q
     cases hs:σ[j]? with
     | none=>rw [hs] at q;cases q
     | some w=>rw [hs] at q;exact q
 -- a list of the frame that the block can't change
 have stay:∀ j a t,(Qb ρ j).prv=some t→σ[j]?=some (some (.ref a))→OwnAt H G a t→((∀ t,Qb ρ j≠.ow t)∧(∀ t,Qb ρ j≠.ml t)∨js.idxOf? (some j)=none)→OwnAt H2 G2 a t:=fun j a t e s o h=>by
  refine o.mono sm fun u eu=>I.chg a u (noO a) (fun z=>?_) eu
  obtain ⟨k,j',t',e1,hs,e2⟩:=isM a z
  have ej:j'=j:=F.apart j' j a ⟨⟨t',by rcases hs with hs | hs <;> rw [hs] <;> rfl⟩,e2⟩ ⟨⟨t,e⟩,s⟩
  subst ej
  rcases h with ⟨h1,h2⟩ | h
  ·rcases hs with hs | hs
   ·exact h1 _ hs
   ·exact h2 _ hs
  ·exact Q0w h e1
 -- one that it may
 have lent:∀ j a t k,(Qb ρ j=.ow t∨Qb ρ j=.ml t)→σ[j]?=some (some (.ref a))→js.idxOf? (some j)=some k→∃ t',Qb ρi k=.ml t'∧OwnAt H2 G2 a t':=fun j a t k hs s hx=>by
  have e1:=Q4q hx
  have e0:Qb (Qcp js ρ) k=.ml t:=by
   rw [Qdj,e1]
   show (Qb ρ j).lend=_
   rcases hs with hs | hs <;> rw [hs] <;> rfl
  obtain ⟨t',e2⟩:=Qpk hk k t e0
  have q:=I.slot k
  rw [e2] at q
  obtain ⟨a',q1,_,q3⟩:=q
  obtain ⟨_,q4⟩:=I.fix k a' ⟨⟨t',.inl e2⟩,q1⟩
  rw [Qhd,e1] at q4
  replace q4:some (σ[j]?.join)=some (some (.ref a')):=q4
  rw [s] at q4
  have q5:a=a':=by
   have:=Option.some.inj q4
   have:=Option.some.inj (show some (V.ref a)=some (V.ref a') from this)
   cases this
   rfl
  subst q5
  exact ⟨t',e2,q3⟩
 have kd:∀ j s',Qb (Qjm js ρi ρ) j=s'→(s'=Qb ρ j∨∃ t,s'=(Qb ρ j).put t):=fun j s' h=>by
  rw [Qfa] at h
  rcases Qdk js ρi j (Qb ρ j) with z | ⟨k,t,_,_,z⟩
  ·rw [z] at h;exact .inl h.symm
  ·rw [z] at h;exact .inr ⟨t,h.symm⟩
 have pv:∀ j a,PrvAt σ (Qjm js ρi ρ) j a→PrvAt σ ρ j a:=fun j a h=>by
  obtain ⟨⟨u,e⟩,q⟩:=h
  refine ⟨?_,q⟩
  rcases kd j _ rfl with z | ⟨t,z⟩
  ·rw [z] at e;exact ⟨u,e⟩
  ·rw [z] at e;exact Ql2 e
 exact {
  len:=by unfold Qjm;rw [Qlg];exact F.len
  slot:=fun j=>by
   have q:=F.slot j
   have bc:=Qdk js ρi j (Qb ρ j)
   rw [Qfa]
   cases hs:Qb ρ j with
   | un =>
    rw [hs] at bc
    rcases bc with e | ⟨k,t,_,_,e⟩ <;> rw [e] <;> trivial
   | pin a =>
    rw [hs] at q bc
    rcases bc with e | ⟨k,t,_,_,e⟩ <;> rw [e] <;> exact q
   | fz t =>
    rw [hs] at q bc
    obtain ⟨v,e1,e2⟩:=q
    rcases bc with e | ⟨k,t,_,_,e⟩ <;> rw [e] <;> exact ⟨v,e1,e2.mono sm⟩
   | fx t =>
    rw [hs] at q bc
    obtain ⟨v,o,e1,e3,e2⟩:=q
    rcases bc with e | ⟨k,t,_,_,e⟩ <;> rw [e] <;> exact ⟨v,o,e1,sm _ _ e3,e2.mono sm⟩
   | ro t =>
    rw [hs] at q bc
    obtain ⟨a,e1,g,o⟩:=q
    have o':=stay j a t (by rw [hs];rfl) e1 o (.inl ⟨fun t z=>(by rw [hs] at z;cases z),fun t z=>(by rw [hs] at z;cases z)⟩)
    rcases bc with e | ⟨k,t,_,_,e⟩ <;> rw [e] <;> exact ⟨a,e1,I.gg a g,o'⟩
   | ow t =>
    rw [hs] at q bc
    obtain ⟨a,e1,g,o⟩:=q
    cases hp:js.idxOf? (some j) with
    | none =>
     have o':=stay j a t (by rw [hs];rfl) e1 o (.inr hp)
     rcases bc with e | ⟨k,t',h,_,e⟩
     ·rw [e];exact ⟨a,e1,I.gg a g,o'⟩
     ·rw [hp] at h;cases h
    | some k =>
     obtain ⟨t',ef,o'⟩:=lent j a t k (.inl hs) e1 hp
     have e:Qio js ρi j (.ow t)=.ow t':=by unfold Qio;rw [hp];simp only [ef];rfl
     rw [e]
     exact ⟨a,e1,I.gg a g,o'⟩
   | ml t =>
    rw [hs] at q bc
    obtain ⟨a,e1,g,o⟩:=q
    cases hp:js.idxOf? (some j) with
    | none =>
     have o':=stay j a t (by rw [hs];rfl) e1 o (.inr hp)
     rcases bc with e | ⟨k,t',h,_,e⟩
     ·rw [e];exact ⟨a,e1,I.gg a g,o'⟩
     ·rw [hp] at h;cases h
    | some k =>
     obtain ⟨t',ef,o'⟩:=lent j a t k (.inr hs) e1 hp
     have e:Qio js ρi j (.ml t)=.ml t':=by unfold Qio;rw [hp];simp only [ef];rfl
     rw [e]
     exact ⟨a,e1,I.gg a g,o'⟩
  apart:=fun i j a h1 h2=>F.apart i j a (pv i a h1) (pv j a h2)
  prv:=I.prv
  chg:=fun b o h1 h2 e=>I.chg b o (noO b) (fun z=>by
   obtain ⟨k,j,t,_,hs,q⟩:=isM b z
   rcases hs with hs | hs
   ·rcases F.newO b ⟨j,t,hs,q⟩ with y | y
    ·rw [e] at y;cases y
    ·exact h1 y
   ·exact h2 (F.newM b ⟨j,t,hs,q⟩)) (F.chg b o h1 h2 e)
  keep:=fun b o e=>by
   obtain ⟨o1,e1⟩:=F.keep b o e
   exact I.keep b o1 e1
  newO:=fun a h=>by
   obtain ⟨j,t,e,s⟩:=h
   rcases kd j _ e with z | ⟨u,z⟩
   ·exact F.newO a ⟨j,t,z.symm,s⟩
   ·cases hs:Qb ρ j <;> rw [hs] at z <;> cases z
    exact F.newO a ⟨j,_,hs,s⟩
  newM:=fun a h=>by
   obtain ⟨j,t,e,s⟩:=h
   rcases kd j _ e with z | ⟨u,z⟩
   ·exact F.newM a ⟨j,t,z.symm,s⟩
   ·cases hs:Qb ρ j <;> rw [hs] at z <;> cases z
    exact F.newM a ⟨j,_,hs,s⟩
  fix:=fun j a h=>by
   obtain ⟨⟨t,e⟩,s⟩:=h
   refine F.fix j a ⟨?_,s⟩
   rcases e with e | e | e
   ·rcases kd j _ e with z | ⟨u,z⟩
    ·exact ⟨t,.inl z.symm⟩
    ·cases hs:Qb ρ j <;> rw [hs] at z <;> cases z
     exact ⟨_,.inl rfl⟩
   ·rcases kd j _ e with z | ⟨u,z⟩
    ·exact ⟨t,.inr (.inl z.symm)⟩
    ·cases hs:Qb ρ j <;> rw [hs] at z <;> cases z
     exact ⟨_,.inr (.inl rfl)⟩
   ·rcases kd j _ e with z | ⟨u,z⟩
    ·exact ⟨t,.inr (.inr z.symm)⟩
    ·cases hs:Qb ρ j <;> rw [hs] at z <;> cases z
     exact ⟨_,.inr (.inr rfl)⟩
  gg:=fun b h=>I.gg b (F.gg b h)
  gn:=fun b h=>by
   rcases I.gn b h with z | z
   ·exact F.gn b z
   ·exact .inr (F.free z)
  bp:=F.bp }
end
noncomputable def tCs (p:Pr) (cs:Es):TT:=fun σ H Q=>∃ G ρ,FI (Qaz H G σ ρ) H G σ ρ∧Fin p (Qaz H G σ ρ) σ (evC p.cf cs ρ) fun b ρ1=>∀ H1 G1,FI (Qaz H G σ ρ) H1 G1 σ ρ1→Q b H1
section
variable {X:Cx} {p:Pr} {a:Expr} {a':E}
theorem Qb3:QC X [] (tCs p .nil):=q_c0.weak fun σ H Q zz1=>by obtain ⟨G,ρ,F,h⟩:=zz1;unfold evC at h;exact h H G F
theorem Qaaf (ha:QT X a (tT p a')):QC X [a] (tCs p (.cons a' .nil)):=(q_c1 ha).weak fun σ H Q zz1=>by obtain ⟨G,ρ,F,h⟩:=zz1;unfold evC at h;exact ⟨G,ρ,F,h⟩
end
noncomputable abbrev Pr.calm (p:Pr):Pr:={ p with R:=fun _ _ _ _=>False }
theorem Ql3 {α β:Type} {o:Out α} {k:α→En→Out β} {b:β} {ρ:En} (h:o.bind k=.ok b ρ):∃ a ρ1,o=.ok a ρ1∧k a ρ1=.ok b ρ:=by
 cases o with
 | ok a ρ1=>exact ⟨a,ρ1,rfl,h⟩
 | xn x ρ1=>cases h
 | no=>cases h
theorem FI.under {B:Bs} {H:Hp} {G:Addr→Prop} {σ:St} {ρ:En} (F:FI B H G σ ρ) {l:Addr} {ys:List V} (g:G l) (np:∀ k,¬ PrvAt σ ρ k l) (hb:B.H l=none):FI B (upd H l (.lst ys)) G σ ρ∧Same (dls H G) (dls (upd H l (.lst ys)) G):=by
 have sm:Same (dls H G) (dls (upd H l (.lst ys)) G):=fun b o eb=>by
  obtain ⟨n,eb⟩:=Qan eb
  rw [Qb9 n,Qab (fun (z:b=l)=>n (by rw [z];exact g))]
  exact eb
 refine ⟨{ F with
  slot:=fun j=>Qiv (F.slot j) sm fun b o hb1 hb2 eb=>?_
  prv:=fun b hb=>?_
  chg:=fun b o h1 h2 eb=>?_
  keep:=fun b o eb=>?_ },sm⟩
 ·have nb:b≠l:=fun z=>np j ⟨hb1,z ▸ hb2⟩
  exact ⟨by rw [Qab nb];exact eb,(PrvAt.at F ⟨hb1,hb2⟩).1⟩
 ·by_cases h:b=l
  ·exact ⟨.lst ys,by rw [h,Q6],rfl⟩
  ·rw [Qab h];exact F.prv b hb
 ·have nb:b≠l:=fun z=>by rw [z,hb] at eb;cases eb
  rw [Qab nb]
  exact F.chg b o h1 h2 eb
 ·by_cases h:b=l
  ·exact ⟨_,by rw [h,Q6]⟩
  ·rw [Qab h];exact F.keep b o eb
theorem Qwc {p:Pr} {js:List (Option Nat)} {w:W} {tg:Tg} {cs:Es} {e':E} {σ:St} {H:Hp} {Q:VK} (h:tE p (.comp w js tg cs e') σ H Q):Qpb (tW p w) js (tG tg) (tCs p.calm cs) (tE p.calm e') σ H Q:=by
  obtain ⟨G,ρ,F,h⟩:=h
  unfold evE at h
  refine ⟨G,ρ,F,h.bind.imp fun its ρ1 h1=>?_⟩
  obtain ⟨ts,lk⟩:=its
  cases lk with
  | some _=>exact False.elim h1
  | none =>
   refine ⟨rfl,fun J H1 G1 Ok F1 wk stab l hl=>?_⟩
   replace wk:WkR J H1 G1 Ok ts:=wk
   replace h1:Fin p (Qaz H G σ ρ) σ (match Qdf tg (evC p.cf cs) (evE p.cf e') ts [] (Qcp js ρ1) with
    | .ok us ρi=>if Qec (Qcp js ρ1) ρi=true∧Qbx js=true then Out.ok (PV.ow (.lst us)) (Qjm js ρi ρ1) else .no
    | _=>.no) _:=h1
   cases ec:Qdf tg (evC p.cf cs) (evE p.cf e') ts [] (Qcp js ρ1) with
   | no=>rw [ec] at h1;exact False.elim h1
   | xn x ρx=>rw [ec] at h1;exact False.elim h1
   | ok tsF ρF =>
    rw [ec] at h1
    by_cases hz:Qec (Qcp js ρ1) ρF=true∧Qbx js=true
    ·simp only [if_pos hz] at h1
     obtain ⟨hkept,hap⟩:=hz
     have Fc:=F1.cap hap
     refine ⟨fun i m ys σ2 H2=>i+m=ts.length∧∃ G2 ρi acc,FI (Qaz H1 G1 (Qef js σ) (Qcp js ρ1)) H2 G2 σ2 ρi∧G2 l∧(∀ k,¬ PrvAt σ2 ρi k l)∧H2 l=some (.lst ys)∧IsL (dls H2 G2) ys acc∧acc.length≤100000 ∧
      Qdf tg (evC p.cf cs) (evE p.cf e') (ts.drop i) acc ρi=.ok tsF ρF,⟨ts.length,Nat.zero_add _,_,_,[],Fc.addG hl (Same.upd hl) Q6 rfl,.inr rfl,fun k hk=>?_,Q6,.nil,Nat.zero_le _,ec⟩,?_⟩
     ·obtain ⟨_,t,ob,ea,_⟩:=PrvAt.at Fc hk
      rw [hl] at ea
      cases ea
     rintro i m ys σ2 H2 ⟨him,G2,ρi,acc,I2,gl,np,el,il,zl,cl⟩
     have ok2:Ok H2:=stab H2 G2 (Fc.same I2)
     by_cases hlt:i<ts.length
     ·refine .inr ⟨wk.go i H2 hlt ok2,fun x H3 y=>?_⟩
      obtain ⟨s3,t,et,ix⟩:=wk.yld i H2 x H3 hlt ok2 y
      have I3:=I2.grow s3
      have ix3:=ix G2 I2.prv (Fc.same I2)
      rw [List.drop_eq_getElem_cons hlt] at cl
      have et':ts[i]=t:=by rw [getElem?_eq_getElem hlt] at et;exact Option.some.inj et
      rw [et'] at cl
      unfold Qdf at cl
      cases est:Qeb tg t ρi with
      | none=>rw [est] at cl;cases cl
      | some ρ4 =>
       rw [est] at cl
       replace cl:(evC p.cf cs ρ4).bind _=.ok tsF ρF:=cl
       obtain ⟨b,ρ5,eb,cl⟩:=Ql3 cl
       refine ⟨_,G2,ρi,t,ρ4,I3,ix3,est,fun σ4 I4 old=>?_⟩
       have np4:∀ k,¬ PrvAt σ4 ρ4 k l:=fun k hk=>np k (old k l hk)
       refine ⟨G2,ρ4,I4.self,?_⟩
       rw [show p.calm.cf=p.cf from rfl,eb]
       intro H5 G5 I5
       have np5:=I4.nobody I5 (s3 _ _ el) np4
       have I5':=I4.trans I5
       have el5:H5 l=some (.lst ys):=I5.chg l _ (fun z=>by obtain ⟨j,z⟩:=OwA.prv z;exact np4 j z) (fun z=>by obtain ⟨j,z⟩:=MlA.prv z;exact np4 j z) (s3 _ _ el)
       have il5:IsL (dls H5 G5) ys acc:=(il.mono (Qbn s3)).mono (I4.same I5)
       cases b with
       | false =>
        simp only [Bool.false_eq_true,if_false] at cl ⊢
        exact ⟨m-1,by omega,by omega,G5,ρ5,acc,I5',I5.gg l gl,np5,el5,il5,zl,cl⟩
       | true =>
        simp only [if_true] at cl ⊢
        obtain ⟨r,ρ6,er,cl⟩:=Ql3 cl
        refine ⟨G5,ρ5,I5'.self,?_⟩
        rw [show p.calm.cf=p.cf from rfl,er]
        intro v H6 G6 I6 r6
        cases ef:frz r with
        | none=>rw [ef] at cl;cases cl
        | some t6 =>
         rw [ef] at cl
         replace cl:(if acc.length<100000 then Qdf tg (evC p.cf cs) (evE p.cf e') (ts.drop (i+1)) (acc++[t6]) ρ6 else .no)=.ok tsF ρF:=cl
         by_cases za:acc.length<100000
         ·rw [if_pos za] at cl
          have np6:=I5'.nobody I6 el5 np5
          have el6:H6 l=some (.lst ys):=I6.chg l _ (fun z=>by obtain ⟨j,z⟩:=OwA.prv z;exact np5 j z) (fun z=>by obtain ⟨j,z⟩:=MlA.prv z;exact np5 j z) el5
          have il6:IsL (dls H6 G6) ys acc:=il5.mono (I5'.same I6)
          obtain ⟨G7,I7,i7,s7⟩:=PVR.lay (B:=Qaz H5 G5 σ4 ρ5) r6 I6 ef
          have g7:G7 l:=I7.gg l (I5.gg l gl)
          have I7':=I5'.trans I7
          have hb:(Qaz H1 G1 (Qef js σ) (Qcp js ρ1)).H l=none:=hl
          obtain ⟨I8,s8⟩:=I7'.under (ys:=ys++[v]) g7 np6 hb
          have zy:=il6.length
          refine ⟨el6,by rw [zy,sizeLine_eq];omega,m-1,by omega,by omega,G7,ρ6,acc++[t6],I8,g7,np6,Q6,((il6.mono (Qcy s7)).append (.one i7)).mono s8,by rw [length_append,length_singleton];omega,cl⟩
         ·rw [if_neg za] at cl;cases cl
     ·have e0:ts.drop i=[]:=List.drop_of_length_le (by omega)
      rw [e0] at cl
      cases cl
      refine .inl ⟨wk.stop i H2 (by omega) ok2,h1 _ H2 G2 (F1.uncap hap I2 hkept) ?_⟩
      refine ⟨l,rfl,F1.free hl,gl,fun k hk=>?_,.lst ys,el,zl,il⟩
      obtain ⟨⟨u,eu⟩,q⟩:=hk
      rw [Qfa] at eu
      have:∃ u,(Qb ρ1 k).prv=some u:=by
       rcases Qdk js ρF k (Qb ρ1 k) with z | ⟨_,t,_,_,z⟩
       ·rw [z] at eu;exact ⟨u,eu⟩
       ·rw [z] at eu;exact Ql2 eu
      obtain ⟨_,t,ob,ea,_⟩:=PrvAt.at F1 ⟨this,q⟩
      rw [hl] at ea
      cases ea
    ·simp only [if_neg hz] at h1
     exact False.elim h1
theorem Qaag {X:Cx} {p:Pr} {tgE elt iter:Expr} {ifs:List Expr} {scope:Scope} {pos:Pos} {N:List Str} {js:List (Option Nat)} {w:W} {tg:Tg} {cs:Es} {e':E} (hcalm:X.calm=true)
  (hi:QI X tgE iter (tW p w)) (hg:∀ s H fp,QG (Q8 X scope N s H fp) tgE (tG tg)) (hc:∀ s H fp,QC (Q8 X scope N s H fp) ifs (tCs p.calm cs)) (he:∀ s H fp,QE (Q8 X scope N s H fp) elt (tE p.calm e'))
  (hk:scope.kind=.function) (h1:scOk X scope=true) (h2:Qim X scope N js=true) (hs:∀ x,foldedSetIterable iter X.env x=pure x):QE X (.ListComp elt [⟨tgE,iter,ifs,0⟩] scope pos) (tE p (.comp w js tg cs e')) :=
 (Q9i N js hcalm hi hg hc he hk h1 h2 hs).weak fun σ H Q h=>Qwc h
theorem QS.weak {X:Cx} {e:Stmt} {t t':TS} (h:QS X e t) (q:∀ D σ H,t' D σ H→t D σ H):QS X e t':=⟨fun pins s σ H D I z=>h.h pins s σ H D I (q _ _ _ z)⟩
theorem QB.weak {X:Cx} {e:List Stmt} {t t':TS} (h:QB X e t) (q:∀ D σ H,t' D σ H→t D σ H):QB X e t':=⟨fun pins s σ H D I z=>h.h pins s σ H D I (q _ _ _ z)⟩
noncomputable def SFin (p:Pr) (B:Bs) (H:Hp) (G:Addr→Prop) (D:Ends):SO→Prop
 | .nx ρ1=>∀ σ1 H1 G1,FI B H1 G1 σ1 ρ1→Same (dls H G) (dls H1 G1)→D.nx σ1 H1
 | .bk ρ1=>∀ σ1 H1 G1,FI B H1 G1 σ1 ρ1→Same (dls H G) (dls H1 G1)→D.bk σ1 H1
 | .ct ρ1=>∀ σ1 H1 G1,FI B H1 G1 σ1 ρ1→Same (dls H G) (dls H1 G1)→D.ct σ1 H1
 | .rt r ρ1=>∀ v σ1 H1 G1,FI B H1 G1 σ1 ρ1→PVR B.H H1 G1 σ1 ρ1 v r→D.rt v H1
 | .xn x ρ1=>∀ cls dx σ1 H1 G1,FI B H1 G1 σ1 ρ1→Q91 p.mg H1 x cls dx→p.R cls dx σ1 H1
 | .no=>False
noncomputable def tS (p:Pr) (s:S):TS:=fun D σ H=>∃ B G ρ,FI B H G σ ρ∧(∀ a,¬ B.O a)∧SFin p B H G D (exS p.cf s ρ)
section
variable {p:Pr} {B:Bs} {H H1:Hp} {G G1:Addr→Prop} {D:Ends} {σ:St} {ρ ρ1:En} {α:Type}
theorem SFin.late {o:SO} (h:SFin p B H G D o) (s:Same (dls H G) (dls H1 G1)):SFin p B H1 G1 D o:=by
 cases o with
 | nx ρ1=>exact fun σ1 H2 G2 F q=>h σ1 H2 G2 F (s.trans q)
 | bk ρ1=>exact fun σ1 H2 G2 F q=>h σ1 H2 G2 F (s.trans q)
 | ct ρ1=>exact fun σ1 H2 G2 F q=>h σ1 H2 G2 F (s.trans q)
 | rt r ρ1=>exact h
 | xn x ρ1=>exact h
 | no=>exact h
theorem Qnb {o:Out α} {k:α→En→SO} (h:SFin p B H G D (ofO o k)):Fin p B σ o fun a ρ1=>SFin p B H G D (k a ρ1):=by
 cases o with
 | ok a ρ1=>exact h
 | xn x ρ1=>exact fun cls dx H1 G1 F xr=>h cls dx σ H1 G1 F xr
 | no=>exact h
theorem Qfs {o:Option α} {k:α→SO} (h:SFin p B H G D (Qah o k)):∃ a,o=some a∧SFin p B H G D (k a):=by
 cases o with
 | none=>exact False.elim h
 | some a=>exact ⟨a,rfl,h⟩
theorem PVR.base {H2:Hp} {G2:Addr→Prop} {ρ2:En} {v:V} {r:PV} (h:PVR H1 H2 G2 σ ρ2 v r) (F:FI B H1 G1 σ ρ1):PVR B.H H2 G2 σ ρ2 v r:=by
 cases r with
 | fz t=>exact h
 | sl i=>exact h
 | ow t =>
  obtain ⟨a,rfl,n,g⟩:=h
  exact ⟨a,rfl,F.free n,g⟩
theorem Qip {e:E} {Q:VK} {K:PV→En→SO} (F:FI B H G σ ρ) (h:SFin p B H G D (ofO (evE p.cf e ρ) K)) (q:∀ r ρ2 v H2 G2,SFin p B H2 G2 D (K r ρ2)→FI B H2 G2 σ ρ2→FI (Qaz H G σ ρ) H2 G2 σ ρ2→PVR B.H H2 G2 σ ρ2 v r→Same (dls H G) (dls H2 G2)→Q v H2):tE p e σ H Q :=
 Q0d F (Qnb h) fun r ρ2 v H2 G2 k F2 F2' r2=>q r ρ2 v H2 G2 (k.late (F.same F2')) F2 F2' (r2.base F) (F.same F2')
theorem Q0y {e:E} {Q:Bool→Hp→Prop} {K:Bool→En→SO} (F:FI B H G σ ρ) (h:SFin p B H G D (ofO (Qay (evE p.cf e ρ)) K)) (q:∀ b ρ2 H2 G2,SFin p B H2 G2 D (K b ρ2)→FI B H2 G2 σ ρ2→Same (dls H G) (dls H2 G2)→Q b H2):tT p e σ H Q :=
 Q0e F (Qnb h) fun b ρ2 H2 G2 k F2 F2'=>q b ρ2 H2 G2 (k.late (F.same F2')) F2 (F.same F2')
end
section
variable {X:Cx} {p:Pr} {e a b:Expr} {e' a' b' c':E} {st:Stmt} {sts:List Stmt} {s s1 s2:S} {pos p1 p2:Pos} {x:Str}
theorem Qb4:QB X [] (tS p .nil):=Qzz.weak fun D σ H ⟨B,G,ρ,F,hO,h⟩=>h σ H G F (Same.refl _)
theorem Qaah {D:Ends} {σ:St} {H:Hp} (h:tS p (.seq s1 s2) D σ H):Q23 (tS p s1) (tS p s2) D σ H:=by
 obtain ⟨B,G,ρ,F,hO,h⟩:=h
 refine ⟨B,G,ρ,F,hO,?_⟩
 unfold exS at h
 cases e:exS p.cf s1 ρ with
 | nx ρ1=>rw [e] at h;exact fun σ1 H1 G1 F1 q=>⟨B,G1,ρ1,F1,hO,SFin.late (p:=p) (D:=D) h q⟩
 | bk ρ1=>rw [e] at h;exact h
 | ct ρ1=>rw [e] at h;exact h
 | rt r ρ1=>rw [e] at h;exact h
 | xn x ρ1=>rw [e] at h;exact h
 | no=>rw [e] at h;exact h
theorem Qp (h1:QS X st (tS p s1)) (h2:QB X sts (tS p s2)):QB X (st::sts) (tS p (.seq s1 s2)):=(Qqj h1 h2).weak fun D σ H h=>Qaah h
theorem Qw (h1:QS X st (tS p s1)):QB X [st] (tS p s1):=Qqk h1
theorem Qaeb {i:Nat} (h:QB X sts (tS p s)):QB X sts (tS p (.seq (.frz i) s)):=h.weak fun D σ H zz1=>by
 obtain ⟨B,G,ρ,F,hO,h⟩:=zz1
 unfold exS at h
 have e:exS p.cf (.frz i) ρ=match Qb ρ i with | .ow t=>.nx (ρ.set i (.fz t)) | .ml _=>.no | .ro _=>.no | _=>.nx ρ:=by rw [exS];try (cases Qb ρ i <;> rfl)
 rw [e] at h
 cases hs:Qb ρ i with
 | un=>rw [hs] at h;exact ⟨B,G,ρ,F,hO,h⟩
 | pin _=>rw [hs] at h;exact ⟨B,G,ρ,F,hO,h⟩
 | fx _=>rw [hs] at h;exact ⟨B,G,ρ,F,hO,h⟩
 | fz t=>rw [hs] at h;exact ⟨B,G,ρ,F,hO,h⟩
 | ml t=>rw [hs] at h;exact False.elim h
 | ro t=>rw [hs] at h;exact False.elim h
 | ow t =>
  rw [hs] at h
  obtain ⟨G1,F1,s1⟩:=F.freeze hO hs
  exact ⟨B,G1,_,F1,hO,SFin.late h s1⟩
theorem Qaai (he:QE X e (tE p e')) (hs:swapsWith e none pos.line X.env=pure false):QS X (.Expr e pos) (tS p (.expr e')):=(Qmr he hs).weak fun D σ H zz1=>by
 obtain ⟨B,G,ρ,F,hO,h⟩:=zz1
 unfold exS at h
 exact Qip F h fun r ρ2 v H2 G2 k F2 _ _ sm=>k σ H2 G2 F2 (Same.refl _)
theorem Qai (he:QE X e (tE p e')):QS X (.Return (some e) pos) (tS p (.ret e')):=(Qv3 he).weak fun D σ H zz1=>by
 obtain ⟨B,G,ρ,F,hO,h⟩:=zz1
 unfold exS at h
 exact Qip F h fun r ρ2 v H2 G2 k F2 _ pv _=>k v σ H2 G2 F2 pv
theorem Qdu {c:Expr} {bs cs:List Stmt} (hc:QT X c (tT p c')) (ha:QB X bs (tS p s1)) (hb:QB X cs (tS p s2)):QS X (.If c bs cs pos) (tS p (.ite c' s1 s2)):=(Q6q hc ha hb).weak fun D σ H zz1=>by
 obtain ⟨B,G,ρ,F,hO,h⟩:=zz1
 unfold exS at h
 refine Q0y F h fun k ρ2 H2 G2 h2 F2 sm=>?_
 cases k with
 | true=>exact ⟨B,G2,ρ2,F2,hO,h2⟩
 | false=>exact ⟨B,G2,ρ2,F2,hO,h2⟩
theorem Q4r {B:Bs} {H:Hp} {G:Addr→Prop} {D:Ends} {σ:St} {ρ:En} {i:Nat} {r:PV} {v:V} (F:FI B H G σ ρ) (pv:PVR B.H H G σ ρ v r) (h:SFin p B H G D (Qoq i r ρ)):D.nx (σ.set i (some v)) H:=by
 cases r with
 | sl j=>exact False.elim h
 | fz t =>
  obtain ⟨ρ',e,k⟩:=Qfs h
  exact k _ H G (F.setS e pv.is) (Same.refl _)
 | ow t =>
  obtain ⟨ρ',e,k⟩:=Qfs h
  exact k _ H G (F.setOw rfl e pv) (Same.refl _)
theorem Qlh {i:Nat} (h:QS X st (Qlt (tE p e') (Qe5 i))):QS X st (tS p (.set i e')):=h.weak fun D σ H zz1=>by
 obtain ⟨B,G,ρ,F,hO,h⟩:=zz1
 unfold exS at h
 exact Qip F h fun r ρ2 v H2 G2 k F2 _ pv _=>Q4r F2 pv k
theorem Qat {i:Nat} (h:QS X st (Qlt (tE p e') (Qe5 i))):QS X st (tS p (.setF i e')):=h.weak fun D σ H zz1=>by
 obtain ⟨B,G,ρ,F,hO,h⟩:=zz1
 unfold exS at h
 refine Qip F h fun r ρ2 v H2 G2 k F2 _ pv _=>?_
 cases ef:frz r with
 | none=>rw [ef] at k;exact False.elim k
 | some t =>
  rw [ef] at k
  obtain ⟨ρ',e,k⟩:=Qfs k
  obtain ⟨G3,F3,i3,s3⟩:=PVR.lay pv F2 ef
  exact k _ H2 G3 (F3.setS e i3) (Qcy s3)
theorem Q69 {is:List Nat} (h:QS X st (Qlt (tE p e') (tG (.tp is)))):QS X st (tS p (.unp is e')):=h.weak fun D σ H zz1=>by
 obtain ⟨B,G,ρ,F,hO,h⟩:=zz1
 unfold exS at h
 refine Qip F h fun r ρ2 v H2 G2 k F2 _ pv _=>?_
 cases r with
 | ow t=>exact False.elim k
 | sl i=>exact False.elim k
 | fz t =>
  cases t <;> first | exact False.elim k | skip
  obtain ⟨ρ',e,k⟩:=Qfs k
  exact ⟨B,G2,ρ2,_,ρ',F2,pv.is,e,fun σ' F' _=>k σ' H2 G2 F' (Same.refl _)⟩
end
section
variable {X:Cx} {p:Pr} {st:Stmt} {es':Es} {i j k:Nat} {x y z:Str} {a b c:Expr} {ta:TA} {px py pz pt pos:Pos} {kt k2 pt2}
end
section
variable {X:Cx} {p:Pr} {e a b:Expr} {e' a' b' c':E} {st:Stmt} {sts:List Stmt} {s s1 s2:S} {pos p1 p2:Pos} {x:Str} {K:PySem.W.Frag}
theorem FI.mutAt {B:Bs} {H:Hp} {G:Addr→Prop} {σ:St} {ρ:En} {i:Nat} (F:FI B H G σ ρ) (h:(Qb ρ i).mut=true):∃ a vs,σ[i]?=some (some (.ref a))∧H a=some (.lst vs):=by
 have:∃ t,(Qb ρ i).prv=some (.lst t):=by
  cases hs:Qb ρ i <;> rw [hs] at h <;> first | (cases h;done) | skip
  all_goals (rename_i t;cases t <;> first | exact ⟨_,rfl⟩ | cases h)
 obtain ⟨t,e⟩:=this
 obtain ⟨a,s,_,o⟩:=F.prvAt e
 obtain ⟨vs,_,ea,_⟩:=o.lst_inv
 exact ⟨a,vs,s,ea⟩
theorem IsL.set {D:Hp} {v:V} {t:T} (hv:Is D v t):∀ {vs:List V} {ts:List T} (n:Nat),IsL D vs ts→IsL D (vs.set n v) (ts.set n t)
 | vs,[],n,r=>by rw [r.nil_inv];exact .nil
 | vs,u::us,0,r=>by
  obtain ⟨w,ws,rfl,a,q⟩:=r.cons_inv
  exact .cons hv q
 | vs,u::us,n+1,r=>by
  obtain ⟨w,ws,rfl,a,q⟩:=r.cons_inv
  exact .cons a (IsL.set hv n q)
theorem Q0z {i:Nat} (h:QS X st (Qvt (tBM K "list" Ql0 (Qom i) (Qjd (tE p e') Qt0)))):QS X st (tS p (.app i e')):=h.weak fun D σ H zz1=>by
 obtain ⟨B,G,ρ,F,hO,h⟩:=zz1
 unfold exS at h
 by_cases hm:(Qb ρ i).mut=true
 ·simp only [if_pos hm] at h
  obtain ⟨a,vs0,sa,ea⟩:=F.mutAt hm
  refine ⟨_,sa,.inl ⟨rfl,_,SqL.of ea⟩,?_⟩
  refine Qip F h fun r ρ2 v H2 G2 k F2 _ pv _=>?_
  cases ef:frz r with
  | none=>rw [ef] at k;exact False.elim k
  | some t =>
   rw [ef] at k
   obtain ⟨G3,F3,i3,s3⟩:=PVR.lay pv F2 ef
   have sl:=F3.slot i
   replace k:SFin p B H2 G2 D (match Qb ρ2 i with
    | .ow (.lst ts)=>if ts.length<100000 then .nx (ρ2.set i (.ow (.lst (ts++[t])))) else .no
    | .ml (.lst ts)=>if ts.length<100000 then .nx (ρ2.set i (.ml (.lst (ts++[t])))) else .no
    | _=>.no):=k
   have fin:∀ ts s',(Qb ρ2 i=.ow (.lst ts)∧s'=Slot.ow (.lst (ts++[t])))∨(Qb ρ2 i=.ml (.lst ts)∧s'=Slot.ml (.lst (ts++[t])))→SFin p B H2 G2 D (if ts.length<100000 then .nx (ρ2.set i s') else .no)→Ql0 (.ref a) [v] H2 fun _ H1=>D.nx σ H1:=fun ts s' hs k=>by
    have hp:(Qb ρ2 i).prv=some (.lst ts):=by rcases hs with ⟨h,_⟩ | ⟨h,_⟩ <;> rw [h] <;> rfl
    obtain ⟨a',sa',g,o1⟩:=F3.prvAt hp
    obtain ⟨vs,z,el,il⟩:=o1.lst_inv
    rw [sa] at sa'
    cases sa'
    by_cases zt:ts.length<100000
    ·rw [if_pos zt] at k
     have lz:=il.length
     obtain ⟨F4,s4⟩:=F3.change hs sa (il.append (.one i3)) (by rw [length_append,length_singleton];omega)
     exact ⟨a,vs,v,rfl,rfl,el,by rw [lz,sizeLine_eq];omega,k σ _ G3 F4 ((Qcy s3).trans s4)⟩
    ·rw [if_neg zt] at k;exact False.elim k
   cases hs:Qb ρ2 i with
   | un=>rw [hs] at k;exact False.elim k
   | pin _=>rw [hs] at k;exact False.elim k
   | fx _=>rw [hs] at k;exact False.elim k
   | fz t=>rw [hs] at k;exact False.elim k
   | ro t=>rw [hs] at k;exact False.elim k
   | ow u =>
    rw [hs] at k sl
    cases u <;> first | exact False.elim k | skip
    exact fin _ _ (.inl ⟨hs,rfl⟩) k
   | ml u =>
    rw [hs] at k sl
    cases u <;> first | exact False.elim k | skip
    exact fin _ _ (.inr ⟨hs,rfl⟩) k
 ·simp only [if_neg hm] at h
  exact False.elim h
theorem Qaec {i:Nat} (h:QS X st (Qvt (tBM K "list" (Qg9 K) (Qom i) (Qjd (tE p e') Qt0)))):QS X st (tS p (.ext i e')):=h.weak fun D σ H zz1=>by
 obtain ⟨B,G,ρ,F,hO,h⟩:=zz1
 unfold exS at h
 by_cases hm:(Qb ρ i).mut=true
 ·simp only [if_pos hm] at h
  obtain ⟨a,vs0,sa,ea⟩:=F.mutAt hm
  refine ⟨_,sa,.inl ⟨rfl,_,SqL.of ea⟩,?_⟩
  refine Qip F h fun r ρ2 v H2 G2 k F2 _ pv _=>?_
  cases r with
  | ow t=>exact False.elim k
  | sl j=>exact False.elim k
  | fz t =>
   cases t <;> first | exact False.elim k | skip
   rename_i us
   have iv:=pv.is
   obtain ⟨b,ws,rfl,eb,rb⟩:=iv.tup_inv
   replace k:SFin p B H2 G2 D (match Qb ρ2 i with
    | .ow (.lst ts)=>if ts.length+us.length≤100000 then .nx (ρ2.set i (.ow (.lst (ts++us)))) else .no
    | .ml (.lst ts)=>if ts.length+us.length≤100000 then .nx (ρ2.set i (.ml (.lst (ts++us)))) else .no
    | _=>.no):=k
   have fin:∀ ts s',(Qb ρ2 i=.ow (.lst ts)∧s'=Slot.ow (.lst (ts++us)))∨(Qb ρ2 i=.ml (.lst ts)∧s'=Slot.ml (.lst (ts++us)))→SFin p B H2 G2 D (if ts.length+us.length≤100000 then .nx (ρ2.set i s') else .no)→Qg9 K (.ref a) [.ref b] H2 fun _ H1=>D.nx σ H1:=fun ts s' hs k=>by
    have hp:(Qb ρ2 i).prv=some (.lst ts):=by rcases hs with ⟨h,_⟩ | ⟨h,_⟩ <;> rw [h] <;> rfl
    obtain ⟨a',sa',g,o1⟩:=F2.prvAt hp
    obtain ⟨vs,z,el,il⟩:=o1.lst_inv
    rw [sa] at sa'
    cases sa'
    by_cases zt:ts.length+us.length≤100000
    ·rw [if_pos zt] at k
     have lz:=il.length
     have lb:=rb.length
     obtain ⟨F4,s4⟩:=F2.change hs sa (il.append rb) (by rw [length_append];exact zt)
     exact ⟨a,b,vs,ws,rfl,rfl,el,SqT.of (Qan eb).2,Qct (by rw [lz,lb];exact zt),k σ _ G2 F4 s4⟩
    ·rw [if_neg zt] at k;exact False.elim k
   cases hs:Qb ρ2 i with
   | un=>rw [hs] at k;exact False.elim k
   | pin _=>rw [hs] at k;exact False.elim k
   | fx _=>rw [hs] at k;exact False.elim k
   | fz t=>rw [hs] at k;exact False.elim k
   | ro t=>rw [hs] at k;exact False.elim k
   | ow u =>
    rw [hs] at k
    cases u <;> first | exact False.elim k | skip
    exact fin _ _ (.inl ⟨hs,rfl⟩) k
   | ml u =>
    rw [hs] at k
    cases u <;> first | exact False.elim k | skip
    exact fin _ _ (.inr ⟨hs,rfl⟩) k
 ·simp only [if_neg hm] at h
  exact False.elim h
theorem Qwd {i:Nat} (h:QS X st (Qlt (tE p e') (Q8c (Qom i) (tE p a') Qv2))):QS X st (tS p (.put i a' e')):=h.weak fun D σ H zz1=>by
 obtain ⟨B,G,ρ,F,hO,h⟩:=zz1
 unfold exS at h
 refine Qip F h fun r ρ2 v H2 G2 k F2 _ pv _=>?_
 cases ef:frz r with
 | none=>rw [ef] at k;exact False.elim k
 | some t =>
  rw [ef] at k
  obtain ⟨G3,F3,i3,s3⟩:=PVR.lay pv F2 ef
  by_cases hm:(Qb ρ2 i).mut=true
  ·simp only [if_pos hm] at k
   obtain ⟨a,vs0,sa,ea⟩:=F3.mutAt hm
   refine ⟨_,sa,?_⟩
   refine Qip F3 (SFin.late k (Qcy s3)) fun rk ρ4 w H4 G4 k4 F4 F4' pk sm=>?_
   have i4:=i3.mono sm
   cases rk with
   | ow t=>exact False.elim k4
   | sl j=>exact False.elim k4
   | fz u =>
    cases u <;> first | exact False.elim k4 | skip
    rename_i j
    obtain rfl:=pk.is.int_inv
    replace k4:SFin p B H4 G4 D (match Qb ρ4 i with
     | .ow (.lst ts)=>Qah (ixN ts.length j) fun n=>.nx (ρ4.set i (.ow (.lst (ts.set n t))))
     | .ml (.lst ts)=>Qah (ixN ts.length j) fun n=>.nx (ρ4.set i (.ml (.lst (ts.set n t))))
     | _=>.no):=k4
    have fin:∀ ts (s':Nat→Slot),(∀ n,(Qb ρ4 i=.ow (.lst ts)∧s' n=Slot.ow (.lst (ts.set n t)))∨(Qb ρ4 i=.ml (.lst ts)∧s' n=Slot.ml (.lst (ts.set n t))))→SFin p B H4 G4 D (Qah (ixN ts.length j) fun n=>.nx (ρ4.set i (s' n)))→Qv2 (.ref a) (.int j) v H4 fun H1=>D.nx σ H1:=fun ts s' hs k=>by
     have hp:(Qb ρ4 i).prv=some (.lst ts):=by rcases hs 0 with ⟨h,_⟩ | ⟨h,_⟩ <;> rw [h] <;> rfl
     obtain ⟨a',sa',g,o1⟩:=F4.prvAt hp
     obtain ⟨vs,z,el,il⟩:=o1.lst_inv
     rw [sa] at sa'
     cases sa'
     obtain ⟨n,en,k⟩:=Qfs k
     have lz:=il.length
     obtain ⟨F5,s5⟩:=F4.change (hs n) sa (il.set i4 n) (by rw [length_set];exact z)
     exact ⟨a,vs,j,n,rfl,rfl,el,by rw [lz];exact en,k σ _ G4 F5 s5⟩
    cases hs:Qb ρ4 i with
    | un=>rw [hs] at k4;exact False.elim k4
    | pin _=>rw [hs] at k4;exact False.elim k4
    | fx _=>rw [hs] at k4;exact False.elim k4
    | fz t=>rw [hs] at k4;exact False.elim k4
    | ro t=>rw [hs] at k4;exact False.elim k4
    | ow u =>
     rw [hs] at k4
     cases u <;> first | exact False.elim k4 | skip
     exact fin _ _ (fun n=>.inl ⟨hs,rfl⟩) k4
    | ml u =>
     rw [hs] at k4
     cases u <;> first | exact False.elim k4 | skip
     exact fin _ _ (fun n=>.inr ⟨hs,rfl⟩) k4
  ·simp only [if_neg hm] at k
   exact False.elim k
theorem Qpl {p:Pr} {B:Bs} {H:Hp} {G:Addr→Prop} {D:Ends} {o:SO} (h:SFin p B H G D (Qpg o)):SFin p.calm B H G D o:=by
 cases o with
 | xn x ρ1=>exact False.elim h
 | nx ρ1=>exact h
 | bk ρ1=>exact h
 | ct ρ1=>exact h
 | rt r ρ1=>exact h
 | no=>exact h
theorem Qaed {c:Expr} {body:List Stmt} (hc:QT X.nox c (tT p.calm c')) (hb:QB X.nox body (tS p.calm s)):QS X (.While c body [] pos) (tS p (.whl c' s)) :=
 (q_sx (Q3z PassesOwn.never hc hb)).weak fun D σ H zz1=>by
  obtain ⟨B,G,ρ,F,hO,h⟩:=zz1
  unfold exS at h
  have h:=Qpl h
  refine ⟨fun m σ2 H2=>∃ G2 ρ2,FI B H2 G2 σ2 ρ2∧SFin p.calm B H2 G2 D (Qkn (fun ρ=>Qay (evE p.cf c' ρ)) (exS p.cf s) m ρ2),⟨1000000,G,ρ,F,h⟩,?_⟩
  rintro m σ2 H2 ⟨G2,ρ2,F2,h2⟩
  cases m with
  | zero=>exact False.elim h2
  | succ m =>
   unfold Qkn at h2
   refine Q0y (p:=p.calm) F2 h2 fun k ρ3 H3 G3 h3 F3 sm=>?_
   cases k with
   | false=>exact h3 σ2 H3 G3 F3 (Same.refl _)
   | true =>
    refine ⟨fun σ' H'=>∃ G' ρ',FI B H' G' σ' ρ'∧SFin p.calm B H' G' D (Qkn (fun ρ=>Qay (evE p.cf c' ρ)) (exS p.cf s) m ρ'),fun σ' H' q=>⟨m,Nat.lt_succ_self m,q⟩,B,G3,ρ3,F3,hO,?_⟩
    replace h3:SFin p.calm B H3 G3 D (match exS p.cf s ρ3 with
     | .nx ρ2=>Qkn (fun ρ=>Qay (evE p.cf c' ρ)) (exS p.cf s) m ρ2
     | .ct ρ2=>Qkn (fun ρ=>Qay (evE p.cf c' ρ)) (exS p.cf s) m ρ2
     | .bk ρ2=>.nx ρ2
     | o=>o):=h3
    show SFin p.calm B H3 G3 _ (exS p.cf s ρ3)
    cases eb:exS p.cf s ρ3 with
    | nx ρ4=>rw [eb] at h3;exact fun σ4 H4 G4 F4 s4=>⟨G4,ρ4,F4,SFin.late h3 s4⟩
    | ct ρ4=>rw [eb] at h3;exact fun σ4 H4 G4 F4 s4=>⟨G4,ρ4,F4,SFin.late h3 s4⟩
    | bk ρ4=>rw [eb] at h3;exact h3
    | rt r ρ4=>rw [eb] at h3;exact h3
    | xn x ρ4=>rw [eb] at h3;exact h3
    | no=>rw [eb] at h3;exact h3
theorem Qaaj {w:W} {tg:Tg} {D:Ends} {σ:St} {H:Hp} {B:Bs} {G:Addr→Prop} {ρ:En} (F:FI B H G σ ρ) (hO:∀ a,¬ B.O a) (h:SFin p B H G D (ofO (evW p.cf w ρ) fun its ρ1=>match its.2 with
  | some _=>.no
  | none=>Qc0 tg (exS p.cf s) its.1 ρ1)):Qzc (tW p w) (tG tg) (tS p s) D σ H:=by
 refine ⟨G,ρ,F.self,(Qnb (σ:=σ) h).rebase F fun its ρ1 h1=>?_⟩
 obtain ⟨ts,lk⟩:=its
 cases lk with
 | some _=>exact False.elim h1
 | none =>
  refine ⟨rfl,fun J H1 G1 Ok F1 wk stab=>?_⟩
  replace wk:WkR J H1 G1 Ok ts:=wk
  have F1':=F.trans F1
  have s1:=F.same F1
  refine ⟨fun i m σ2 H2=>i+m=ts.length∧∃ G2 ρ2,FI B H2 G2 σ2 ρ2∧Same (dls H1 G1) (dls H2 G2)∧SFin p B H2 G2 D (Qc0 tg (exS p.cf s) (ts.drop i) ρ2),⟨ts.length,Nat.zero_add _,G1,ρ1,F1',Same.refl _,SFin.late h1 s1⟩,?_⟩
  rintro i m σ2 H2 ⟨him,G2,ρ2,F2,s2,h2⟩
  have ok2:=stab H2 G2 s2
  by_cases hlt:i<ts.length
  ·refine .inr ⟨wk.go i H2 hlt ok2,fun σ' H'=>∃ G' ρ',FI B H' G' σ' ρ'∧Same (dls H1 G1) (dls H' G')∧SFin p B H' G' D (Qc0 tg (exS p.cf s) (ts.drop (i+1)) ρ'),fun σ' H' q=>⟨m-1,by omega,by omega,q⟩,fun x H3 y=>?_⟩
   obtain ⟨s3,t,et,ix⟩:=wk.yld i H2 x H3 hlt ok2 y
   have F3:=F2.grow s3
   have ix3:=ix G2 F2.prv s2
   rw [List.drop_eq_getElem_cons hlt] at h2
   have et':ts[i]=t:=by rw [getElem?_eq_getElem hlt] at et;exact Option.some.inj et
   rw [et'] at h2
   unfold Qc0 at h2
   cases est:Qeb tg t ρ2 with
   | none=>rw [est] at h2;exact False.elim h2
   | some ρ4 =>
    rw [est] at h2
    refine ⟨B,G2,ρ2,t,ρ4,F3,ix3,est,fun σ4 F4 _=>⟨B,G2,ρ4,F4,hO,?_⟩⟩
    replace h2:SFin p B H2 G2 D (match exS p.cf s ρ4 with
     | .nx ρ2=>Qc0 tg (exS p.cf s) (ts.drop (i+1)) ρ2
     | .ct ρ2=>Qc0 tg (exS p.cf s) (ts.drop (i+1)) ρ2
     | .bk ρ2=>.nx ρ2
     | o=>o):=h2
    have s23:Same (dls H2 G2) (dls H3 G2):=Qbn s3
    have h2:=SFin.late h2 s23
    have s13:=s2.trans s23
    show SFin p B H3 G2 _ (exS p.cf s ρ4)
    cases eb:exS p.cf s ρ4 with
    | nx ρ5=>rw [eb] at h2;exact fun σ5 H5 G5 F5 s5=>⟨G5,ρ5,F5,s13.trans s5,SFin.late h2 s5⟩
    | ct ρ5=>rw [eb] at h2;exact fun σ5 H5 G5 F5 s5=>⟨G5,ρ5,F5,s13.trans s5,SFin.late h2 s5⟩
    | bk ρ5=>rw [eb] at h2;exact h2
    | rt r ρ5=>rw [eb] at h2;exact h2
    | xn x ρ5=>rw [eb] at h2;exact h2
    | no=>rw [eb] at h2;exact h2
  ·have e0:ts.drop i=[]:=List.drop_of_length_le (by omega)
   rw [e0] at h2
   exact .inl ⟨wk.stop i H2 (by omega) ok2,h2 σ2 H2 G2 F2 (Same.refl _)⟩
theorem Qaee {iter tgE:Expr} {body:List Stmt} {w:W} {tg:Tg} (hc:X.calm=true) (hi:QI X.nox tgE iter (tW p.calm w)) (hg:QG X.nox tgE (tG tg)) (hb:QB X.nox body (tS p.calm s)) (hs:∀ x,foldedSetIterable iter X.env x=pure x):QS X (.For tgE iter body [] pos) (tS p (.for_ w tg s)) :=
 (q_sx (Q6r PassesOwn.never hc hi hg hb hs)).weak fun D σ H zz1=>by
  obtain ⟨B,G,ρ,F,hO,h⟩:=zz1
  unfold exS at h
  exact Qaaj (p:=p.calm) F hO (Qpl h)
end
section
variable {X:Cx} {p:Pr} {s:S} {pos:Pos} {K:PySem.W.Frag}
end
noncomputable def Que:Arg→Slot
 | .fz t=>.fz t
 | .ml t=>.ml t
 | .ro t=>.ro t
theorem Qpm (fn:Fn) (as:List Arg):Qfk fn as=as.map Que++List.replicate (fn.sz-fn.ps) .un:=by
 unfold Qfk
 congr 1
theorem Qdn (fn:Fn) (as:List Arg) (i:Nat):Qb (Qfk fn as) i=match as[i]? with
  | some a=>Que a
  | none=>.un:=by
 rw [Qpm]
 unfold Qb
 rcases Nat.lt_or_ge i as.length with h | h
 ·rw [List.getElem?_append_left (by rw [length_map];exact h),getElem?_map,getElem?_eq_getElem h]
  rfl
 ·rw [List.getElem?_append_right (by rw [length_map];exact h),List.getElem?_eq_none_iff.mpr h,getElem?_replicate]
  split <;> rename_i e
  ·split at e
   ·cases e;rfl
   ·cases e
  ·rfl
theorem Qpn {N:List Str} {vs:List V} {i:Nat} {v:V} (h:vs[i]?=some v):(Qcr N vs)[i]?=some (some v):=by
 unfold Qcr
 have hi:i<vs.length:=(List.getElem?_eq_some_iff.mp h).1
 rw [List.getElem?_append_left (by rw [length_map];exact hi),getElem?_map,h]
 rfl
theorem Qpo {N:List Str} {vs:List V} {i:Nat} {v:V} (h:(Qcr N vs)[i]?=some (some v)):vs[i]?=some v:=by
 unfold Qcr at h
 rcases Nat.lt_or_ge i vs.length with hi | hi
 ·rw [List.getElem?_append_left (by rw [length_map];exact hi),getElem?_map] at h
  cases e:vs[i]? with
  | none=>rw [e] at h;cases h
  | some w=>rw [e] at h;cases h;rfl
 ·rw [List.getElem?_append_right (by rw [length_map];exact hi),getElem?_replicate] at h
  split at h <;> cases h
noncomputable abbrev Q00 (H:Hp) (G:Addr→Prop) (vs:List V) (as:List Arg):Bs:=⟨H,G,fun _=>False,Qv9 vs as,fun i a=>(∃ x,as[i]?=some x∧x.prv=true)∧vs[i]?=some (.ref a)⟩
section
variable {H H1:Hp} {G G1:Addr→Prop} {vs:List V} {as:List Arg} {fn:Fn} {N:List Str} {σ1:St} {ρ1:En} {fin:List T} {mg:Str→Option Value}
theorem Quf {x:Arg} {t:T} (h:(Que x).prv=some t):x.prv=true:=by
 cases x <;> first | rfl | cases h
theorem Q01 (A:ArgsR H G vs as) (pn:Pen H G) (h1:vs.length≤N.length) (h2:fn.ps=as.length) (h3:fn.sz=N.length):FI (Q00 H G vs as) H G (Qcr N vs) (Qfk fn as):=by
 have pv:∀ i a,PrvAt (Qcr N vs) (Qfk fn as) i a→(∃ x,as[i]?=some x∧x.prv=true)∧vs[i]?=some (.ref a):=fun i a h=>by
  obtain ⟨⟨t,e⟩,q⟩:=h
  rw [Qdn] at e
  cases hx:as[i]? with
  | none=>rw [hx] at e;cases e
  | some x=>rw [hx] at e;exact ⟨⟨x,rfl,Quf e⟩,Qpo q⟩
 refine ⟨?_,fun i=>?_,fun i j a h1 h2=>?_,pn,fun _ _ _ _ e=>e,fun _ o e=>⟨o,e⟩,fun a h=>?_,fun a h=>?_,fun i a h=>?_,fun _ h=>h,fun _ h=>.inl h,fun b h=>let ⟨xs,e,_⟩:=pn b h;⟨_,e⟩⟩
 ·rw [Qpm]
  unfold Qcr
  have:=A.len
  simp only [length_append,length_map,length_replicate]
  omega
 ·rw [Qdn]
  cases hx:as[i]? with
  | none=>trivial
  | some x =>
   have hi:i<vs.length:=by rw [A.len];exact (List.getElem?_eq_some_iff.mp hx).1
   have ev:vs[i]?=some vs[i]:=getElem?_eq_getElem hi
   have q:=A.get i _ x ev hx
   have s:=Qpn (N:=N) ev
   cases x with
   | fz t=>exact ⟨_,s,q⟩
   | ml t=>obtain ⟨a,e,g,o⟩:=q;rw [e] at s;exact ⟨a,s,g,o⟩
   | ro t=>obtain ⟨a,e,g,o⟩:=q;rw [e] at s;exact ⟨a,s,g,o⟩
 ·obtain ⟨⟨x,ex,px⟩,vx⟩:=pv i a h1
  obtain ⟨⟨y,ey,py⟩,vy⟩:=pv j a h2
  exact A.apart i j a x y ex ey px py vx vy
 ·obtain ⟨i,t,e,q⟩:=h
  rw [Qdn] at e
  cases hx:as[i]? with
  | none=>rw [hx] at e;cases e
  | some x=>rw [hx] at e;cases x <;> cases e
 ·obtain ⟨i,t,e,q⟩:=h
  rw [Qdn] at e
  cases hx:as[i]? with
  | none=>rw [hx] at e;cases e
  | some x =>
   rw [hx] at e
   cases x <;> cases e
   exact ⟨i,_,hx,Qpo q⟩
 ·obtain ⟨⟨t,e⟩,q⟩:=h
  refine pv i a ⟨⟨t,?_⟩,q⟩
  rcases e with e | e | e
  ·rw [e];rfl
  ·rw [e];rfl
  ·rw [Qdn] at e
   cases hx:as[i]? with
   | none=>rw [hx] at e;cases e
   | some x=>rw [hx] at e;cases x <;> cases e
theorem Qh0:∀ {as:List Arg} {ρ:En} {fin:List T},Q2 as ρ=some fin→∀ (i:Nat) (t:T),as[i]?=some (.ml t)→∃ t',Qb ρ i=.ml t'∧fin[i]?=some t'
 | [],_,_,_,i,t,h=>by simp at h
 | .ml u::as,[],fin,e,_,_,_=>by cases e
 | .fz u::as,[],fin,e,_,_,_=>by cases e
 | .ro u::as,[],fin,e,_,_,_=>by cases e
 | .ml u::as,s::ρ,fin,e,i,t,h=>by
  cases s <;> first | (cases e;done) | skip
  rename_i w
  replace e:(Q2 as ρ).map (w :: ·)=some fin:=e
  cases e2:Q2 as ρ with
  | none=>rw [e2] at e;cases e
  | some f2 =>
   rw [e2] at e
   cases e
   cases i with
   | zero=>exact ⟨w,rfl,rfl⟩
   | succ i=>rw [getElem?_cons_succ] at h ⊢;rw [Qc];exact Qh0 e2 i t h
 | .fz u::as,s::ρ,fin,e,i,t,h=>by
  replace e:(Q2 as ρ).map (T.non :: ·)=some fin:=e
  cases e2:Q2 as ρ with
  | none=>rw [e2] at e;cases e
  | some f2 =>
   rw [e2] at e
   cases e
   cases i with
   | zero=>simp at h
   | succ i=>rw [getElem?_cons_succ] at h ⊢;rw [Qc];exact Qh0 e2 i t h
 | .ro u::as,s::ρ,fin,e,i,t,h=>by
  replace e:(Q2 as ρ).map (T.non :: ·)=some fin:=e
  cases e2:Q2 as ρ with
  | none=>rw [e2] at e;cases e
  | some f2 =>
   rw [e2] at e
   cases e
   cases i with
   | zero=>simp at h
   | succ i=>rw [getElem?_cons_succ] at h ⊢;rw [Qc];exact Qh0 e2 i t h
theorem Qnc (F:FI (Q00 H G vs as) H1 G1 σ1 ρ1) (e:Q2 as ρ1=some fin):CallP H G vs as H1 G1 fin where
 prv:=F.prv
 chg:=fun b o h e=>F.chg b o (fun z=>z) h e
 keep:=F.keep
 gg:=F.gg
 gn:=F.gn
 fin:=fun i t a h1 h2=>by
  obtain ⟨t',e1,e2⟩:=Qh0 e i t h1
  have q:=F.slot i
  rw [e1] at q
  obtain ⟨a',q1,_,q3⟩:=q
  have q4:=(F.fix i a' ⟨⟨t',.inl e1⟩,q1⟩).2
  rw [h2] at q4
  cases q4
  exact ⟨t',e2,q3⟩
theorem Q4s {v:V} {r r':PV} (F:FI (Q00 H G vs as) H1 G1 σ1 ρ1) (pv:PVR H H1 G1 σ1 ρ1 v r) (e:Qar ρ1 r=some r'):RetR H H1 G1 v r':=by
 cases r with
 | fz t=>cases e;exact pv
 | ow t =>
  cases e
  obtain ⟨a,rfl,n,g,_,o⟩:=pv
  exact ⟨a,rfl,n,g,o⟩
 | sl i =>
  have e:(match Qb ρ1 i with | .ow t=>some (PV.ow t) | _=>none)=some r':=e
  have q:=F.slot i
  cases hs:Qb ρ1 i with
  | un=>rw [hs] at e;cases e
  | pin _=>rw [hs] at e;cases e
  | fx _=>rw [hs] at e;cases e
  | fz t=>rw [hs] at e;cases e
  | ml t=>rw [hs] at e;cases e
  | ro t=>rw [hs] at e;cases e
  | ow t =>
   rw [hs] at e q
   cases e
   obtain ⟨a,q1,g,o⟩:=q
   have pv:σ1[i]?=some (some v):=pv
   rw [q1] at pv
   cases pv
   refine ⟨a,rfl,?_,g,o⟩
   rcases F.newO a ⟨i,t,hs,q1⟩ with z | z
   ·exact z
   ·exact z.elim
theorem Qaak {cf:CF} {Q:VK} {E:XK} (A:ArgsR H G vs as) (pn:Pen H G) (h1:vs.length≤N.length) (h3:fn.sz=N.length) (h:FROk mg H G vs as (Qbg cf fn as) Q E):tS ⟨cf,fun cls dx _ H=>E cls dx H,mg⟩ fn.body { nx:=fun _ H'=>Q .non H',rt:=Q } (Qcr N vs) H:=by
 unfold Qbg at h
 by_cases h2:as.length=fn.ps
 ·rw [if_pos h2] at h
  refine ⟨_,G,_,Q01 A pn h1 h2.symm h3,fun _ z=>z,?_⟩
  show SFin _ _ _ _ _ (exS cf fn.body (Qfk fn as))
  cases e:exS cf fn.body (Qfk fn as) with
  | no=>rw [e] at h;exact False.elim h
  | bk ρ=>rw [e] at h;exact False.elim h
  | ct ρ=>rw [e] at h;exact False.elim h
  | nx ρ =>
   rw [e] at h
   intro σ1 H1 G1 F _
   cases ef:Q2 as ρ with
   | none=>simp only [ef] at h;exact False.elim h
   | some fin=>simp only [ef] at h;exact h .non H1 G1 (Qnc F ef) (show Is (dls H1 G1) .non .non from Is.non)
  | rt r ρ =>
   rw [e] at h
   intro v σ1 H1 G1 F pv
   cases er:Qar ρ r with
   | none=>simp only [er] at h;exact False.elim h
   | some r' =>
    cases ef:Q2 as ρ with
    | none=>simp only [er,ef] at h;exact False.elim h
    | some fin=>simp only [er,ef] at h;exact h v H1 G1 (Qnc F ef) (Q4s F pv er)
  | xn x ρ =>
   rw [e] at h
   intro cls dx σ1 H1 G1 F xr
   cases ef:Q2 as ρ with
   | none=>simp only [ef] at h;exact False.elim h
   | some fin=>simp only [ef] at h;exact h cls dx H1 G1 (Qnc F ef) xr
 ·rw [if_neg h2] at h
  exact False.elim h
end
theorem Qn {X:Cx}:Qmu X (fun _ _ _ _=>False):=fun pins σ H s e s' I h=>by
 obtain ⟨a,cls,dx,H',_,_,_,_,_,_,z⟩:=h
 exact z.elim
structure Df where
 x:Str
 st:Stmt
 N:List Str
 ps:List Str
 fn:Fn
 fc:Str→Bool:=fun _=>true
 f1:Str→Bool:=fc
noncomputable abbrev Qju (ds:List Df):Nat→Option Fn:=fun f=>match ds[f]? with
 | some d=>some d.fn
 | none=>none
structure DfOk (K:PySem.W.Frag) (mg:Str→Option Value) (d:Df):Prop where
 dfn:Dfn K mg d.x d.st
 sc:FnScope d.N d.ps (Qg d.st)
 bd:Q5 d.x d.st d.ps
 ps:d.fn.ps=d.ps.length
 sz:d.fn.sz=d.N.length
noncomputable def Qqo (P:Program) (w:World) (K:PySem.W.Frag) (mg:Str→Option Value) (base:Heap) (ds:List Df) (cf:CF) (n:Nat):Prop:=∀ (f:Nat) (d:Df),ds[f]?=some d→HasE P w K mg base d.x d.ps n (spF cf mg f)
noncomputable def Qac (P:Program) (w:World) (K:PySem.W.Frag) (mg:Str→Option Value) (base:Heap) (ds:List Df) (d:Df):Prop :=
 ∀ (cf:CF) (n:Nat) (R:XR) (f:Addr) (cdv:Value) (A:Around) (outer:List Env) (s:Shared) (H:Hp) (E:XK),Qqo P w K mg base ds cf n→1≤n∧Qqo P w K mg base ds cf (n-1)→Qub K mg d.x cdv→Qmu (Qif d.fc (CXE P w) P w K mg base d.N d.x (Qg d.st) f cdv A outer s H E) R →
  Room n (A.deeper (envOfC d.x (Qg d.st) s.heap.objs.size f cdv))→QB (Qif d.fc (CXE P w) P w K mg base d.N d.x (Qg d.st) f cdv A outer s H E) (Qbq d.st) (tS ⟨cf,R,mg⟩ d.fn.body)
section
variable {P:Program} {w:World} {K:PySem.W.Frag} {mg:Str→Option Value} {base:Heap} {ds:List Df}
theorem Qwe {cf:CF} {f:Nat} {vs:List V} {H:Hp} {Q:VK} {E:XK} {d:Df} (h:spF (evF (Qju ds) 0) mg f vs H Q E):False:=by
 obtain ⟨G,as,_,_,z⟩:=h
 exact z
theorem Qpp (ok:∀ (f:Nat) (d:Df),ds[f]?=some d→DfOk K mg d∧Qac P w K mg base ds d):∀ n,Qqo P w K mg base ds (evF (Qju ds) n) (2*n+1)
 | 0,f,d,e=>by
  obtain ⟨g,fd,F,m⟩:=(ok f d e).1.dfn.ex
  exact ⟨g,fd,F.kp,m,F.binds (ok f d e).1.bd,⟨fun vs H Q E h=>(Qwe (d:=d) (cf:=fun _ _=>.no) h).elim,fun A outer s H args us vs Q E _ _ _ _ h=>(Qwe (d:=d) (cf:=fun _ _=>.no) h).elim⟩⟩
 | n+1,f,d,e=>by
  obtain ⟨o,b⟩:=ok f d e
  have ih:=Qpp ok n
  have hcf:∀ as,evF (Qju ds) (n+1) f as=Qbg (evF (Qju ds) n) d.fn as:=fun as=>by
   show (match Qju ds f with | some fn=>Qbg (evF (Qju ds) n) fn as | none=>.no)=_
   unfold Qju
   rw [e]
  refine Q9v (g:=d.fc) (k:=2*n+2) o.dfn o.sc o.bd (fun vs H Q E h=>?_) (fun X g cdv A outer s H vs Q E _ hcd pz hr h=>?_)
  ·obtain ⟨G,as,a,_,z⟩:=h
   rw [hcf] at z
   unfold Qbg at z
   by_cases h2:as.length=d.fn.ps
   ·rw [a.len,h2,o.ps]
   ·rw [if_neg h2] at z;exact z.elim
  ·obtain ⟨G,as,a,pn,z⟩:=h
   refine ⟨_,b (evF (Qju ds) n) (2*n+2) _ g cdv A outer s H E (fun f d e=>(ih f d e).mono (Nat.le_succ _)) ⟨Nat.le_add_left 1 _,ih⟩ hcd pz hr,?_⟩
   rw [hcf] at z
   have hl:as.length=d.fn.ps:=by
    unfold Qbg at z
    by_cases h2:as.length=d.fn.ps
    ·exact h2
    ·rw [if_neg h2] at z;exact z.elim
   have hN:d.ps.length≤d.N.length:=by
    have:=congrArg List.length o.sc.pre
    rw [length_take] at this
    omega
   exact Qaak a pn (by rw [a.len,hl,o.ps];exact hN) o.sz z
end
section
variable {X:Cx} {p:Pr} {e a b c:Expr} {es rest:List Expr} {e' a' b' c':E} {es':Es} {pos p1 p2 p3:Pos} {x:Str} {st:Stmt} {s:S} {K:PySem.W.Frag}
theorem Qwf:QS X st (tS p .bad):=Q30.weak fun D σ H ⟨B,G,ρ,F,hO,h⟩=>False.elim h
theorem Qe (i:Nat) (hN:X.N[i]?=some x:=by rfl) (hv:Vis X.env.scope x:=by first | exact Or.inl rfl | exact Or.inr (Or.inl rfl) | exact Or.inr (Or.inr rfl)) (hd:(x==("__debug__" : Str))=false:=by decide)
  (hcd:(x==("__classdict__" : Str))=false:=by decide):QE X (.Name x pos) (tE p (.var i)):=Qadz hN hv hd hcd
theorem Qug {i:Int} (h:∃ u,X.mg x=some u∧RelV (.int i) u) (hg:Gl X x:=by rfl) (hd:(x==("__debug__" : Str))=false:=by decide):QE X (.Name x pos) (tE p (.int i)):=Q92 h hg hd
theorem Qd (ha:QE X e (tE p e')) (hr:QA X es (tA p es')) (hs:Qam e=true:=by rfl):QA X (e::es) (tA p (.cons e' es')):=Q93 ha hr hs
theorem Qhf (hK:X.K=K) (ha:QE X a (tE p a')) (hb:QE X b (tE p b')):QE X (.BinOp a .Add b pos) (tE p (.bin .add a' b')):=Qph (Q6s K hK) (Q4a K) ha hb
theorem Qnd (ha:QE X a (tE p a')) (hb:QE X b (tE p b')):QE X (.BinOp a .Sub b pos) (tE p (.bin .sub a' b')):=Qph Qac5 Q4b ha hb
theorem Qft (ha:QE X a (tE p a')) (hb:QE X b (tE p b')):QE X (.BinOp a .Mult b pos) (tE p (.bin .mul a' b')):=Qph Q94 Q4d ha hb
theorem Q7a (ha:QE X a (tE p a')) (hb:QE X b (tE p b')):QE X (.BinOp a .FloorDiv b pos) (tE p (.bin .fdv a' b')):=Qph Q95 Q4e ha hb
theorem Qpq (ha:QE X a (tE p a')) (hb:QE X b (tE p b')):QE X (.BinOp a .Mod b pos) (tE p (.bin .mod a' b')):=Qph Q96 Q4f ha hb
theorem Qwg (ha:QE X a (tE p a')) (hb:QE X b (tE p b')):QE X (.BinOp a .Pow b pos) (tE p (.bin .pow a' b')):=Qph Qac6 Q4g ha hb
theorem Qne {op:CmpOp} (h1:op≠.In) (h2:op≠.NotIn):behindInMarks op b=false:=by
 unfold behindInMarks
 cases b <;> try rfl
 cases op <;> simp_all
theorem Q4t (hu:X.A.units+64<cLine) (ha:QE X a (tE p a')) (hb:QE X b (tE p b')):QE X (.Compare a [.Eq] [b] pos) (tE p (.cmp .eq a' b')):=Qsf (Q64 hu) Q0j ha hb (Qne (by decide) (by decide))
theorem g_ne (hu:X.A.units+64<cLine) (ha:QE X a (tE p a')) (hb:QE X b (tE p b')):QE X (.Compare a [.NotEq] [b] pos) (tE p (.cmp .ne a' b')):=Qsf (Q65 hu) Q0k ha hb (Qne (by decide) (by decide))
theorem g_lt (ha:QE X a (tE p a')) (hb:QE X b (tE p b')):QE X (.Compare a [.Lt] [b] pos) (tE p (.cmp .lt a' b')):=Qsf Q9j Q0l ha hb (Qne (by decide) (by decide))
theorem g_le (ha:QE X a (tE p a')) (hb:QE X b (tE p b')):QE X (.Compare a [.LtE] [b] pos) (tE p (.cmp .le a' b')):=Qsf o_le Q97 ha hb (Qne (by decide) (by decide))
theorem g_ge (ha:QE X a (tE p a')) (hb:QE X b (tE p b')):QE X (.Compare a [.GtE] [b] pos) (tE p (.cmp .ge a' b')):=Qsf o_ge Q99 ha hb (Qne (by decide) (by decide))
theorem Q02 (hu:X.A.units+64<cLine) (ha:QE X a (tE p a')) (hb:QE X b (tE p b')):QT X (.Compare a [.Eq] [b] pos) (tT p (.cmp .eq a' b')):=Qm5 (Q64 hu) Q0j ha hb (Qne (by decide) (by decide))
theorem Qih (hu:X.A.units+64<cLine) (ha:QE X a (tE p a')) (hb:QE X b (tE p b')):QT X (.Compare a [.NotEq] [b] pos) (tT p (.cmp .ne a' b')):=Qm5 (Q65 hu) Q0k ha hb (Qne (by decide) (by decide))
theorem t_lt (ha:QE X a (tE p a')) (hb:QE X b (tE p b')):QT X (.Compare a [.Lt] [b] pos) (tT p (.cmp .lt a' b')):=Qm5 Q9j Q0l ha hb (Qne (by decide) (by decide))
theorem t_gt (ha:QE X a (tE p a')) (hb:QE X b (tE p b')):QT X (.Compare a [.Gt] [b] pos) (tT p (.cmp .gt a' b')):=Qm5 o_gt Q98 ha hb (Qne (by decide) (by decide))
theorem Qaeg (ha:QE X a (tE p a')) (hb:QE X b (tE p b')):QT X (.Compare a [.Is] [b] pos) (tT p (.cmp .isn a' b')):=Qm5 Qac9 Q4h ha hb (Qne (by decide) (by decide))
theorem Quh (ha:QE X a (tE p a')) (hb:QE X b (tE p b')):QT X (.Compare a [.IsNot] [b] pos) (tT p (.cmp .isnn a' b')):=Qm5 Q9k Q0m ha hb (Qne (by decide) (by decide))
theorem Qdv (ha:QE X e (tE p e')) (he:∀ whole,isTrue e X.env whole=(do let v ← whole;standAt e.pos;holding [v] (truthy v)):=by intro _;rfl):QT X e (tT p e'):=Qad1 ha he
theorem Qpr {n:String} {tn:Expr} (hm:X.mg "isinstance" = none) (hv:bootBuiltins "isinstance" = some (.builtin "isinstance")) (ha:QE X a (tE p a')) (ht:QE X tn (tC (.ty n))) (hg:Gl X "isinstance" := by rfl) (h1:Qam a=true:=by rfl) (h2:Qam tn=true:=by rfl):QE X (.Call (.Name "isinstance" p1) [a,tn] [] pos) (tE p (.isI a' n)):=Qad5 hm hv ha ht hg h1 h2
theorem Qb1 {id:String} {r:List V→Hp→VK→Prop} {b:Bi} (hc:QCl X (.builtin id) r) (hs:Ob r b) (hm:X.mg x=none) (hv:bootBuiltins x=some (.builtin id)) (ha:QA X (e::es) (tA p es')) (hg:Gl X x:=by rfl) (hn:x ≠ "__name__" := by decide) (hdb:(x==("__debug__" : Str))=false:=by decide) (h1:Qam e=true:=by rfl) (h2:es.all Qam=true:=by rfl) :
  QE X (.Call (.Name x p1) (e::es) [] pos) (tE p (.bi b es')):=s_bi hc hs hm hv ha hg hn hdb h1 h2
theorem Qfb {T:String} {r:List V→Hp→VK→Prop} {b:Bi} (hc:QCl X (.type T) r) (hs:Ob r b) (hm:X.mg x=none) (hv:bootBuiltins x=some (.type T)) (ha:QA X (e::es) (tA p es')) (hg:Gl X x:=by rfl) (hn:x ≠ "__name__" := by decide) (hdb:(x==("__debug__" : Str))=false:=by decide) (h1:Qam e=true:=by rfl) (h2:es.all Qam=true:=by rfl) :
  QE X (.Call (.Name x p1) (e::es) [] pos) (tE p (.bi b es')):=Qad6 hc hs hm hv ha hg hn hdb h1 h2
theorem Qdr (hK:X.K=K) (ha:QE X a (tE p a')) (hb:QE X b (tE p b')) (hs:Qlz b:=by exact fun _ _=>rfl):QE X (.Subscript a b pos) (tE p (.ix a' b')):=s_ix K hK ha hb hs
theorem Qli (hK:X.K=K) {lo hi:Option Expr} {lo' hi':Es} (ha:QE X a (tE p a')) (hl:QO X lo (tO p lo')) (hh:QO X hi (tO p hi')):QE X (.Subscript a (.Slice lo hi none p2) pos) (tE p (.slc a' lo' hi')):=Qad7 K hK ha hl hh
theorem Qk {f k:Nat} {ps:List Str} (h:HasE X.prog X.w X.K X.mg X.base x ps k (spF p.cf p.mg f)) (pz:Qmu X p.R) (hr:Room k X.A) (ha:QA X (e::es) (tA p es')) (hg:Gl X x:=by rfl) (hdb:(x==("__debug__" : Str))=false:=by decide) (h1:Qam e=true:=by rfl) (h2:es.all Qam=true:=by rfl) :
  QE X (.Call (.Name x p1) (e::es) [] pos) (tE p (.call f es')):=Qaae h pz hr ha hg hdb h1 h2
theorem Qci {tgE elt iter:Expr} {ifs:List Expr} {scope:Scope} (N:List Str) (js:List (Option Nat)) {w:W} {tg:Tg} {cs:Es} (hcalm:X.calm=true)
  (hi:QI X tgE iter (tW p w)) (hg:∀ s H fp,QG (Q8 X scope N s H fp) tgE (tG tg)) (hc:∀ s H fp,QC (Q8 X scope N s H fp) ifs (tCs p.calm cs)) (he:∀ s H fp,QE (Q8 X scope N s H fp) elt (tE p.calm e'))
  (hk:scope.kind=.function:=by rfl) (h1:scOk X scope=true:=by rfl) (h2:Qim X scope N js=true:=by rfl) (hs:∀ x,foldedSetIterable iter X.env x=pure x:=by intro _;rfl):QE X (.ListComp elt [⟨tgE,iter,ifs,0⟩] scope pos) (tE p (.comp w js tg cs e')):=Qaag hcalm hi hg hc he hk h1 h2 hs
theorem Q03 {tgE elt iter:Expr} {ifs:List Expr} {scope:Scope} (N:List Str) (js:List (Option Nat)) {w:W} {tg:Tg} {cs:Es} {i:Nat} (hcalm:X.calm=true)
  (hi:QI X tgE iter (tW p w)) (hg:∀ s H fp,QG (Q8 X scope N s H fp) tgE (tG tg)) (hc:∀ s H fp,QC (Q8 X scope N s H fp) ifs (tCs p.calm cs)) (he:∀ s H fp,QE (Q8 X scope N s H fp) elt (tE p.calm e')) (hn:QG X (.Name x p2) (Qe5 i))
  (hk:scope.kind=.function:=by rfl) (h1:scOk X scope=true:=by rfl) (h2:Qim X scope N js=true:=by rfl) (hs:∀ x,foldedSetIterable iter X.env x=pure x:=by intro _;rfl)
  (hsw:swapsWithSole [.Name x p2] (.ListComp elt [⟨tgE,iter,ifs,0⟩] scope p1) pos.line X.env=pure true:=by rfl) (ha:(assignEach [.Name x p2] X.env).map (·.2)=[assign (.Name x p2) X.env]:=by rfl) :
  QS X (.Assign [.Name x p2] (.ListComp elt [⟨tgE,iter,ifs,0⟩] scope p1) pos) (Qlt (tE p (.comp w js tg cs e')) (Qe5 i)) :=
 QS.weak ⟨Qmv hcalm hi.h (fun s H fp=>(hg s H fp).h) (fun s H fp=>(hc s H fp).h) (fun s H fp=>(he s H fp).h) hn.h hk h1 h2 hs hsw ha⟩ fun D σ H h=>Qwc h
variable {tg:Expr}
theorem Qdo (hm:X.mg "range" = none) (ha:QE X a (tE p a')) (hg:Gl X "range" := by rfl) (hs:Qam a=true:=by rfl):QI X tg (.Call (.Name "range" p1) [a] [] pos) (tW p (.rng1 a')):=Q4p hm ha hg hs
theorem Qgd (he:QE X e (tE p e')) (hs:swapsWith e none pos.line X.env=pure false:=by rfl):QS X (.Expr e pos) (tS p (.expr e')):=Qaai he hs
theorem Qg4 {iter tgE:Expr} {body:List Stmt} {w:W} {tg:Tg} (hc:X.calm=true) (hi:QI X.nox tgE iter (tW p.calm w)) (hg:QG X.nox tgE (tG tg)) (hb:QB X.nox body (tS p.calm s)) (hs:∀ x,foldedSetIterable iter X.env x=pure x:=by intro _;rfl):QS X (.For tgE iter body [] pos) (tS p (.for_ w tg s)):=Qaee hc hi hg hb hs
end
end L2
set_option maxHeartbeats 2000000
namespace L2
open PySem PySem.Spec PyProof.Rows PySem.W PySem.Calls
variable {X:Cx} {p:Pr} {st:Stmt}
end L2
namespace L2
open PySem PySem.Spec PyProof.Rows PySem.W PySem.Calls
section
variable {X:Cx} {pins:List (Addr×Obj)} {σ σ0:St} {H H0:Hp} {s s0:Shared}
theorem Inv.trackL {a:Addr} {ys:List V} {us:List Value} {n:Nat} (I:Inv X pins σ H s) (I0:Inv X pins σ0 H0 s0) (hn:s0.heap.get? a=none) (hH:H a=none) (ho:s.heap.get? a=some (seqObj "list" us.toArray n)) (r:Vals ys us) (hz:ys.length≤sizeLine):Inv X pins σ (upd H a (.lst ys)) s:=by
 have ne:∀ b o,s0.heap.get? b=some o→b≠a:=fun b o e z=>by rw [z,hn] at e;cases e
 have neH:∀ b u,H b=some u→b≠a:=fun b u e z=>by rw [z,hH] at e;cases e
 obtain ⟨oL,hL⟩:=I0.ns_in
 refine ⟨I.ok,I.os,I.bare,⟨I.base.keep,I.base.slot,fun b o e n hx=>?_,I.base.there,fun b xs e=>?_,fun b o u e=>?_,fun b ps e=>?_⟩,I.loc,I.cell,?_,fun x c e=>?_,fun p hp=>?_,fun b u e=>?_,I.len⟩
 ·obtain ⟨v,q⟩:=I0.old_in e hx
  rw [Qab (ne _ _ q)]
  exact I.base.free b o e n hx
 ·have q:=I.base.tups b xs e
  rw [Qab (neH _ _ q)];exact q
 ·have q:=I.base.frzs b o u e
  rw [Qab (neH _ _ q)];exact q
 ·have q:=I.base.tbls b ps e
  rw [Qab (neH _ _ q)];exact q
 ·rw [Qab (ne _ _ hL)];exact I.free
 ·obtain ⟨o,q⟩:=I0.cell_in e
  rw [Qab (ne _ _ q)];exact I.freeC x c e
 ·obtain ⟨e,n,r⟩:=I.pin p hp
  exact ⟨e,by rw [Qab (ne _ _ (I0.pin p hp).1)];exact n,r⟩
 ·by_cases hb:b=a
  ·subst hb
   rw [Q6] at e
   cases e
   exact ⟨hz,us,n,r,ho⟩
  ·rw [Qab hb] at e
   exact (I.hok b u e).stay (fun _ _ _ q=>q) (fun c q=>by rw [Qab (neH _ _ q)];exact q) (fun c xs q=>by rw [Qab (neH _ _ q)];exact q) fun c xs q=>by rw [Qab (neH _ _ q)];exact q
end
section
variable {prog:Program} {w:World} {A:Around} {E:Value→Shared→Prop} {s:Shared} {a kS:Addr} {keys:Array Value} {us:List Value} {kz:List Int} {e e1:Nat} {P:PySem.Fin→Shared→Prop}
theorem Qsj {st:SortSt} (gk:s.heap.get? kS=some (seqObj "list" keys e)) (ga:s.heap.get? a=some (seqObj "list" #[] e1)) (hka:kS≠a) (hk:IntsAre keys.toList kz) (hlen:kz.length=us.length) (h64:us.length<64)
  (hp:(arrOf st).Perm (keys.zip us.toArray)) (hs:SortedTo (arrOf st) (arrOf st).size) (hfl:failedOf st=none)
  (h:∀ h' tk out c,(∀ b o,b∉[a,kS]→s.heap.get? b=some o→h'.get? b=some o)→h'.get? a=some (seqObj "list" out c)→KskOut true kz us out.toList→P (.done (.ret .none)) { s with heap:=h',toks:=tk }) :
  wpAny (model prog w) A (ksk_tail a true e1 (.ref kS) st) P E s:=by
 have kl:keys.size=us.length:=by
  have:=hk.length
  rw [Array.length_toList] at this
  omega
 have al:(arrOf st).size=us.length:=by rw [hp.size_eq,Array.size_zip,kl,size_toArray,Nat.min_self]
 have ga1:(s.heap.update kS (Obj.mapSeq fun _=>(#[]:Array Value))).get? a=some (seqObj "list" #[] e1):=by
  rw [Heap.get?_update_ne _ _ _ _ (Ne.symm hka)];exact ga
 have kp1:∀ b o,b∉[a,kS]→s.heap.get? b=some o→(s.heap.update kS (Obj.mapSeq fun _=>(#[]:Array Value))).get? b=some o:=fun b o hb q=>by
  rw [Heap.get?_update_ne _ _ _ _ (fun z=>hb (by rw [z];simp))];exact q
 unfold ksk_tail
 dsimp only
 refine wpAny_bind (listUpdate_at gk rfl ?_ (by rw [kl,sizeLine_eq];omega) (Nat.zero_le _))
 generalize s.heap.update kS (Obj.mapSeq fun _=>(#[]:Array Value))=h1 at *
 refine wpAny_bind (wpAny_letGo ?_)
 refine wpAny_bind (seqEpoch_at ga1 rfl ?_)
 rw [if_pos rfl]
 refine wpAny_bind (listUpdate_at ga1 rfl ?_ (Nat.zero_le _) (by rw [Array.size_reverse,Array.size_map,al,sizeLine_eq];omega))
 obtain ⟨c,gc⟩:∃ c,(h1.update a (Obj.mapSeq fun _=>((arrOf st).map (·.2)).reverse)).get? a=some (seqObj "list" ((arrOf st).map (·.2)).reverse c):=⟨_,get?_update_seq ga1 fun _=>((arrOf st).map (·.2)).reverse⟩
 have kp2:∀ b o,b∉[a,kS]→s.heap.get? b=some o→(h1.update a (Obj.mapSeq fun _=>((arrOf st).map (·.2)).reverse)).get? b=some o:=fun b o hb q=>by
  rw [Heap.get?_update_ne _ _ _ _ (fun z=>hb (by rw [z];simp))];exact kp1 b o hb q
 rw [hfl]
 have ee:(e1 != e1)=false:=bne_self_eq_false e1
 rw [ee]
 have ko:=ksk_out (b:=true) hk hp hs
 rw [if_pos rfl] at ko
 exact wpAny_pure (h _ _ _ c kp2 gc ko)
theorem Q4u (gk:s.heap.get? kS=some (seqObj "list" keys e)) (ga:s.heap.get? a=some (seqObj "list" #[] e1)) (hka:kS≠a) (hk:IntsAre keys.toList kz) (hlen:kz.length=us.length) (h64:us.length<64)
  (h:∀ h' tk out c,(∀ b o,b∉[a,kS]→s.heap.get? b=some o→h'.get? b=some o)→h'.get? a=some (seqObj "list" out c)→KskOut true kz us out.toList→P (.done (.ret .none)) { s with heap:=h',toks:=tk }) :
  wpAny (model prog w) A (ksk_end a true us.toArray e1 (.ref kS) keys) P E s:=by
 have kl:keys.size=us.length:=by
  have:=hk.length
  rw [Array.length_toList] at this
  omega
 have zl:(keys.zip us.toArray).size=us.length:=by rw [Array.size_zip,kl,size_toArray,Nat.min_self]
 have p0:(keys.zip us.toArray).reverse.Perm (keys.zip us.toArray):=Array.perm_iff_toList_perm.mpr (by rw [Array.toList_reverse];exact List.reverse_perm _)
 unfold ksk_end
 dsimp only
 rw [if_pos rfl]
 refine wpAny_bind (wpAny_rule ?_)
 rw [if_pos rfl]
 by_cases h2:us.toArray.size<2
 ·rw [if_pos h2,if_pos h2]
  refine wpAny_bind (wpAny_pure ?_)
  rw [StateT.run_pure]
  refine wpAny_bind (wpAny_pure ?_)
  refine Qsj (st:=SortSt.mk' general' (keys.zip us.toArray).reverse #[] 7 none) gk ga hka hk hlen h64 p0 (fun i j hij hj=>?_) rfl h
  have hj:j<(keys.zip us.toArray).reverse.size:=hj
  rw [p0.size_eq,zl] at hj
  rw [size_toArray] at h2
  obtain rfl:i=j:=by omega
  exact Int.le_refl _
 ·rw [if_neg h2,if_neg h2]
  rw [size_toArray] at h2
  rw [ksk_kind hk (by rw [kl];omega)]
  refine wpAny_bind (wpAny_pure ?_)
  refine wpAny_bind (wpAny_mono (wpS_sortRuns (a₀:=keys.zip us.toArray) (st:=SortSt.mk' oneType' (keys.zip us.toArray).reverse #[] 7 none)
   (Q:=fun _ st'=>(arrOf st').Perm (keys.zip us.toArray)∧failedOf st'=none∧SortedTo (arrOf st') (keys.zip us.toArray).size)
   (ksk_intKeys hk) ⟨p0,rfl,rfl,rfl⟩ (by rw [zl];omega) (by rw [zl];exact h64) fun st' x1 x2 x3=>⟨x1,x2,x3⟩) ?_ fun _ _ z=>z)
  rintro ⟨⟨⟩,st'⟩ s' ⟨rfl,hp,hf,hs⟩
  exact Qsj gk ga hka hk hlen h64 hp (by rw [hp.size_eq];exact hs) hf h
end
noncomputable def Qlj (sp:Sp):List V→List Int→Hp→(Hp→Prop)→Prop
 | [],[],H,Q=>Q H
 | y::ys,k::kz,H,Q=>sp [y] H (fun v H1=>v=.int k∧Qlj sp ys kz H1 Q) (fun _ _ _=>False)
 | _,_,_,_=>False
noncomputable def Qyb (kz:List Int) (ys ys':List V):Prop:=∃ ps:List (Int×V),ps.Perm (kz.zip ys)∧ys'=ps.map Prod.snd∧ps.Pairwise (fun p q=>q.1≤p.1)
theorem Qyc {kz:List Int}:∀ {ys:List V} {us:List Value},Vals ys us→∀ {ps:List (Int×Value)},ps.Perm (kz.zip us)→∃ qs:List (Int×V),qs.Perm (kz.zip ys)∧qs.map Prod.fst=ps.map Prod.fst∧Vals (qs.map Prod.snd) (ps.map Prod.snd):=by
 intro ys us r ps hp
 have key:∀ {A:List (Int×Value)} {B:List (Int×Value)},A.Perm B→∀ {C:List (Int×V)},Paired (fun (p:Int×V) (q:Int×Value)=>p.1=q.1∧RelV p.2 q.2) C B→∃ D:List (Int×V),D.Perm C∧Paired (fun (p:Int×V) (q:Int×Value)=>p.1=q.1∧RelV p.2 q.2) D A:=by
  intro A B hAB
  induction hAB with
  | nil=>intro C hC;exact ⟨C,.refl _,hC⟩
  | cons x _ ih =>
   intro C hC
   cases hC with
   | cons z t =>
    obtain ⟨D,d1,d2⟩:=ih t
    exact ⟨_::D,d1.cons _,.cons z d2⟩
  | swap x y l =>
   intro C hC
   cases hC with
   | cons z t =>
    cases t with
    | cons z2 t=>exact ⟨_::_::_,.swap _ _ _,.cons z2 (.cons z t)⟩
  | trans _ _ ih1 ih2 =>
   intro C hC
   obtain ⟨D,d1,d2⟩:=ih2 hC
   obtain ⟨D2,e1,e2⟩:=ih1 d2
   exact ⟨D2,e1.trans d1,e2⟩
 have base:∀ (kz:List Int) {ys:List V} {us:List Value},Vals ys us→Paired (fun (p:Int×V) (q:Int×Value)=>p.1=q.1∧RelV p.2 q.2) (kz.zip ys) (kz.zip us):=by
  intro kz
  induction kz with
  | nil=>intro ys us r;exact .nil
  | cons k kz ih =>
   intro ys us r
   cases r with
   | nil=>exact .nil
   | cons q r=>exact .cons ⟨rfl,q⟩ (ih r)
 obtain ⟨D,d1,d2⟩:=key hp (base kz r)
 refine ⟨D,d1,?_,?_⟩
 ·clear d1 hp key base
  induction d2 with
  | nil=>rfl
  | cons z _ ih=>rw [map_cons,map_cons,ih,z.1]
 ·clear d1 hp key base
  induction d2 with
  | nil=>exact .nil
  | cons z _ ih=>exact .cons z.2 ih
section
variable {X:Cx} {pins:List (Addr×Obj)} {σ:St} {H:Hp} {s:Shared}
theorem Qyd {ps:List Str} {k:Nat} {sp:Sp} {l fa:Addr} {fd:FuncData} {ys:List V} {us:List Value} {kz:List Int} {Q:VK} {E:Value→Shared→Prop} (I:Inv X pins σ H s) (b:Binds X.K fd ps []) (F:FnOk X.prog X.w X.K X.mg X.base (CXE X.prog X.w) k fa fd ps sp) (hr:Room k X.A.in1.in1)
  (hl:s.heap.IsList l us.toArray) (ry:Vals ys us) (h64:us.length<64) (hkl:kz.length=us.length) (hs:Qlj sp ys kz H (fun H2=>∀ ys',Qyb kz ys ys'→∀ a,H2 a=none→Q (.ref a) (upd H2 a (.lst ys')))) :
  wpAny (model X.prog X.w) X.A (call (.builtin "sorted") [.ref l] [(Str.ofString "key",.ref fa),(Str.ofString "reverse",.bool true)]) (EP X pins σ Q) E s:=by
 refine call_function_entry_kw kind_sorted plain_sorted entry_sorted (ksk_s2 _ _ _) ?_
 unfold Builtin.«sorted»
 refine wpAny_bind (m:=checkCount "sorted" 1 1 _) (wpAny_pure ?_)
 have hz:us.length≤sizeLine:=by rw [sizeLine_eq];omega
 refine wpAny_bind (collect_list (vs:=us) hl ?_ hz)
 refine wpAny_bind (wpAny_newList ?_ (by simpa using hz))
 have hsz:((s.heap.push (seqObj "list" #[] 0)).update s.heap.objs.size (Obj.mapSeq (· ++ us.toArray))).objs.size=s.heap.objs.size+1:=by
  rw [Heap.size_update,size_push']
 have hoL:(((s.heap.push (seqObj "list" #[] 0)).update s.heap.objs.size (Obj.mapSeq (· ++ us.toArray))).push (seqObj "list" us.toArray 0)).get? (s.heap.objs.size+1)=some (seqObj "list" us.toArray 0):=by
  rw [←hsz];exact Heap.get?_push_size _ rfl
 have keep:∀ b o,s.heap.get? b=some o→(((s.heap.push (seqObj "list" #[] 0)).update s.heap.objs.size (Obj.mapSeq (· ++ us.toArray))).push (seqObj "list" us.toArray 0)).get? b=some o:=fun b o q=>by
  have hlt:b<s.heap.objs.size:=Heap.lt_size q
  rw [Heap.get?_push_ne _ _ _ (by rw [hsz];exact Nat.ne_of_lt (Nat.lt_succ_of_lt hlt)),Heap.get?_update_ne _ _ _ _ (Nat.ne_of_lt hlt),Heap.get?_push_ne _ _ _ (Nat.ne_of_lt hlt)]
  exact q
 show wpAny _ _ _ _ _ { s with heap:=((s.heap.push (seqObj "list" #[] 0)).update s.heap.objs.size (Obj.mapSeq (· ++ us.toArray))).push (seqObj "list" us.toArray 0) }
 rw [hsz]
 have hz1:(((s.heap.push (seqObj "list" #[] 0)).update s.heap.objs.size (Obj.mapSeq (· ++ us.toArray))).push (seqObj "list" us.toArray 0)).objs.size=s.heap.objs.size+2:=by rw [size_push',hsz]
 generalize hh1:((s.heap.push (seqObj "list" #[] 0)).update s.heap.objs.size (Obj.mapSeq (· ++ us.toArray))).push (seqObj "list" us.toArray 0)=h1 at *
 refine wpAny_bind (wpAny_holding (wpAny_call_entry_kw slot_list_sort ⟨_,hoL,rfl⟩ entry_list_sort ?body (ksk_l2 _ _ _)))
 case body =>
  show wpAny (model X.prog X.w) X.A.in1.in1 (Builtin.«list.sort» ⟨[.ref (s.heap.objs.size+1)],[(Str.ofString "key",.ref fa),(Str.ofString "reverse",.bool true)]⟩) _ _ _
  rw [ksk_t2]
  generalize ha:s.heap.objs.size+1=a at *
  obtain ⟨e1,ho1⟩:∃ e1,(h1.update a (Obj.mapSeq fun _=>(#[]:Array Value))).get? a=some (seqObj "list" #[] e1):=⟨_,get?_update_seq hoL fun _=>#[]⟩
  unfold ksk_tree
  refine wpAny_bind (listItems_at hoL rfl ?_)
  refine wpAny_bind (listUpdate_at hoL rfl ?_ (by rw [size_toArray];exact hz) (Nat.zero_le _))
  refine wpAny_bind (seqEpoch_at ho1 rfl ?_)
  refine wpAny_bind (wpAny_newTuple ?_ (by simpa using hz))
  refine wpAny_bind (wpAny_newList ?_ (Nat.zero_le _))
  refine wpAny_holding ?_
  unfold ksk_rest
  refine wpAny_bind (wpAny_rule ?_)
  rw [←Array.forIn_toList]
  have sz2:((h1.update a (Obj.mapSeq fun _=>(#[]:Array Value))).push { cls:=.type "tuple",data:=.seq us.toArray.toList.toArray }).objs.size=s.heap.objs.size+3:=by
   rw [size_push',Heap.size_update,hz1]
  have keep2:∀ b o,s.heap.get? b=some o→((h1.update a (Obj.mapSeq fun _=>(#[]:Array Value))).push { cls:=.type "tuple",data:=.seq us.toArray.toList.toArray }).get? b=some o:=fun b o q=>by
   have hlt:=Heap.lt_size q
   refine Heap.get?_push_of_some _ ?_
   rw [Heap.get?_update_ne _ _ _ _ (Nat.ne_of_lt (by rw [←ha];exact Nat.lt_succ_of_lt hlt))]
   exact keep b o q
  have ha2:((h1.update a (Obj.mapSeq fun _=>(#[]:Array Value))).push { cls:=.type "tuple",data:=.seq us.toArray.toList.toArray }).get? a=some (seqObj "list" #[] e1):=Heap.get?_push_of_some _ ho1
  generalize ((h1.update a (Obj.mapSeq fun _=>(#[]:Array Value))).push { cls:=.type "tuple",data:=.seq us.toArray.toList.toArray })=h2 at *
  have ha3:(h2.push (seqObj "list" #[] 0)).get? a=some (seqObj "list" #[] e1):=Heap.get?_push_of_some _ ha2
  have hk3:(h2.push (seqObj "list" #[] 0)).get? h2.objs.size=some (seqObj "list" #[] 0):=Heap.get?_push_size _ rfl
  have keep3:∀ b o,s.heap.get? b=some o→(h2.push (seqObj "list" #[] 0)).get? b=some o:=fun b o q=>Heap.get?_push_of_some _ (keep2 b o q)
  show wpAny _ _ _ _ _ { s with heap:=h2.push (seqObj "list" #[] 0) }
  generalize hkS:h2.objs.size=kS at *
  generalize h2.push (seqObj "list" #[] 0)=h3 at *
  have I3:Inv X pins σ H { s with heap:=h3 }:=I.kept keep3
  have fp:∀ H',(∀ b∈[a,kS],H' b=none)→∀ b∈[a,kS],Qis X pins H' b:=fun H' hn b hb=>I.fpOk (by
   simp only [mem_cons,not_mem_nil,or_false] at hb
   rcases hb with rfl | rfl <;> omega) (hn b hb)
  have hnH:∀ b∈[a,kS],H b=none:=fun b hb=>I.hok.fresh (by
   simp only [mem_cons,not_mem_nil,or_false] at hb
   rcases hb with rfl | rfl <;> omega)
  have nka:kS≠a:=by omega
  refine wpAny_bind (wpAny_forIn_list _ (fun rest (_:PUnit) s'=>∃ (yl:List V) (kd kl:List Int) (H':Hp) (ks:Array Value) (e:Nat),Vals yl rest∧kz=kd++kl∧ks.size+rest.length=us.length∧Inv X pins σ H' s'∧s'.heap.get? a=some (seqObj "list" #[] e1)∧s'.heap.get? kS=some (seqObj "list" ks e)∧H' a=none∧H' kS=none∧IntsAre ks.toList kd∧Qlj sp yl kl H' (fun H2=>∀ ys',Qyb kz ys ys'→∀ a,H2 a=none→Q (.ref a) (upd H2 a (.lst ys')))) _ ?_ ?_ _ _ ⟨ys,[],kz,H,#[],0,by simpa using ry,rfl,by simp,I3,ha3,hk3,hnH a (by simp),hnH kS (by simp),.nil,hs⟩)
  ·rintro u rest _ s' ⟨yl,kd,kl,Hc,ks,e,rv,rfl,hsz,Ic,ga,gk,na,nk,hi,hk⟩
   cases rv with
   | @cons y _ yl _ ru rv =>
    cases kl with
    | nil=>exact False.elim hk
    | cons kk kl =>
     have hk:sp [y] Hc (fun v H1=>v=.int kk∧Qlj sp yl kl H1 _) (fun _ _ _=>False):=hk
     have I4:=Ic.pinned (fp Hc fun b hb=>by
      simp only [mem_cons,not_mem_nil,or_false] at hb
      rcases hb with rfl | rfl
      ·exact na
      ·exact nk) fun b hb=>by
      simp only [mem_cons,not_mem_nil,or_false] at hb
      rcases hb with rfl | rfl
      ·exact ⟨_,ga,fun v z=>by cases z⟩
      ·exact ⟨_,gk,fun v z=>by cases z⟩
     have hlen:([u]++[]).length=ps.length:=(F.len _ _ _ _ hk)
     refine wpAny_bind (wpAny_attempt (wpAny_call (codeAny_mono (F.run X.A.in1.in1 X.stack _ Hc ⟨[u],[]⟩ ([u]++[]) [y] _ _ hr I4.env0.in1.in1 (b _ [u] I4.kIn hlen) (.cons ru .nil) hk) fun rr s4 hq=>?_)))
     cases rr with
     | error ev =>
      obtain ⟨_,_,_,_,_,_,_,_,_,_,z⟩:=hq
      exact z.elim
     | ok fl =>
      cases fl with
      | next=>exact False.elim hq
      | brk=>exact False.elim hq
      | cont=>exact False.elim hq
      | ret uk =>
       obtain ⟨v,H4,J,rk,q⟩:=I4.after hq
       obtain ⟨rfl,q⟩:=q
       obtain ⟨tk,rfl⟩:=rk
       have pa:=J.pin (a,seqObj "list" #[] e1) (mem_append_right _ (mem_append_right _ (Qb8 (by simp) ga)))
       have pk:=J.pin (kS,seqObj "list" ks e) (mem_append_right _ (mem_append_right _ (Qb8 (by simp) gk)))
       have ga4:s4.heap.get? a=some (seqObj "list" #[] e1):=pa.1
       have gk4:s4.heap.get? kS=some (seqObj "list" ks e):=pk.1
       rw [length_cons] at hsz
       refine wpAny_bind (listUpdate_at gk4 rfl (wpAny_pure ?_) (by rw [sizeLine_eq];omega) (by rw [Array.size_push,sizeLine_eq];omega))
       have kp5:∀ b o,b∉[a,kS]→s4.heap.get? b=some o→(s4.heap.update kS (Obj.mapSeq fun x=>x.push (.int kk tk))).get? b=some o:=fun b o hb q=>by
        rw [Heap.get?_update_ne _ _ _ _ (fun z=>hb (by rw [z];simp))];exact q
       refine ⟨yl,kd++[kk],kl,H4,ks.push (.int kk tk),_,rv,by simp,by rw [Array.size_push];omega,J.unpinned.turnedL kp5 (fp H4 fun b hb=>by
        simp only [mem_cons,not_mem_nil,or_false] at hb
        rcases hb with rfl | rfl
        ·exact pa.2.1
        ·exact pk.2.1),?_,get?_update_seq gk4 fun x=>x.push (.int kk tk),pa.2.1,pk.2.1,by rw [Array.toList_push];exact hi.append (.cons kk tk .nil),q⟩
       show (s4.heap.update kS _).get? a=_
       rw [Heap.get?_update_ne _ _ _ _ (Ne.symm nka)];exact ga4
  ·rintro _ s' ⟨yl,kd,kl,Hc,ks,e,rv,rfl,hsz,Ic,ga,gk,na,nk,hi,hk⟩
   cases rv
   cases kl with
   | cons _ _=>exact False.elim hk
   | nil =>
    rw [append_nil] at *
    have kl:ks.size=us.length:=by simpa using hsz
    refine wpAny_bind (listItems_at gk rfl ?_)
    refine Q4u gk ga nka hi hkl h64 fun h' tk out c kp go ko=>?_
    obtain ⟨ps',hp,ho,hpw⟩:=ko
    obtain ⟨qs,q1,q2,q3⟩:=Qyc ry hp
    have hso:Qyb kd ys (qs.map Prod.snd):=by
     refine ⟨qs,q1,rfl,?_⟩
     have pw:(ps'.map Prod.fst).Pairwise fun x y=>y≤x:=List.pairwise_map.mpr (hpw.imp fun h=>by simpa using h)
     rw [←q2] at pw
     exact List.pairwise_map.mp pw
    have I7:Inv X pins σ Hc { s' with heap:=h',toks:=tk }:=Ic.turnedL kp (fp Hc fun b hb=>by
     simp only [mem_cons,not_mem_nil,or_false] at hb
     rcases hb with rfl | rfl
     ·exact na
     ·exact nk)
    rw [←ho] at q3
    have I8:=I7.trackL I (a:=a) (ys:=qs.map Prod.snd) (us:=out.toList) (n:=c) (by
     cases z:s.heap.get? a with
     | none=>rfl
     | some o=>exact absurd (Heap.lt_size z) (Nat.not_lt.mpr (by rw [←ha];exact Nat.le_succ _))) na (by simpa using go) q3 (by
      rw [length_map,q1.length_eq,List.length_zip,sizeLine_eq]
      omega)
    exact ⟨_,rfl,wpAny_pure ⟨_,rfl,.ref a,upd Hc a (.lst (qs.map Prod.snd)),I8,rfl,hk _ hso a na⟩⟩
end
noncomputable def tSrk (K:PySem.W.Frag) (sp:Sp) (te:TE):TE:=fun σ H Q=>te σ H fun v H1=>∃ (l:Addr) (ys:List V) (kz:List Int),[v]=[V.ref l]∧SqL K H1 l ys∧ys.length<64∧kz.length=ys.length∧Qlj sp ys kz H1 fun H2=>∀ ys',Qyb kz ys ys'→∀ a,H2 a=none→Q (.ref a) (upd H2 a (.lst ys'))
section
variable {X:Cx} {x:Str} {ps:List Str} {k:Nat} {sp:Sp} {e eb:Expr} {te:TE} {p1 p2 k1 k2 pos:Pos}
theorem Qaei (h:HasE X.prog X.w X.K X.mg X.base x ps k sp) (hr:Room k X.A.in1.in1) (he:QE X e te) (hb:QE X eb (tC (.bl true))) (hm:X.mg "sorted" = none) (hv:bootBuiltins "sorted" = some (.builtin "sorted")) (hg:Gl X "sorted") (hgx:Gl X x) (hdb:(x==("__debug__" : Str))=false)
  (hns:Qam e=true) (hst:backTo pos (starEach [e] X.env)=(false,eval e X.env)::backTo pos (starEach [] X.env)) (hpl:(backTo pos (starEach [e] X.env)).any (·.1)=false) :
  QE X (.Call (.Name "sorted" p1) [e] [⟨some "key",.Name x p2,k1⟩,⟨some "reverse",eb,k2⟩] pos) (tSrk X.K sp te):=by
 obtain ⟨f,fd,kp,m,b,F⟩:=h
 refine ⟨fun pins s σ H Q I hq=>?_⟩
 refine wpAny_Call_Name_kw (Qmk I hg hm hv ?_)
 have ha:=(Qdt he Qha hns).h pos pins s σ H (fun vs H1=>∃ (l:Addr) (ys:List V) (kz:List Int),vs=[V.ref l]∧SqL X.K H1 l ys∧ys.length<64∧kz.length=ys.length∧Qlj sp ys kz H1 fun H2=>∀ ys',Qyb kz ys ys'→∀ a,H2 a=none→Q (.ref a) (upd H2 a (.lst ys'))) I hq
 refine callWith_kw (thn ha fun us s1 ⟨vs,H1,I1,r,q⟩=>?_) hst hpl
 obtain ⟨l,ys,kz,rfl,sq,hl,hkl,hs⟩:=q
 refine thn ((Qvy (nm:=some "key") (kpos:=k1) (Qvs (pos:=p2) hgx m (v:=.ref f) rfl hdb) (Qvy (nm:=some "reverse") (kpos:=k2) hb.h Q8v)) pos pins s1 σ H1 (fun zs H2=>zs=[.ref f,.bl true]∧SqL X.K H2 l ys∧Qlj sp ys kz H2 fun H2=>∀ ys',Qyb kz ys ys'→∀ a,H2 a=none→Q (.ref a) (upd H2 a (.lst ys'))) I1 ⟨rfl,sq,hs⟩) fun ws s2 ⟨zs,H2,I2,rz,q2⟩=>?_
 obtain ⟨rfl,sq,hs⟩:=q2
 obtain ⟨u,rfl,ru⟩:=Qgz r
 cases ru
 obtain ⟨its,r',pl,hz⟩:=I2.list sq
 obtain ⟨w1,w2,rfl,r1,r2⟩:=Qrv rz
 cases r1
 cases r2
 have hln:ys.length=its.length:=r'.length
 exact Qyd I2 b F hr pl.isList r' (by omega) (by omega) hs
end
theorem Qps {α:Type}:∀ {a b:List (Int×α)},a.Perm b→a.Pairwise (fun p q=>q.1<p.1)→b.Pairwise (fun p q=>q.1<p.1)→a=b
 | [],b,h,_,_=>by rw [List.nil_perm.mp h]
 | x::a,b,h,pa,pb=>by
  cases b with
  | nil=>exact absurd h.length_eq (by simp)
  | cons y b =>
   have hxy:x=y:=by
    rcases mem_cons.mp (h.subset (mem_cons_self (a:=x) (l:=a))) with e | e
    ·exact e
    ·rcases mem_cons.mp (h.symm.subset (mem_cons_self (a:=y) (l:=b))) with e2 | e2
     ·exact e2.symm
     ·have h1:=(List.pairwise_cons.mp pb).1 x e
      have h2:=(List.pairwise_cons.mp pa).1 y e2
      omega
   subst hxy
   rw [Qps h.cons_inv (List.pairwise_cons.mp pa).2 (List.pairwise_cons.mp pb).2]
theorem Qkr (p:Int×T):∀ l,(Qr8 p l).Perm (p::l)
 | []=>.refl _
 | q::l=>by
  rw [Qr8]
  split
  ·exact .refl _
  ·exact ((Qkr p l).cons q).trans (.swap _ _ _)
theorem Qh1:∀ l,(Qr9 l).Perm l
 | []=>.refl _
 | p::l=>(Qkr p _).trans ((Qh1 l).cons p)
theorem Qwh (p:Int×T):∀ {l},(∀ q∈l,q.1≠p.1)→l.Pairwise (fun p q=>q.1<p.1)→(Qr8 p l).Pairwise (fun p q=>q.1<p.1)
 | [],_,_=>List.pairwise_singleton _ _
 | q::l,hne,hp=>by
  have h1:=List.pairwise_cons.mp hp
  have hq:=hne q (.head _)
  rw [Qr8]
  split
  ·rename_i hlt
   refine List.pairwise_cons.mpr ⟨fun r hr=>?_,hp⟩
   rcases mem_cons.mp hr with rfl | hr
   ·exact hlt
   ·have:=h1.1 r hr;omega
  ·rename_i hlt
   refine List.pairwise_cons.mpr ⟨fun r hr=>?_,Qwh p (fun r hr=>hne r (.tail _ hr)) h1.2⟩
   rcases mem_cons.mp ((Qkr p l).subset hr) with rfl | hr
   ·omega
   ·exact h1.1 r hr
theorem Qqp:∀ {l:List (Int×T)},(l.map (·.1)).Nodup→(Qr9 l).Pairwise (fun p q=>q.1<p.1)
 | [],_=>List.Pairwise.nil
 | p::l,h=>by
  rw [map_cons,nodup_cons] at h
  refine Qwh p (fun q hq e=>h.1 ?_) (Qqp h.2)
  rw [←e]
  exact mem_map.mpr ⟨q,(Qh1 l).subset hq,rfl⟩
theorem Qye {α:Type} {l:List (Int×α)} (h:l.Pairwise fun p q=>q.1≤p.1) (n:(l.map (·.1)).Nodup):l.Pairwise fun p q=>q.1<p.1:=by
 have n:l.Pairwise fun p q=>p.1≠q.1:=List.pairwise_map.mp n
 refine (h.and n).imp fun ⟨a,b⟩=>?_
 omega
theorem Qqq {α:Type}:∀ {kz:List Int} {xs:List α},kz.length=xs.length→(kz.zip xs).map (·.1)=kz
 | [],_,_=>rfl
 | k::kz,[],h=>by cases h
 | k::kz,x::xs,h=>by rw [List.zip_cons_cons,map_cons,Qqq (by simpa using h)]
theorem Q4v {H:Hp} {kz:List Int}:∀ {ys:List V} {ts:List T},IsL H ys ts→∀ {ps:List (Int×V)},ps.Perm (kz.zip ys)→∃ qs:List (Int×T),qs.Perm (kz.zip ts)∧qs.map (·.1)=ps.map (·.1)∧IsL H (ps.map (·.2)) (qs.map (·.2)):=by
 intro ys ts r ps hp
 have key:∀ {A B:List (Int×V)},A.Perm B→∀ {C:List (Int×T)},Paired (fun (p:Int×T) (q:Int×V)=>p.1=q.1∧Is H q.2 p.2) C B→∃ D:List (Int×T),D.Perm C∧Paired (fun (p:Int×T) (q:Int×V)=>p.1=q.1∧Is H q.2 p.2) D A:=by
  intro A B hAB
  induction hAB with
  | nil=>intro C hC;exact ⟨C,.refl _,hC⟩
  | cons x _ ih =>
   intro C hC
   cases hC with
   | cons z t =>
    obtain ⟨D,d1,d2⟩:=ih t
    exact ⟨_::D,d1.cons _,.cons z d2⟩
  | swap x y l =>
   intro C hC
   cases hC with
   | cons z t =>
    cases t with
    | cons z2 t=>exact ⟨_::_::_,.swap _ _ _,.cons z2 (.cons z t)⟩
  | trans _ _ ih1 ih2 =>
   intro C hC
   obtain ⟨D,d1,d2⟩:=ih2 hC
   obtain ⟨D2,e1,e2⟩:=ih1 d2
   exact ⟨D2,e1.trans d1,e2⟩
 have base:∀ (kz:List Int) {ys:List V} {ts:List T},IsL H ys ts→Paired (fun (p:Int×T) (q:Int×V)=>p.1=q.1∧Is H q.2 p.2) (kz.zip ts) (kz.zip ys):=by
  intro kz
  induction kz with
  | nil=>intro ys ts r;exact .nil
  | cons k kz ih =>
   intro ys ts r
   cases ts with
   | nil=>cases r.nil_inv;exact .nil
   | cons t ts =>
    obtain ⟨y,w,rfl,iy,iw⟩:=r.cons_inv
    exact .cons ⟨rfl,iy⟩ (ih iw)
 obtain ⟨D,d1,d2⟩:=key hp (base kz r)
 refine ⟨D,d1,?_,?_⟩
 ·clear d1 hp key base
  induction d2 with
  | nil=>rfl
  | cons z _ ih=>rw [map_cons,map_cons,ih,z.1]
 ·clear d1 hp key base
  induction d2 with
  | nil=>exact .nil
  | cons z _ ih=>exact .cons z.2 ih
section
variable {X:Cx} {p:Pr} {f:Nat} {e':E} {K:PySem.W.Frag}
theorem Qpt {cf:CF}:∀ {ts:List T} {kz:List Int},Qg0 cf f ts=some kz→kz.length=ts.length
 | [],kz,h=>by cases h;rfl
 | t::ts,kz,h=>by
  unfold Qg0 at h
  split at h
  ·rename_i k _ kz' e1 e2
   cases h
   rw [length_cons,length_cons,Qpt e2]
  ·cases h
theorem Qwi {B:Bs} {σ:St} {ρ:En}:∀ {ts:List T} {kz:List Int} {vs:List V} {H1:Hp} {G1:Addr→Prop} {Q:Hp→Prop},Qg0 p.cf f ts=some kz→FI B H1 G1 σ ρ→IsL (dls H1 G1) vs ts →
  (∀ H2 G2,FI B H2 G2 σ ρ→Same (dls H1 G1) (dls H2 G2)→Q H2)→Qlj (spF p.cf p.mg f) vs kz H1 Q
 | [],kz,vs,H1,G1,Q,hk,F1,il,q=>by
  cases hk
  cases il.nil_inv
  exact q H1 G1 F1 fun _ _ e=>e
 | t::ts,kz,vs,H1,G1,Q,hk,F1,il,q=>by
  unfold Qg0 at hk
  split at hk
  ·rename_i k fin kz' e1 e2
   cases hk
   obtain ⟨y,w,rfl,iy,iw⟩:=il.cons_inv
   have A:ArgsR H1 G1 [y] [.fz t]:=by
    refine ⟨rfl,fun i v a ev e=>?_,fun i j b x z ex ey px=>?_⟩
    ·cases i with
     | zero=>cases ev;cases e;exact iy
     | succ i=>cases ev
    ·cases i with
     | zero=>cases ex;cases px
     | succ i=>cases ex
   refine ⟨G1,[.fz t],A,F1.prv,?_⟩
   rw [e1]
   intro v H2 G2 C rr
   have r0:∀ (k i:Nat) (v:V),[PV.fz t][k]?=some (.sl i)→[y][k]?=some v→σ[i]?=some (some v):=fun k i v e _=>by
    cases k with
    | zero=>cases e
    | succ k=>cases e
   have bk:∀ fin:List T,Qao ρ [PV.fz t] fin=ρ:=fun fin=>by
    have bf:∀ (i:Nat) (ρ:En),Qi [PV.fz t] fin i ρ=ρ:=fun i ρ=>by
     induction ρ generalizing i with
     | nil=>rfl
     | cons s ρ ih=>rw [Qi,ih];rfl
    exact bf 0 ρ
   have F2:=F1.called (rs:=[.fz t]) A r0 rfl rfl rfl C
   rw [bk] at F2
   have sm:Same (dls H1 G1) (dls H2 G2):=F1.same (F1.self.called (rs:=[.fz t]) A r0 rfl rfl rfl C)
   have ev:v=.int k:=by
    have rr:Is (dls H2 G2) v (.int k):=rr
    exact rr
   exact ⟨ev,Qwi e2 F2 (iw.mono sm) fun H3 G3 F3 s3=>q H3 G3 F3 fun b o e=>s3 b o (sm b o e)⟩
  ·cases hk
theorem Qaao {σ:St} {H:Hp} {Q:VK} (h:tE p (.srk f e') σ H Q):tSrk K (spF p.cf p.mg f) (tE p e') σ H Q:=by
 obtain ⟨G,ρ,F,h⟩:=h
 unfold evE at h
 refine ⟨G,ρ,F,h.bind.imp fun r ρ1 h1 v H1 G1 F1 pv=>?_⟩
 match r,h1,pv with
 | .fz (.lst ts),h1,pv =>
  replace h1:Fin p (Qaz H G σ ρ) σ (Q36 (Qg0 p.cf f ts) ts ρ1) (fun r ρ1=>∀ (v:V) (H1:Hp) (G1:Addr→Prop),FI (Qaz H G σ ρ) H1 G1 σ ρ1→PVR H H1 G1 σ ρ1 v r→Q v H1):=h1
  obtain ⟨l,vs,rfl,el,il⟩:=pv.is.lst_inv
  unfold Q36 at h1
  cases hk:Qg0 p.cf f ts with
  | none=>rw [hk] at h1;exact False.elim h1
  | some kz =>
   rw [hk] at h1
   dsimp only at h1
   by_cases hc:ts.length<64∧kz.Nodup
   ·rw [if_pos hc] at h1
    have lv:vs.length=ts.length:=il.length
    have lk:=Qpt hk
    refine ⟨l,vs,kz,rfl,SqL.of (Qan el).2,by omega,by omega,Qwi hk F1 il fun H2 G2 F2 sm=>?_⟩
    rintro ys' ⟨ps,hp,rfl,hpw⟩ a ha
    obtain ⟨qs,q1,q2,q3⟩:=Q4v (il.mono sm) hp
    have nd:(qs.map (·.1)).Nodup:=by
     rw [q2]
     refine (hp.map Prod.fst).nodup_iff.mpr ?_
     rw [Qqq (by omega)]
     exact hc.2
    have pq:qs.Pairwise fun p q=>q.1≤p.1:=by
     have pw:(ps.map Prod.fst).Pairwise fun x y=>y≤x:=List.pairwise_map.mpr hpw
     rw [←q2] at pw
     exact List.pairwise_map.mp pw
    have eq:qs=Qr9 (kz.zip ts):=Qps (q1.trans (Qh1 _).symm) (Qye pq nd) (Qqp (by rw [Qqq (by omega)];exact hc.2))
    rw [eq] at q3
    obtain ⟨F3,r3⟩:=Qga F2 ha (Same.upd ha) Q6 q3 (by
     rw [length_map,(Qh1 _).length_eq,List.length_zip]
     omega)
    exact h1 _ _ _ F3 r3
   ·rw [if_neg hc] at h1;exact False.elim h1
 | .fz .non,h1,pv=>exact False.elim h1
 | .fz (.bl _),h1,pv=>exact False.elim h1
 | .fz (.int _),h1,pv=>exact False.elim h1
 | .fz (.str _),h1,pv=>exact False.elim h1
 | .fz (.tup _),h1,pv=>exact False.elim h1
 | .fz (.dct _ _),h1,pv=>exact False.elim h1
 | .fz (.dtt _ _),h1,pv=>exact False.elim h1
 | .fz (.clo _ _),h1,pv=>exact False.elim h1
 | .ow _,h1,pv=>exact False.elim h1
 | .sl _,h1,pv=>exact False.elim h1
end
theorem Room.in2 {k:Nat} {A:Around} (r:Room k A) (h:1≤k):Room (k-1) A.in1.in1 :=
 ⟨r.hd,by have:=r.dp;show A.depth+3*(k-1)+5<_;omega,by have:=r.un;show A.units+1+1+16*(k-1)+200<_;omega,r.gd⟩
section
variable {X:Cx} {p:Pr} {f k:Nat} {e':E} {x:Str} {ps:List Str} {e:Expr} {p1 p2 k1 k2 kp pos:Pos}
theorem Qaej {j} (h:HasE X.prog X.w X.K X.mg X.base x ps (k-1) (spF p.cf p.mg f)) (h1:1≤k) (hr:Room k X.A) (he:QE X e (tE p e')) (hm:X.mg "sorted" = none) (hv:bootBuiltins "sorted" = some (.builtin "sorted")) (hg:Gl X "sorted" := by rfl) (hgx:Gl X x:=by rfl) (hdb:(x==("__debug__" : Str))=false:=by decide)
  (hns:Qam e=true:=by rfl) (hst:backTo pos (starEach [e] X.env)=(false,eval e X.env)::backTo pos (starEach [] X.env):=by rfl) (hpl:(backTo pos (starEach [e] X.env)).any (·.1)=false:=by rfl) :
  QE X (.Call (.Name "sorted" p1) [e] [⟨some "key",.Name x p2,k1⟩,⟨some "reverse",.Constant (.bool true) j kp,k2⟩] pos) (tE p (.srk f e')):=(Qaei h (hr.in2 h1) he Q9a hm hv hg hgx hdb hns hst hpl).weak fun σ H Q h=>Qaao h
end
theorem Qaek {cf:CF} {f:Nat} {e:E} {ρ ρ1:En} {ts:List T} {kz:List Int} (he:evE cf e ρ=.ok (.fz (.lst ts)) ρ1) (hk:Qg0 cf f ts=some kz) (hc:ts.length<64∧kz.Nodup):evE cf (.srk f e) ρ=.ok (.ow (.lst ((Qr9 (kz.zip ts)).map (·.2)))) ρ1:=by
 rw [evE,he]
 show Q36 (Qg0 cf f ts) ts ρ1=_
 rw [hk]
 exact if_pos hc
end L2
namespace L2
open PySem PySem.Spec PyProof.Rows PySem.W PySem.Calls
section
variable {prog:Program} {w:World} {A:Around} {E:Value→Shared→Prop}
theorem Q4w {h:Heap} {l it:Addr} {items:Array Value} {i:Nat} (hi:h.IsListIter it l i) (hl:h.IsList l items):l≠it:=by
 rintro rfl
 obtain ⟨o,e1,c1,_⟩:=hi
 obtain ⟨o2,e2,c2,_⟩:=hl
 rw [e1] at e2
 cases e2
 rw [c1] at c2
 simp at c2
theorem Qpu {l it:Addr} {items:Array Value}:∀ (n i:Nat) {s:Shared} {Q:List Value→Shared→Prop},s.heap.IsListIter it l i→s.heap.IsList l items→i+n≤items.size →
  (∀ h',Heap.ExtBut it s.heap h'→h'.IsListIter it l (i+n)→h'.IsList l items→Q ((items.toList.drop i).take n) { s with heap:=h' })→wpAny (model prog w) A (draw (.ref it) n) Q E s
 | 0,i,s,Q,hi,hl,hz,q=>by
  rw [draw]
  exact wpAny_pure (by simpa using q s.heap (fun _ _ _ e=>e) hi hl)
 | n+1,i,s,Q,hi,hl,hz,q=>by
  rw [draw]
  have il:i<items.toList.length:=by simp;omega
  refine wpAny_bind (wpAny_pyNext_list_item hi hl (x:=items.toList[i]) (by rw [←Array.getElem?_toList];exact getElem?_eq_getElem il) fun h1 hi1 sb=>?_)
  have hl1:h1.IsList l items:=by
   obtain ⟨o,e,c⟩:=hl
   exact ⟨o,(sb.2 l (Q4w hi ⟨o,e,c⟩)).trans e,c⟩
  refine wpAny_bind (wpAny_holding (Qpu n (i+1) (s:={ s with heap:=h1 }) hi1 hl1 (by omega) fun h2 eb hi2 hl2=>?_))
  have e1:(items.toList.drop i).take (n+1)=items.toList[i]::(items.toList.drop (i+1)).take n:=by
   rw [List.drop_eq_getElem_cons il,List.take_succ_cons]
  have q2:=q h2 (fun b o hb e=>eb b o hb ((sb.2 b hb).trans e)) (by rw [show i+(n+1)=i+1+n by omega];exact hi2) hl2
  rw [e1] at q2
  exact wpAny_pure q2
theorem Qui {s:Shared} {l:Addr} {items:Array Value} {Q:List Value→Shared→Prop} (hA:A.handled=none) (hl:s.heap.IsList l items) (q:∀ h',Heap.ExtBut s.heap.objs.size s.heap h'→Q items.toList { s with heap:=h' }):wpAny (model prog w) A (unpackItems (.ref l) items.size none) Q E s:=by
 have hT:s.TypeIs (.ref l) "list" := by
  obtain ⟨o,e,c,_⟩:=hl
  exact ⟨o,e,c⟩
 unfold unpackItems
 refine wpAny_bind ?_
 unfold notIterableAtAll
 refine wpAny_bind (wpAny_specialOf hT F.slot_list_iter.lookup ?_)
 rw [if_pos (show (some (Value.builtin "list.__iter__")).isSome=true from rfl)]
 refine wpAny_pure ?_
 dsimp only
 rw [if_neg Bool.false_ne_true]
 refine wpAny_bind (wpAny_holding (wpAny_pyIter_list hl ?_))
 have hl1:(s.heap.push { cls:=.type "list_iterator",data:=.fields #[.ref l,.int 0 0] }).IsList l items:=by
  obtain ⟨o,e,c⟩:=hl
  exact ⟨o,Heap.get?_push_of_some _ e,c⟩
 have it1:(s.heap.push { cls:=.type "list_iterator",data:=.fields #[.ref l,.int 0 0] }).IsListIter s.heap.objs.size l 0:=⟨_,Heap.get?_push_size _ rfl,rfl,rfl⟩
 refine wpAny_bind (wpAny_holding (Qpu items.size 0 it1 hl1 (by omega) fun h2 eb hi2 hl2=>?_))
 rw [drop_zero,take_of_length_le (by simp)]
 rw [if_neg (by simp)]
 refine wpAny_bind (wpAny_holding (wpAny_pyNext_list_end hA hi2 hl2 (by simp) fun h3 eb3=>?_))
 rw [if_neg (by simp)]
 exact wpAny_pure (q h3 fun b o hb e=>eb3 b o hb (eb b o hb (Heap.get?_push_of_some _ e)))
end
section
variable {X:Cx} {pos:Pos}
noncomputable def Q7b (K:PySem.W.Frag) (n:Nat) (t:TGs):TG:=fun v σ H Q=>∃ a xs,v=.ref a∧SqL K H a xs∧xs.length=n∧t xs σ H Q
theorem Q4x (K:PySem.W.Frag) (hK:X.K=K) {es:List Expr} {k:Nat} {t:TGs} {n:Nat} (hc:X.calm=true) (h:QGs X es t) (hn:(assignEach es X.env).length=n:=by rfl) (hst:(assignEach es X.env).findIdx? (·.1)=none:=by rfl):QG X (.Tuple es k pos) (Q7b K n t):=⟨by
 intro pins s σ H v u Q I r hw
 subst hK
 obtain ⟨a,xs,e1,hq,hl,hw⟩:=hw
 subst e1
 cases r
 obtain ⟨its,rv,ht,hz⟩:=I.list hq
 rw [assign_Tuple]
 refine wpAny_bind (wpAny_standAt ?_)
 unfold unpack
 rw [hst,show (assignEach es X.env).length=its.toArray.size by simp [hn,←hl,rv.length]]
 refine wpAny_bind (wpAny_holding (Qui (I.ok.hd hc) ht.isList fun h' hx=>?_))
 have I1:Inv X pins σ H { s with heap:=h' }:=I.kept (t':=s.toks) fun b o e=>hx b o (Nat.ne_of_lt (Heap.lt_size e)) e
 exact h.h pins _ σ H xs _ Q I1 (by simpa using rv) hw⟩
end
section
variable {X:Cx} {p:Pr} {e':E} {st:Stmt} {K:PySem.W.Frag}
theorem Qael {n:Nat} {is:List Nat} (h:QS X st (Qlt (tE p e') (Q7b K n (Qwb is)))) (hn:is.length=n):QS X st (tS p (.unl is e')):=h.weak fun D σ H zz1=>by
 obtain ⟨B,G,ρ,F,hO,h⟩:=zz1
 unfold exS at h
 refine Qip F h fun r ρ2 v H2 G2 k F2 _ pv _=>?_
 cases r with
 | ow t=>exact False.elim k
 | sl i=>exact False.elim k
 | fz t =>
  cases t <;> first | exact False.elim k | skip
  obtain ⟨ρ',e,k⟩:=Qfs k
  obtain ⟨a,vs,rfl,ea,r⟩:=pv.is.lst_inv
  exact ⟨a,vs,rfl,SqL.of (Qan ea).2,by rw [r.length,Qhc e,hn],Qqn F2 r e fun σ' F' _=>k σ' H2 G2 F' (Same.refl _)⟩
end
end L2
namespace L2
open PySem PySem.Spec PyProof.Rows PySem.W PySem.Calls
theorem Qpv {f:Slot→Slot} (hf:f .un=.un) (ρ:En) (j:Nat):Qb (ρ.map f) j=f (Qb ρ j):=by
 unfold Qb
 rw [getElem?_map]
 cases ρ[j]? with
 | none=>exact hf.symm
 | some s=>rfl
theorem Qix {ρ ρ1:En} (h:ρ1.length=ρ.length) (j:Nat):Qb (List.zipWith lkB ρ ρ1) j=lkB (Qb ρ j) (Qb ρ1 j):=by
 unfold Qb
 by_cases hj:j<ρ.length
 ·have h1:j<ρ1.length:=by omega
  rw [getElem?_eq_getElem hj,getElem?_eq_getElem h1,getElem?_eq_getElem (by rw [List.length_zipWith];omega),List.getElem_zipWith]
 ·have h0:(List.zipWith lkB ρ ρ1)[j]?=none:=getElem?_eq_none (by rw [List.length_zipWith];omega)
  have h1:ρ[j]?=none:=getElem?_eq_none (by omega)
  have h2:ρ1[j]?=none:=getElem?_eq_none (by omega)
  rw [h0,h1,h2]
  rfl
section
variable {X:Cx} {p:Pr} {st:Stmt} {B:Bs} {H H1:Hp} {G G1:Addr→Prop} {σ σ1:St} {ρ ρ1:En} {i:Nat} {ts:List T}
theorem Qsk {f:Slot→Bool} (hf:f .un=true) (h:ρ.all f=true) (j:Nat):f (Qb ρ j)=true:=by
 unfold Qb
 cases e:ρ[j]? with
 | none=>exact hf
 | some s=>exact all_eq_true.mp h s (mem_of_getElem? e)
noncomputable abbrev lkE (i:Nat) (ts:List T) (ρ:En):En:=(ρ.set i (.fz (.lst ts))).map lkS
theorem Ql4 (hi:i<ρ.length) (j:Nat):Qb (lkE i ts ρ) j=if j=i then .fx (.lst ts) else lkS (Qb ρ j):=by
 rw [Qpv rfl,Qca]
 by_cases e:j=i
 ·rw [if_pos ⟨e,hi⟩,if_pos e];rfl
 ·rw [if_neg (fun z=>e z.1),if_neg e]
theorem FI.look (F:FI B H G σ ρ) (hO:∀ a,¬ B.O a) (hs:Qb ρ i=.ow (.lst ts)) (hk:(ρ.set i .un).all Qko=true) :
  ∃ a G',σ[i]?=some (some (.ref a))∧G a∧B.H a=none∧(∀ b,G' b↔G b∧b≠a)∧FI ⟨B.H,B.G,B.O,B.M,PnA σ (lkE i ts ρ)⟩ H G' σ (lkE i ts ρ):=by
 have hi:i<ρ.length:=Qhz (by rw [hs];intro z;cases z)
 have q:=F.slot i
 rw [hs] at q
 obtain ⟨a,e,g,ob,ea,il⟩:=q
 have hb:B.H a=none:=by
  rcases F.newO a ⟨i,_,hs,e⟩ with z | z
  ·exact z
  ·exact (hO a z).elim
 have ok:∀ j,j≠i→Qko (Qb ρ j)=true:=fun j hj=>by
  have:=Qsk rfl hk j
  rwa [Qca,if_neg (fun z=>hj z.1)] at this
 have sub:Same (dls H G) (dls H fun b=>G b∧b≠a):=Qcy fun b h=>h.1
 refine ⟨a,fun b=>G b∧b≠a,e,g,hb,fun b=>Iff.rfl,?_⟩
 have pv:∀ j c,PrvAt σ (lkE i ts ρ) j c→j≠i∧∃ t,Qb ρ j=.ml t∧Qb (lkE i ts ρ) j=.ml t∧σ[j]?=some (some (.ref c)):=fun j c h=>by
  obtain ⟨⟨u,h⟩,e⟩:=h
  rw [Ql4 hi] at h
  by_cases z:j=i
  ·rw [if_pos z] at h;cases h
  ·rw [if_neg z] at h
   have k:=ok j z
   cases hs2:Qb ρ j <;> rw [hs2] at h k <;> first | (cases h;done) | (cases k;done) | skip
   ·rename_i t
    have h:(if Qx9 t=true then Slot.fx t else Slot.fz t).prv=some u:=h
    by_cases r:Qx9 t=true
    ·rw [if_pos r] at h;cases h
    ·rw [if_neg r] at h;cases h
   ·rename_i t
    exact ⟨z,t,rfl,by rw [Ql4 hi,if_neg z,hs2];rfl,e⟩
 have Qao:∀ j c,PrvAt σ (lkE i ts ρ) j c→PrvAt σ ρ j c:=fun j c h=>by
  obtain ⟨_,t,e1,_,q⟩:=pv j c h
  exact ⟨⟨t,by rw [e1];rfl⟩,q⟩
 exact {
  len:=by rw [length_map,length_set];exact F.len
  slot:=fun j=>by
   rw [Ql4 hi]
   by_cases z:j=i
   ·rw [if_pos z,z]
    refine ⟨a,ob,e,by rw [Qb9 fun y=>y.2 rfl];exact ea,il.is (by rw [Qb9 fun y=>y.2 rfl];exact ea) sub⟩
   ·rw [if_neg z]
    have q:=F.slot j
    have k:=ok j z
    cases hs2:Qb ρ j with
    | un=>trivial
    | ow t=>rw [hs2] at k;cases k
    | ro t=>rw [hs2] at k;cases k
    | fx t=>rw [hs2] at k;cases k
    | pin c=>rw [hs2] at q;exact q
    | ml t =>
     rw [hs2] at q
     obtain ⟨c,ev,gc,ob2,eo2,il2⟩:=q
     have ne:c≠a:=fun y=>z (F.apart j i c ⟨⟨t,by rw [hs2];rfl⟩,ev⟩ ⟨⟨_,by rw [hs];rfl⟩,by rw [y];exact e⟩)
     exact ⟨c,ev,⟨gc,ne⟩,ob2,eo2,il2.mono sub⟩
    | fz t =>
     rw [hs2] at q
     obtain ⟨v,ev,iv⟩:=q
     have iv:=iv.mono sub
     by_cases r:Qx9 t=true
     ·show Qm0 _ _ _ _ (if Qx9 t=true then _ else _)
      rw [if_pos r]
      cases t <;> first | (cases r;done) | skip
      ·obtain ⟨c,vs,rfl,hc,_⟩:=iv.tup_inv;exact ⟨c,_,ev,hc,iv⟩
      ·obtain ⟨c,vs,rfl,hc,_⟩:=iv.lst_inv;exact ⟨c,_,ev,hc,iv⟩
     ·show Qm0 _ _ _ _ (if Qx9 t=true then _ else _)
      rw [if_neg r]
      exact ⟨v,ev,iv⟩
  apart:=fun j k c h1 h2=>F.apart j k c (Qao j c h1) (Qao k c h2)
  prv:=fun b h=>F.prv b h.1
  chg:=F.chg
  keep:=F.keep
  newO:=fun c h=>by
   obtain ⟨j,t,e1,q⟩:=h
   obtain ⟨_,t2,_,e2,_⟩:=pv j c ⟨⟨t,by rw [e1];rfl⟩,q⟩
   rw [e1] at e2
   cases e2
  newM:=fun c h=>by
   obtain ⟨j,t,e1,q⟩:=h
   obtain ⟨_,t2,e2,_,_⟩:=pv j c ⟨⟨t,by rw [e1];rfl⟩,q⟩
   exact F.newM c ⟨j,t2,e2,q⟩
  fix:=fun _ _ h=>h
  gg:=fun b h=>⟨F.gg b h,fun z=>by obtain ⟨o,e⟩:=F.bp b h;rw [z,hb] at e;cases e⟩
  gn:=fun b h=>F.gn b h.1
  bp:=F.bp }
theorem Qpw (s0 s1:Slot):(∃ t,s1=.fx t∧(∀ u,s0≠.ml u)∧lkB s0 s1=s0)∨(∃ t,s1=.fz t∧Qor t=true∧lkB s0 s1=.fz t)∨(∃ a,s1=.pin a∧lkB s0 s1=.pin a)∨(∃ u t,s0=.ml u∧s1=.ml t∧Q38 t=true∧lkB s0 s1=.ml t)∨lkB s0 s1=.un:=by
 cases s1 with
 | fx t =>
  cases s0 with
  | ml u=>exact .inr (.inr (.inr (.inr rfl)))
  | _=>exact .inl ⟨t,rfl,(fun u z=>by cases z),rfl⟩
 | fz t =>
  have e:lkB s0 (.fz t)=if Qor t=true then .fz t else .un:=by cases s0 <;> rfl
  by_cases h:Qor t=true
  ·exact .inr (.inl ⟨t,rfl,h,by rw [e,if_pos h]⟩)
  ·exact .inr (.inr (.inr (.inr (by rw [e,if_neg h]))))
 | pin a=>exact .inr (.inr (.inl ⟨a,rfl,by cases s0 <;> rfl⟩))
 | ml t =>
  cases s0 with
  | ml u =>
   have e:lkB (.ml u) (.ml t)=if Q38 t=true then .ml t else .un:=rfl
   by_cases h:Q38 t=true
   ·exact .inr (.inr (.inr (.inl ⟨u,t,rfl,rfl,h,by rw [e,if_pos h]⟩)))
   ·exact .inr (.inr (.inr (.inr (by rw [e,if_neg h]))))
  | _=>exact .inr (.inr (.inr (.inr rfl)))
 | un=>exact .inr (.inr (.inr (.inr (by cases s0 <;> rfl))))
 | ow t=>exact .inr (.inr (.inr (.inr (by cases s0 <;> rfl))))
 | ro t=>exact .inr (.inr (.inr (.inr (by cases s0 <;> rfl))))
theorem Qwj {D D1:Hp} {v:V} {t:T} (h:flaT t=true) (r:Is D v t):Is D1 v t:=by
 cases t <;> first | (cases h;done) | (unfold Is at r ⊢;exact r)
theorem Qnf {D D1:Hp}:∀ {ts:List T} {vs:List V},ts.all flaT=true→IsL D vs ts→IsL D1 vs ts
 | [],vs,_,r=>by rw [r.nil_inv];exact .nil
 | t::ts,vs,h,r=>by
  rw [all_cons,Bool.and_eq_true] at h
  obtain ⟨v,w,rfl,a,b⟩:=r.cons_inv
  exact .cons (Qwj h.1 a) (Qnf h.2 b)
theorem Q04 {D D1:Hp} {v:V} {t:T} (h:Qor t=true) (k:∀ b xs,D b=some (.tup xs)→D1 b=some (.tup xs)) (r:Is D v t):Is D1 v t:=by
 cases t with
 | tup ts =>
  have z:ts.length≤100000:=by unfold Is at r;exact r.1
  obtain ⟨b,vs,rfl,e,l⟩:=r.tup_inv
  exact .tup (k b vs e) (Qnf h l) z
 | _=>exact Qwj h r
theorem FI.unlook {a:Addr} {G':Addr→Prop} (F:FI B H G σ ρ) (hO:∀ a,¬ B.O a) (hs:Qb ρ i=.ow (.lst ts)) (hk:(ρ.set i .un).all Qko=true) (ea:σ[i]?=some (some (.ref a))) (ga:G a) (hb:B.H a=none) (hG:∀ b,G' b↔G b∧b≠a)
  (F1:FI ⟨B.H,B.G,B.O,B.M,PnA σ (lkE i ts ρ)⟩ H1 G1 σ1 ρ1) (s1:Same (dls H G') (dls H1 G1)) (hx:Q39 (Qb ρ1 i)=true) (hl:ρ1.length=ρ.length) :
  FI B H1 (fun b=>G1 b∨b=a) σ1 (List.zipWith lkB ρ ρ1)∧Same (dls H G) (dls H1 fun b=>G1 b∨b=a):=by
 have hi:i<ρ.length:=Qhz (by rw [hs];intro z;cases z)
 have ok:∀ j,j≠i→Qko (Qb ρ j)=true:=fun j hj=>by
  have:=Qsk rfl hk j
  rwa [Qca,if_neg (fun z=>hj z.1)] at this
 obtain ⟨ob,eo,il⟩:∃ ob,H a=some ob∧OwnO (dls H G) (.lst ts) ob:=by
  have q:=F.slot i
  rw [hs] at q
  obtain ⟨c,e,_,ob,eo,il⟩:=q
  rw [ea] at e
  cases e
  exact ⟨ob,eo,il⟩
 have a0:dls H G' a=some ob:=by rw [Qb9 fun z=>((hG a).mp z).2 rfl];exact eo
 obtain ⟨na,a1⟩:=Qan (s1 _ _ a0)
 have sm:Same (dls H G) (dls H1 fun b=>G1 b∨b=a):=fun b o e=>by
  obtain ⟨nb,e⟩:=Qan e
  have nba:b≠a:=fun z=>nb (z ▸ ga)
  have e2:dls H G' b=some o:=by rw [Qb9 fun z=>nb ((hG b).mp z).1];exact e
  obtain ⟨n1,e3⟩:=Qan (s1 _ _ e2)
  rw [Qb9 fun z=>z.elim n1 nba]
  exact e3
 have fx1:∀ j t,Qb ρ1 j=.fx t→∃ c,σ1[j]?=some (some (.ref c))∧σ[j]?=some (some (.ref c)):=fun j t e=>by
  have q:=F1.slot j
  rw [e] at q
  obtain ⟨c,o,ec,_,_⟩:=q
  have:=F1.fix j c ⟨⟨t,.inr (.inr e)⟩,ec⟩
  exact ⟨c,ec,this.2⟩
 have fx0:∀ j t,Qb ρ1 j=.fx t→j≠i→(∀ u,Qb ρ j≠.ml u)→∃ u,Qb ρ j=.fz u:=fun j t e hj nm=>by
  obtain ⟨c,ec,_⟩:=fx1 j t e
  obtain ⟨⟨u,z⟩,_⟩:=F1.fix j c ⟨⟨t,.inr (.inr e)⟩,ec⟩
  rw [Ql4 hi,if_neg hj] at z
  have k:=ok j hj
  cases hs2:Qb ρ j with
  | fz u=>exact ⟨u,rfl⟩
  | un=>rw [hs2] at z;rcases z with z | z | z <;> cases z
  | ow t=>rw [hs2] at k;cases k
  | ml t=>exact absurd hs2 (nm t)
  | ro t=>rw [hs2] at k;cases k
  | pin a=>rw [hs2] at z;rcases z with z | z | z <;> cases z
  | fx t=>rw [hs2] at k;cases k
 have ei:Qb (List.zipWith lkB ρ ρ1) i=.ow (.lst ts):=by
  rw [Qix hl,hs]
  cases h:Qb ρ1 i <;> rw [h] at hx <;> first | (cases hx;done) | rfl
 have ai:σ1[i]?=some (some (.ref a)):=by
  cases h:Qb ρ1 i <;> rw [h] at hx <;> first | (cases hx;done) | skip
  obtain ⟨c,ec,ec0⟩:=fx1 i _ h
  rw [ea] at ec0
  cases ec0
  exact ec
 have kinds:∀ j,j≠i→Qb (List.zipWith lkB ρ ρ1) j=.un∨(∃ t,Qb (List.zipWith lkB ρ ρ1) j=.fz t)∨(∃ c,Qb (List.zipWith lkB ρ ρ1) j=.pin c)∨∃ u t,Qb ρ j=.ml u∧Qb ρ1 j=.ml t∧Qb (List.zipWith lkB ρ ρ1) j=.ml t:=fun j hj=>by
  rw [Qix hl]
  rcases Qpw (Qb ρ j) (Qb ρ1 j) with ⟨t,e1,nm,e2⟩ | ⟨t,e1,f,e2⟩ | ⟨c,e1,e2⟩ | ⟨u,t,e0,e1,_,e2⟩ | e2
  ·obtain ⟨u,e3⟩:=fx0 j t e1 hj nm
   rw [e2,e3]
   exact .inr (.inl ⟨u,rfl⟩)
  ·rw [e2];exact .inr (.inl ⟨t,rfl⟩)
  ·rw [e2];exact .inr (.inr (.inl ⟨c,rfl⟩))
  ·rw [e2];exact .inr (.inr (.inr ⟨u,t,e0,e1,rfl⟩))
  ·rw [e2];exact .inl rfl
 have only:∀ j c,PrvAt σ1 (List.zipWith lkB ρ ρ1) j c→(j=i∧c=a)∨(j≠i∧PrvAt σ1 ρ1 j c∧G1 c):=fun j c h=>by
  obtain ⟨⟨u,h⟩,q⟩:=h
  by_cases hj:j=i
  ·subst hj;rw [ai] at q;cases q;exact .inl ⟨rfl,rfl⟩
  ·rcases kinds j hj with z | ⟨t,z⟩ | ⟨c,z⟩ | ⟨_,t,_,e1,z⟩ <;> rw [z] at h <;> first | (cases h;done) | skip
   have q1:=F1.slot j
   rw [e1] at q1
   obtain ⟨c1,ec,gc,_⟩:=q1
   rw [q] at ec
   cases ec
   exact .inr ⟨hj,⟨⟨t,by rw [e1];rfl⟩,q⟩,gc⟩
 refine ⟨?_,sm⟩
 exact {
  len:=by rw [List.length_zipWith,F1.len];omega
  slot:=fun j=>by
   by_cases hj:j=i
   ·subst hj
    rw [ei]
    exact ⟨a,ai,.inr rfl,ob,a1,il.mono sm⟩
   ·rw [Qix hl]
    rcases Qpw (Qb ρ j) (Qb ρ1 j) with ⟨t,e1,nm,e2⟩ | ⟨t,e1,f,e2⟩ | ⟨c,e1,e2⟩ | ⟨_,t,_,e1,f,e2⟩ | e2
    ·obtain ⟨u,e3⟩:=fx0 j t e1 hj nm
     obtain ⟨c,ec,ec0⟩:=fx1 j t e1
     rw [e2,e3]
     have q:=F.slot j
     rw [e3] at q
     obtain ⟨v,ev,iv⟩:=q
     rw [ec0] at ev
     cases ev
     exact ⟨_,ec,iv.mono sm⟩
    ·rw [e2]
     have q:=F1.slot j
     rw [e1] at q
     obtain ⟨v,ev,iv⟩:=q
     exact ⟨v,ev,Q04 f (fun b xs e=>by
      obtain ⟨n1,e3⟩:=Qan e
      have nb:b≠a:=fun z=>by
       rw [z,a1] at e3
       cases e3
       exact il
      rw [Qb9 fun z=>z.elim n1 nb]
      exact e3) iv⟩
    ·rw [e2]
     have q:=F1.slot j
     rw [e1] at q
     exact q
    ·rw [e2]
     have q:=F1.slot j
     rw [e1] at q
     obtain ⟨c,ec,gc,ob2,eo2,il2⟩:=q
     refine ⟨c,ec,.inl gc,ob2,eo2,?_⟩
     cases t <;> first | (cases f;done) | skip
     cases ob2 <;> first | exact il2.elim | skip
     exact ⟨il2.1,Qnf f il2.2⟩
    ·rw [e2];trivial
  apart:=fun j k c h1 h2=>by
   rcases only j c h1 with ⟨rfl,rfl⟩ | ⟨_,p1,g1⟩
   ·rcases only k c h2 with ⟨rfl,_⟩ | ⟨_,_,g2⟩
    ·rfl
    ·exact absurd g2 na
   ·rcases only k c h2 with ⟨_,rfl⟩ | ⟨_,p2,_⟩
    ·exact absurd g1 na
    ·exact F1.apart j k c p1 p2
  prv:=fun b h=>by
   rcases h with h | h
   ·exact F1.prv b h
   ·rw [h];exact ⟨ob,a1,il.pen⟩
  chg:=F1.chg
  keep:=F1.keep
  newO:=fun c h=>by
   obtain ⟨j,t,e,q⟩:=h
   by_cases hj:j=i
   ·subst hj;rw [ai] at q;cases q;exact .inl hb
   ·rcases kinds j hj with z | ⟨t,z⟩ | ⟨c,z⟩ | ⟨_,_,_,_,z⟩ <;> rw [z] at e <;> cases e
  newM:=fun c h=>by
   obtain ⟨j,t,e,q⟩:=h
   by_cases hj:j=i
   ·subst hj;rw [ei] at e;cases e
   ·rcases kinds j hj with z | ⟨t,z⟩ | ⟨c,z⟩ | ⟨_,t1,_,e1,z⟩ <;> first | (rw [z] at e;cases e;done) | skip
    exact F1.newM c ⟨j,t1,e1,q⟩
  fix:=fun j c h=>by
   obtain ⟨⟨t,e⟩,q⟩:=h
   by_cases hj:j=i
   ·subst hj;rw [ei] at e;rcases e with e | e | e <;> cases e
   ·rcases kinds j hj with z | ⟨t,z⟩ | ⟨c,z⟩ | ⟨u,t1,e0,e1,z⟩ <;> first | (rw [z] at e;rcases e with e | e | e <;> cases e;done) | skip
    have k:=F1.fix j c ⟨⟨t1,.inl e1⟩,q⟩
    exact F.fix j c ⟨⟨u,.inl e0⟩,k.2⟩
  gg:=fun b h=>.inl (F1.gg b h)
  gn:=fun b h=>by
   rcases h with h | h
   ·exact F1.gn b h
   ·rw [h];exact .inr hb
  bp:=F1.bp }
theorem Q4y {s:S} {D:Ends} {H:Hp} (h:tS p (.look i s) D σ H):tS p s D σ H:=by
 obtain ⟨B,G,ρ,F,hO,h⟩:=h
 unfold exS at h
 cases hs:Qb ρ i with
 | un=>rw [hs] at h;exact False.elim h
 | fz t=>rw [hs] at h;exact False.elim h
 | ml t=>rw [hs] at h;exact False.elim h
 | ro t=>rw [hs] at h;exact False.elim h
 | pin t=>rw [hs] at h;exact False.elim h
 | fx t=>rw [hs] at h;exact False.elim h
 | ow t =>
  rw [hs] at h
  cases t <;> first | exact False.elim h | skip
  rename_i ts
  replace h:SFin p B H G D (if (ρ.set i .un).all Qko=true then lkO i ρ (exS p.cf s (lkE i ts ρ)) else .no):=h
  by_cases hk:(ρ.set i .un).all Qko=true
  ·rw [if_pos hk] at h
   obtain ⟨a,G',ea,ga,hb,hG,F0⟩:=F.look hO hs hk
   refine ⟨_,G',_,F0,hO,?_⟩
   cases e:exS p.cf s (lkE i ts ρ) with
   | nx ρ1 =>
    rw [e] at h
    replace h:SFin p B H G D (if Q39 (Qb ρ1 i)=true∧ρ1.length=ρ.length then .nx (List.zipWith lkB ρ ρ1) else .no):=h
    by_cases c:Q39 (Qb ρ1 i)=true∧ρ1.length=ρ.length
    ·rw [if_pos c] at h
     intro σ1 H1 G1 F1 s1
     obtain ⟨F2,s2⟩:=F.unlook hO hs hk ea ga hb hG F1 s1 c.1 c.2
     exact h σ1 H1 _ F2 s2
    ·rw [if_neg c] at h;exact False.elim h
   | rt r ρ1 =>
    rw [e] at h
    cases r with
    | ow t=>exact False.elim h
    | sl j=>exact False.elim h
    | fz t =>
     cases t <;> first | exact False.elim h | skip
     rename_i b
     replace h:SFin p B H G D (.rt (.fz (.bl b)) (ρ1.map fun _=>.un)):=h
     intro v σ1 H1 G1 F1 pv
     have un:∀ j,Qb (ρ1.map fun _=>Slot.un) j=.un:=fun j=>by rw [Qpv rfl]
     refine h v σ1 H1 G1 ?_ pv
     exact {
      len:=by rw [length_map];exact F1.len
      slot:=fun j=>by rw [un];trivial
      apart:=fun j k c h1 _=>by obtain ⟨⟨u,z⟩,_⟩:=h1;rw [un] at z;cases z
      prv:=F1.prv
      chg:=F1.chg
      keep:=F1.keep
      newO:=fun c z=>by obtain ⟨j,t,e,_⟩:=z;rw [un] at e;cases e
      newM:=fun c z=>by obtain ⟨j,t,e,_⟩:=z;rw [un] at e;cases e
      fix:=fun j c z=>by obtain ⟨⟨t,e⟩,_⟩:=z;rw [un] at e;rcases e with e | e | e <;> cases e
      gg:=F1.gg
      gn:=F1.gn
      bp:=F1.bp }
   | bk ρ1=>rw [e] at h;exact False.elim h
   | ct ρ1=>rw [e] at h;exact False.elim h
   | xn x ρ1=>rw [e] at h;exact False.elim h
   | no=>rw [e] at h;exact False.elim h
  ·rw [if_neg hk] at h;exact False.elim h
theorem Q05 {s:S} (h:QS X st (tS p s)):QS X st (tS p (.look i s)):=h.weak fun D σ H h=>Q4y h
end
section
variable {X:Cx} {p:Pr} {e a b:Expr} {e' a' b':E} {pos p1 p2 pos':Pos} {x:Str}
end
section
variable {P:Program} {w:World} {H:Hp}
open Classical in
theorem Qwk {s:Shared} {A:Around} {ts:List T} {vs:List V} {its:List Value} {tx:T} {u:Value} (i1:IsL H vs ts) (r1:Vals vs its) (ok:HOk P w H s.heap) (h1:ts.all (Qq 49)=true) (h2:Qq 49 tx=true) (sx:Shp P w H s.heap tx u) (hu:A.units+64<cLine) :
  ∃ e:Value→Bool,(∀ y,y∈its.toArray→SeqAt.EqAt A.in1 s y u (e y))∧its.toArray.any e=ts.any fun t=>eqT t tx:=by
 have key:∀ (j:Nat) (y:Value),its[j]?=some y→∃ t,ts[j]?=some t∧SeqAt.EqAt A.in1 s y u (eqT t tx):=fun j y hy=>by
  have hj:j<its.length:=by
   rcases Nat.lt_or_ge j its.length with z | z
   ·exact z
   ·rw [getElem?_eq_none z] at hy;cases hy
  have l1:j<vs.length:=by rw [r1.length];exact hj
  obtain ⟨y',hy',ry⟩:=r1.get (getElem?_eq_getElem l1)
  rw [hy] at hy'
  cases hy'
  obtain ⟨t,ht,it⟩:=i1.get (getElem?_eq_getElem l1)
  exact ⟨t,ht,Qz9 49 ok (by show A.units+1+49<cLine;omega) t tx y u (all_eq_true.mp h1 t (mem_of_getElem? ht)) h2 (it.shp ry ok) sx⟩
 have len:its.length=ts.length:=by rw [←r1.length,i1.length]
 refine ⟨fun y=>decide (∃ (j:Nat) (t:T),its[j]?=some y∧ts[j]?=some t∧eqT t tx=true),fun y hy=>?_,?_⟩
 ·have hy:y∈its:=by simpa using hy
  obtain ⟨j,hj⟩:=List.getElem?_of_mem hy
  obtain ⟨t,ht,et⟩:=key j y hj
  show SeqAt.EqAt A.in1 s y u (decide (∃ (j:Nat) (t:T),its[j]?=some y∧ts[j]?=some t∧eqT t tx=true))
  by_cases z:∃ (j:Nat) (t:T),its[j]?=some y∧ts[j]?=some t∧eqT t tx=true
  ·rw [decide_eq_true z]
   obtain ⟨k,t',hk,hk',e'⟩:=z
   obtain ⟨t2,e2,q⟩:=key k y hk
   rw [hk'] at e2
   cases e2
   rw [e'] at q
   exact q
  ·rw [decide_eq_false z]
   have:eqT t tx=false:=by
    cases e:eqT t tx with
    | false=>rfl
    | true=>exact absurd ⟨j,t,hj,ht,e⟩ z
   rw [this] at et
   exact et
 ·rw [Bool.eq_iff_iff]
  constructor
  ·intro z
   have z:its.any (fun y=>decide (∃ (j:Nat) (t:T),its[j]?=some y∧ts[j]?=some t∧eqT t tx=true))=true:=by simpa only [List.any_toArray] using z
   obtain ⟨y,hy,z⟩:=any_eq_true.mp z
   obtain ⟨j,t,_,ht,et⟩:=of_decide_eq_true z
   exact any_eq_true.mpr ⟨t,mem_of_getElem? ht,et⟩
  ·intro z
   obtain ⟨t,ht,et⟩:=any_eq_true.mp z
   obtain ⟨j,hj⟩:=List.getElem?_of_mem ht
   have hl:j<its.length:=by
    rw [len]
    rcases Nat.lt_or_ge j ts.length with z | z
    ·exact z
    ·rw [getElem?_eq_none z] at hj;cases hj
   have:its.any (fun y=>decide (∃ (j:Nat) (t:T),its[j]?=some y∧ts[j]?=some t∧eqT t tx=true))=true :=
    any_eq_true.mpr ⟨its[j],getElem_mem hl,decide_eq_true ⟨j,t,getElem?_eq_getElem hl,hj,et⟩⟩
   simpa only [List.any_toArray] using this
end
section
variable {X:Cx} {p:Pr} {a b:Expr} {a' b':E} {pos:Pos}
noncomputable def rInS (neg:Bool):R2:=fun x y H Q=>∃ t t' ts,Is H x t∧Is H y t'∧Qej t'=some ts∧Qq 49 t=true∧ts.all (Qq 49)=true∧Q (.bl (if neg then !(ts.any fun u=>eqT u t) else ts.any fun u=>eqT u t)) H
theorem Qaap (hu:X.A.units+64<cLine):QOp X (compareOp .NotIn) (rInS true):=⟨by
 intro pins s σ H x y v u Q I rx ry ⟨t,t',ts,i,j,hs,h1,h2,q⟩
 have s1:=i.shp rx I.hok (P:=X.prog) (w:=X.w)
 have s2:=j.shp ry I.hok (P:=X.prog) (w:=X.w)
 cases s2 <;> first | (cases hs;done) | skip
 ·rename_i j1 i1 r1 p1
  cases hs
  obtain ⟨e,he,hq⟩:=Qwk i1 r1 I.hok h2 h1 s1 hu
  exact SeqAt.notIn_tupleAt e p1 he ⟨.bl _,H,I,rfl,by rw [hq];exact q⟩
 ·rename_i j1 i1 r1 p1
  cases hs
  obtain ⟨e,he,hq⟩:=Qwk i1 r1 I.hok h2 h1 s1 hu
  exact SeqAt.notIn_listAt e p1 he ⟨.bl _,H,I,rfl,by rw [hq];exact q⟩⟩
theorem Q4z {t u:T} {k:Bool} (e:inO t u=some k):∃ ts,Qej u=some ts∧Qq 49 t=true∧ts.all (Qq 49)=true∧k=ts.any fun u=>eqT u t:=by
 unfold inO at e
 cases es:Qej u with
 | none=>rw [es] at e;cases e
 | some ts =>
  rw [es] at e
  have e:(if Qq 49 t=true∧ts.all (Qq 49)=true then some (ts.any fun u=>eqT u t) else none)=some k:=e
  by_cases z:Qq 49 t=true∧ts.all (Qq 49)=true
  ·rw [if_pos z] at e
   exact ⟨ts,rfl,z.1,z.2,(Option.some.inj e).symm⟩
  ·rw [if_neg z] at e;cases e
theorem Q40:Oc2 (rInS true) (opC .nin):=by
 intro H G x y t u k Q hx hy e q
 have e:(inO t u).map (!·)=some k:=e
 cases e0:inO t u with
 | none=>rw [e0] at e;cases e
 | some k0 =>
  rw [e0] at e
  obtain ⟨ts,h1,h2,h3,rfl⟩:=Q4z e0
  have e:=Option.some.inj e
  subst e
  exact ⟨t,u,ts,hx.is,hy.is,h1,h2,h3,q⟩
theorem Qaen (hu:X.A.units+64<cLine) (ha:QE X a (tE p a')) (hb:QE X b (tE p b')) (hm:behindInMarks .NotIn b=false:=by rfl):QT X (.Compare a [.NotIn] [b] pos) (tT p (.cmp .nin a' b')):=Qm5 (Qaap hu) Q40 ha hb hm
end
section
variable {X:Cx} {k v:Expr} {tk tv:TE} {pos:Pos}
end
section
variable {X:Cx} {p:Pr} {a b:Expr} {a' b':E} {pos:Pos}
end
section
variable {prog:Program} {w:World} {A:Around} {E:Value→Shared→Prop} {s:Shared}
end
section
variable {X:Cx}
end
end L2
namespace L2
open PySem PySem.Spec PyProof.Rows PySem.W
section
variable {prog:Program} {w:World} {A:Around} {E:Value→Shared→Prop} {s:Shared} {it d:Addr} {i ep:Nat} {es:Array DictEntry}
end
section
variable {X:Cx}
end
section
variable {prog:Program} {w:World} {A:Around} {E:Value→Shared→Prop} {h:Heap} {g:Array GenState} {d:Drawn} {t:Nat} {os:OsState} {a:Addr} {its:Array Value} {n:Nat}
end
section
variable {prog:Program} {w:World} {A:Around} {E:Value→Shared→Prop} {s:Shared}
end
section
variable {X:Cx}
end
section
variable {prog:Program} {w:World} {A:Around} {E:Value→Shared→Prop} {s:Shared} {l:Addr} {xs:Array (Int×Tok)}
end
section
variable {X:Cx}
end
section
variable {prog:Program} {w:World} {A:Around} {E:Value→Shared→Prop} {s:Shared} {l:Addr} {xs:Array (Int×Tok)}
end
section
variable {X:Cx}
end
end L2
namespace L2
open PySem PySem.Spec PyProof.Rows PySem.W PySem.Calls
section
variable {prog:Program} {w:World} {A:Around} {E:Value→Shared→Prop} {s:Shared}
end
inductive TupsI (h:Heap):List Value→List (List Int)→Prop
 | nil:TupsI h [] []
 | cons {a:Addr} {its:List Value} {k:List Int} {vs:List Value} {ks:List (List Int)} (ht:h.IsTuple a its.toArray) (hi:IntsAre its k) (t:TupsI h vs ks):TupsI h (.ref a::vs) (k::ks)
section
variable {prog:Program} {w:World} {A:Around} {E:Value→Shared→Prop} {s:Shared}
end
section
variable {prog:Program} {w:World} {A:Around} {E:Value→Shared→Prop} {s:Shared}
end
inductive TupsV (K:PySem.W.Frag) (H:Hp):List V→List (List Int)→Prop
 | nil:TupsV K H [] []
 | cons {b:Addr} {k:List Int} {ys:List V} {ks:List (List Int)} (hq:SqT K H b (k.map V.int)) (t:TupsV K H ys ks):TupsV K H (.ref b::ys) (k::ks)
section
variable {X:Cx}
end
end L2
namespace L2
open PySem PySem.Spec PyProof.Rows PySem.W PySem.Calls
inductive PairI (h:Heap):List Value→List (List Int)→Prop
 | nil:PairI h [] []
 | cons {a b:Addr} {i:Int} {tk:Tok} {its:List Value} {k:List Int} {vs:List Value} {ks:List (List Int)} (ha:h.IsTuple a #[.int i tk,.ref b]) (hb:h.IsTuple b its.toArray) (hi:IntsAre its k) (t:PairI h vs ks):PairI h (.ref a::vs) ((i::k)::ks)
section
variable {prog:Program} {w:World} {A:Around} {E:Value→Shared→Prop} {s:Shared}
end
inductive PairV (K:PySem.W.Frag) (H:Hp):List V→List (List Int)→Prop
 | nil:PairV K H [] []
 | cons {a b:Addr} {i:Int} {k:List Int} {ys:List V} {ks:List (List Int)} (ha:SqT K H a [.int i,.ref b]) (hb:SqT K H b (k.map V.int)) (t:PairV K H ys ks):PairV K H (.ref a::ys) ((i::k)::ks)
section
variable {X:Cx}
end
end L2
namespace L2
open PySem PySem.Spec PyProof.Rows PySem.W PySem.Calls
section
variable {prog:Program} {w:World} {A:Around} {E:Value→Shared→Prop} {s:Shared}
end
section
variable {X:Cx}
end
end L2
namespace L2
open PySem PySem.Spec PyProof.Rows PySem.W PySem.Calls
section
variable {prog:Program} {w:World} {A:Around} {E:Value→Shared→Prop} {s:Shared}
noncomputable def elt (vs:List Value) (ks:List (List Int)) (j:Nat):Int×Value:=(Qads (Qadt ks j),vs.getD j Value.none)
structure MOk (ks:List (List Int)) (led:Bool) (r:SetTable×Array Nat):Prop where
 fits:r.1.fits r.2.size=true
 plain:r.1.plain=true
 gave:r.1.gaveWay=false
 led:r.1.led=led
 size:r.2.size≤1000
 lt:∀ x∈r.2,x<ks.length
end
section
variable {prog:Program} {w:World} {A:Around} {R:Result→Shared→Prop} {I:Addr} {fp wr:List Addr} {G:Array GenState→Array GenState→Prop} {n:Nat} {P:Nat→Value→Prop} {St:Nat→Shared→Prop}
end
section
variable {prog:Program} {w:World} {A:Around} {E:Value→Shared→Prop} {s:Shared}
end
end L2
namespace L2
open PySem PySem.Spec PyProof.Rows PySem.W PySem.Calls
section
variable {prog:Program} {w:World} {A:Around} {E:Value→Shared→Prop} {s:Shared}
end
section
variable {X:Cx}
end
theorem Q41 {js:List (Option Nat)} {σ:St} {ρ:En} {k:Nat} {a:Addr} (h:PrvAt (Qef js σ) (Qcp js ρ) k a):∃ j,js[k]?=some (some j)∧PrvAt σ ρ j a:=by
 obtain ⟨⟨t,e1⟩,e2⟩:=h
 rw [Qdj] at e1
 rw [Qhd] at e2
 cases hj:js[k]? with
 | none=>rw [hj] at e1;cases e1
 | some o =>
  cases o with
  | none=>rw [hj] at e1;cases e1
  | some j =>
   rw [hj] at e1 e2
   refine ⟨j,rfl,?_,?_⟩
   ·have e1:((Qb ρ j).lend).prv=some t:=e1
    cases hs:Qb ρ j <;> rw [hs] at e1 <;> first | (cases e1;done) | exact ⟨_,rfl⟩
   ·have e2:some ((σ[j]?).join)=some (some (.ref a)):=e2
    cases hσ:σ[j]? with
    | none=>rw [hσ] at e2;cases e2
    | some v=>rw [hσ] at e2;exact e2
theorem WkR.imp {J:It} {H:Hp} {G:Addr→Prop} {Ok Ok':Hp→Prop} {ts:List T} (h:WkR J H G Ok ts) (q:∀ H,Ok' H→Ok H):WkR J H G Ok' ts:=⟨fun i H' hi ok=>h.go i H' hi (q _ ok),fun i H' hi ok=>h.stop i H' hi (q _ ok),fun i H' x H2 hi ok=>h.yld i H' x H2 hi (q _ ok)⟩
theorem Q06 {K:PySem.W.Frag} {p:Pr} {i0:Nat} {js:List (Option Nat)} {tg:Tg} {cs:Es} {e':E} {σ:St} {ρ:En} {H:Hp} {G:Addr→Prop} {Q:VK} {lw l:Addr} {vs:List V} {ts:List T} {J:It} {Z:Hp→Prop} (F:FI (Qaz H G σ ρ) H G σ ρ) (pw:PrvAt σ ρ i0 lw) (elw:H lw=some (.lst vs))
  (wk:WkR J H G (fun H'=>SqL K H' lw vs∧Z H') ts) (hZ:∀ H' G',Same (dls H G) (dls H' G')→Z H')
  (h1:Fin p (Qaz H G σ ρ) σ (if js.all (fun j=>decide (j≠some i0))=true then (match Qdf tg (evC p.cf cs) (evE p.cf e') ts [] (Qcp js ρ) with
   | .ok us ρi=>if Qec (Qcp js ρ) ρi=true∧Qbx js=true then .ok (.ow (.lst us)) (Qjm js ρi ρ) else .no
   | _=>.no) else .no) fun r ρ1=>∀ v H1 G1,FI (Qaz H G σ ρ) H1 G1 σ ρ1→PVR H H1 G1 σ ρ1 v r→Q v H1) (hl:H l=none):Q6j J l (Qef js σ) H (tG tg) (tCs p.calm cs) (tE p.calm e') Q:=by
 by_cases hj:js.all (fun j=>decide (j≠some i0))=true
 ·simp only [if_pos hj] at h1
  have F1:=F
  have hne:lw≠l:=fun z=>by rw [z,hl] at elw;cases elw
  have npw0:∀ k,¬ PrvAt (Qef js σ) (Qcp js ρ) k lw:=fun k hk=>by
   obtain ⟨j,ej,pj⟩:=Q41 hk
   have:=F.apart j i0 lw pj pw
   subst this
   have:=all_eq_true.mp hj _ (mem_of_getElem? ej)
   simp at this
  cases ec:Qdf tg (evC p.cf cs) (evE p.cf e') ts [] (Qcp js ρ) with
  | no=>rw [ec] at h1;exact False.elim h1
  | xn x ρx=>rw [ec] at h1;exact False.elim h1
  | ok tsF ρF =>
   rw [ec] at h1
   by_cases hz:Qec (Qcp js ρ) ρF=true∧Qbx js=true
   ·simp only [if_pos hz] at h1
    obtain ⟨hkept,hap⟩:=hz
    have Fc:=F1.cap hap
    refine ⟨fun i m ys σ2 H2=>i+m=ts.length∧∃ G2 ρi acc,FI (Qaz H G (Qef js σ) (Qcp js ρ)) H2 G2 σ2 ρi∧G2 l∧(∀ k,¬ PrvAt σ2 ρi k l)∧H2 l=some (.lst ys)∧IsL (dls H2 G2) ys acc∧acc.length≤100000 ∧
     (∀ k,¬ PrvAt σ2 ρi k lw)∧H2 lw=some (.lst vs) ∧
     Qdf tg (evC p.cf cs) (evE p.cf e') (ts.drop i) acc ρi=.ok tsF ρF,⟨ts.length,Nat.zero_add _,_,_,[],Fc.addG hl (Same.upd hl) Q6 rfl,.inr rfl,fun k hk=>?_,Q6,.nil,Nat.zero_le _,npw0,by rw [Qab hne];exact elw,ec⟩,?_⟩
    ·obtain ⟨_,t,ob,ea,_⟩:=PrvAt.at Fc hk
     rw [hl] at ea
     cases ea
    rintro i m ys σ2 H2 ⟨him,G2,ρi,acc,I2,gl,np,el,il,zl,npw,ew,cl⟩
    have ok2:SqL K H2 lw vs∧Z H2:=⟨SqL.of ew,hZ H2 G2 (Fc.same I2)⟩
    by_cases hlt:i<ts.length
    ·refine .inr ⟨wk.go i H2 hlt ok2,fun x H3 y=>?_⟩
     obtain ⟨s3,t,et,ix⟩:=wk.yld i H2 x H3 hlt ok2 y
     have I3:=I2.grow s3
     have ix3:=ix G2 I2.prv (Fc.same I2)
     rw [List.drop_eq_getElem_cons hlt] at cl
     have et':ts[i]=t:=by rw [getElem?_eq_getElem hlt] at et;exact Option.some.inj et
     rw [et'] at cl
     unfold Qdf at cl
     cases est:Qeb tg t ρi with
     | none=>rw [est] at cl;cases cl
     | some ρ4 =>
      rw [est] at cl
      replace cl:(evC p.cf cs ρ4).bind _=.ok tsF ρF:=cl
      obtain ⟨b,ρ5,eb,cl⟩:=Ql3 cl
      refine ⟨_,G2,ρi,t,ρ4,I3,ix3,est,fun σ4 I4 old=>?_⟩
      have np4:∀ k,¬ PrvAt σ4 ρ4 k l:=fun k hk=>np k (old k l hk)
      have npw4:∀ k,¬ PrvAt σ4 ρ4 k lw:=fun k hk=>npw k (old k lw hk)
      refine ⟨G2,ρ4,I4.self,?_⟩
      rw [show p.calm.cf=p.cf from rfl,eb]
      intro H5 G5 I5
      have np5:=I4.nobody I5 (s3 _ _ el) np4
      have npw5:=I4.nobody I5 (s3 _ _ ew) npw4
      have I5':=I4.trans I5
      have el5:H5 l=some (.lst ys):=I5.chg l _ (fun z=>by obtain ⟨j,z⟩:=OwA.prv z;exact np4 j z) (fun z=>by obtain ⟨j,z⟩:=MlA.prv z;exact np4 j z) (s3 _ _ el)
      have ew5:H5 lw=some (.lst vs):=I5.chg lw _ (fun z=>by obtain ⟨j,z⟩:=OwA.prv z;exact npw4 j z) (fun z=>by obtain ⟨j,z⟩:=MlA.prv z;exact npw4 j z) (s3 _ _ ew)
      have il5:IsL (dls H5 G5) ys acc:=(il.mono (Qbn s3)).mono (I4.same I5)
      cases b with
      | false =>
       simp only [Bool.false_eq_true,if_false] at cl ⊢
       exact ⟨m-1,by omega,by omega,G5,ρ5,acc,I5',I5.gg l gl,np5,el5,il5,zl,npw5,ew5,cl⟩
      | true =>
       simp only [if_true] at cl ⊢
       obtain ⟨r,ρ6,er,cl⟩:=Ql3 cl
       refine ⟨G5,ρ5,I5'.self,?_⟩
       rw [show p.calm.cf=p.cf from rfl,er]
       intro v H6 G6 I6 r6
       cases ef:frz r with
       | none=>rw [ef] at cl;cases cl
       | some t6 =>
        rw [ef] at cl
        replace cl:(if acc.length<100000 then Qdf tg (evC p.cf cs) (evE p.cf e') (ts.drop (i+1)) (acc++[t6]) ρ6 else .no)=.ok tsF ρF:=cl
        by_cases za:acc.length<100000
        ·rw [if_pos za] at cl
         have np6:=I5'.nobody I6 el5 np5
         have npw6:=I5'.nobody I6 ew5 npw5
         have el6:H6 l=some (.lst ys):=I6.chg l _ (fun z=>by obtain ⟨j,z⟩:=OwA.prv z;exact np5 j z) (fun z=>by obtain ⟨j,z⟩:=MlA.prv z;exact np5 j z) el5
         have ew6:H6 lw=some (.lst vs):=I6.chg lw _ (fun z=>by obtain ⟨j,z⟩:=OwA.prv z;exact npw5 j z) (fun z=>by obtain ⟨j,z⟩:=MlA.prv z;exact npw5 j z) ew5
         have il6:IsL (dls H6 G6) ys acc:=il5.mono (I5'.same I6)
         obtain ⟨G7,I7,i7,s7⟩:=PVR.lay (B:=Qaz H5 G5 σ4 ρ5) r6 I6 ef
         have g7:G7 l:=I7.gg l (I5.gg l gl)
         have I7':=I5'.trans I7
         have hb:(Qaz H G (Qef js σ) (Qcp js ρ)).H l=none:=hl
         obtain ⟨I8,s8⟩:=I7'.under (ys:=ys++[v]) g7 np6 hb
         have zy:=il6.length
         refine ⟨el6,by rw [zy,sizeLine_eq];omega,m-1,by omega,by omega,G7,ρ6,acc++[t6],I8,g7,np6,Q6,((il6.mono (Qcy s7)).append (.one i7)).mono s8,by rw [length_append,length_singleton];omega,npw6,by rw [Qab hne];exact ew6,cl⟩
        ·rw [if_neg za] at cl;cases cl
    ·have e0:ts.drop i=[]:=List.drop_of_length_le (by omega)
     rw [e0] at cl
     cases cl
     refine .inl ⟨wk.stop i H2 (by omega) ok2,h1 _ H2 G2 (F1.uncap hap I2 hkept) ?_⟩
     refine ⟨l,rfl,F1.free hl,gl,fun k hk=>?_,.lst ys,el,zl,il⟩
     obtain ⟨⟨u,eu⟩,q⟩:=hk
     rw [Qfa] at eu
     have:∃ u,(Qb ρ k).prv=some u:=by
      rcases Qdk js ρF k (Qb ρ k) with z | ⟨_,t,_,_,z⟩
      ·rw [z] at eu;exact ⟨u,eu⟩
      ·rw [z] at eu;exact Ql2 eu
     obtain ⟨_,t,ob,ea,_⟩:=PrvAt.at F1 ⟨this,q⟩
     rw [hl] at ea
     cases ea
   ·simp only [if_neg hz] at h1
    exact False.elim h1
 ·simp only [if_neg hj] at h1
  exact False.elim h1
theorem Qaaq {σ:St} {ρ:En} {B:Bs} {H:Hp} {G:Addr→Prop} {i0:Nat} {ts:List T} (F:FI B H G σ ρ) (hs:(Qb ρ i0).prv=some (.lst ts)):∃ lw vs,σ[i0]?=some (some (.ref lw))∧PrvAt σ ρ i0 lw∧H lw=some (.lst vs)∧IsL (dls H G) vs ts:=by
 have hpv:∃ lw,σ[i0]?=some (some (.ref lw))∧OwnAt H G lw (.lst ts):=by
  have q:=F.slot i0
  cases he:Qb ρ i0 <;> rw [he] at hs q <;> first | (cases hs;done) | skip
  all_goals
   cases hs
   obtain ⟨l,sl,gl,o0⟩:=q
   exact ⟨l,sl,o0⟩
 obtain ⟨lw,sl,o0⟩:=hpv
 obtain ⟨vs,z,elw,ilw⟩:=o0.lst_inv
 exact ⟨lw,vs,sl,⟨⟨_,hs⟩,sl⟩,elw,ilw⟩
theorem Q07 {K:PySem.W.Frag} {p:Pr} {i0:Nat} {js:List (Option Nat)} {tg:Tg} {cs:Es} {e':E} {σ:St} {H:Hp} {Q:VK} (h:tE p (.compS i0 js tg cs e') σ H Q):Qpb (Qx0 K (Qom i0)) js (tG tg) (tCs p.calm cs) (tE p.calm e') σ H Q:=by
 obtain ⟨G,ρ,F,h1⟩:=h
 unfold evE at h1
 cases hs:(Qb ρ i0).prv with
 | none=>rw [hs] at h1;exact False.elim h1
 | some t0 =>
  rw [hs] at h1
  cases t0 <;> first | exact False.elim h1 | skip
  obtain ⟨lw,vs,sl,pw,elw,ilw⟩:=Qaaq F hs
  exact ⟨_,sl,lw,rfl,.inl ⟨⟨vs,SqL.of elw⟩,fun l hl=>Q06 (K:=K) F pw elw (Z:=fun _=>True) ((wk_l ilw).imp fun _ z=>z.1) (fun _ _ _=>trivial) h1 hl⟩⟩
theorem Q42 {X:Cx} {p:Pr} {K:PySem.W.Frag} {tgE elt iter:Expr} {ifs:List Expr} {scope:Scope} {x:Str} {p1 p2 pos:Pos} {e':E} (N:List Str) (js:List (Option Nat)) {i0 i:Nat} {tg:Tg} {cs:Es} (hcalm:X.calm=true)
  (hi:QI X tgE iter (Qx0 K (Qom i0))) (hg:∀ s H fp,QG (Q8 X scope N s H fp) tgE (tG tg)) (hc:∀ s H fp,QC (Q8 X scope N s H fp) ifs (tCs p.calm cs)) (he:∀ s H fp,QE (Q8 X scope N s H fp) elt (tE p.calm e')) (hn:QG X (.Name x p2) (Qe5 i))
  (hk:scope.kind=.function:=by rfl) (h1:scOk X scope=true:=by rfl) (h2:Qim X scope N js=true:=by rfl) (hs:∀ x,foldedSetIterable iter X.env x=pure x:=by intro _;rfl)
  (hsw:swapsWithSole [.Name x p2] (.ListComp elt [⟨tgE,iter,ifs,0⟩] scope p1) pos.line X.env=pure true:=by rfl) (ha:(assignEach [.Name x p2] X.env).map (·.2)=[assign (.Name x p2) X.env]:=by rfl) :
  QS X (.Assign [.Name x p2] (.ListComp elt [⟨tgE,iter,ifs,0⟩] scope p1) pos) (Qlt (tE p (.compS i0 js tg cs e')) (Qe5 i)) :=
 QS.weak ⟨Qmv hcalm hi.h (fun s H fp=>(hg s H fp).h) (fun s H fp=>(hc s H fp).h) (fun s H fp=>(he s H fp).h) hn.h hk h1 h2 hs hsw ha⟩ fun D σ H h=>Q07 h
section
variable {H H1:Hp} {b:Addr} {o:HO}
end
section
variable {X:Cx}
end
section
variable {X:Cx} {p:Pr} {e a b:Expr} {e' a' k':E} {st:Stmt} {pos p1 apos:Pos} {x:Str} {K:PySem.W.Frag}
end
end L2
namespace L2
open PySem PySem.Spec PyProof.Rows PySem.W
section
variable {X:Cx} {tg l e:Expr} {tl:TE}
end
section
variable {X:Cx} {p:Pr} {tg e:Expr} {e':E}
end
section
variable {B:Bs} {H H1:Hp} {G G1:Addr→Prop} {σ σ1:St} {ρ ρ1:En} {b:Addr} {o:HO}
noncomputable def RowR (H:Hp) (G:Addr→Prop) (r:Addr) (is:List Int):Prop:=¬ G r∧H r=some (.lst (is.map V.int))∧is.length≤1000
noncomputable def TabR (H:Hp) (G:Addr→Prop) (q:Addr×List Addr) (M:List (List Int)):Prop:=¬ G q.1∧H q.1=some (.lst (q.2.map V.ref))∧Paired (RowR H G) q.2 M∧M.length≤1000
noncomputable abbrev Q43 (ps:List (Addr×List Addr)):List Addr:=ps.map (·.1)++ps.flatMap (·.2)
structure Tree (H:Hp) (G:Addr→Prop) (lf:Addr) (ps:List (Addr×List Addr)) (Ms:List (List (List Int))):Prop where
 own:G lf
 top:H lf=some (.lst (ps.map fun q=>V.ref q.1))
 tabs:Paired (TabR H G) ps Ms
 nd:(Q43 ps).Nodup
structure Lv (B:Bs) (iF iR:Nat) (H:Hp) (G:Addr→Prop) (σ:St) (ρ:En) (lf lr:Addr) (ps:List (Addr×List Addr)) (Ms:List (List (List Int))) (rs:List Addr) (R:List (List Int)):Prop where
 F:FI B H G σ ρ
 sF:Qb ρ iF=.ow (.lst (Ms.map Q61))
 eF:σ[iF]?=some (some (.ref lf))
 sR:Qb ρ iR=.ow (.lst (R.map Q60))
 eR:σ[iR]?=some (some (.ref lr))
 tr:Tree H G lf ps Ms
 hr:H lr=some (.lst (rs.map V.ref))
 rows:Paired (RowR H G) rs R
 nd:(rs++Q43 ps).Nodup
 fr:∀ b∈rs++Q43 ps,B.H b=none
structure Lf (B:Bs) (iF:Nat) (H:Hp) (G:Addr→Prop) (σ:St) (ρ:En) (lf:Addr) (ps:List (Addr×List Addr)) (Ms:List (List (List Int))):Prop where
 F:FI B H G σ ρ
 sF:Qb ρ iF=.ow (.lst (Ms.map Q61))
 eF:σ[iF]?=some (some (.ref lf))
 tr:Tree H G lf ps Ms
 fr:∀ b∈Q43 ps,B.H b=none
variable {iF iR iH:Nat} {lf lr:Addr} {ps:List (Addr×List Addr)} {Ms:List (List (List Int))} {rs:List Addr} {R:List (List Int)} {is:List Int}
end
structure Rw (B:Bs) (H:Hp) (G:Addr→Prop) (σ:St) (ρ:En) (l:Addr) (rs:List Addr) (M:List (List Int)):Prop where
 F:FI B H G σ ρ
 g:∀ b∈l::rs,G b
 nd:(l::rs).Nodup
 np:∀ b∈l::rs,∀ k,¬ PrvAt σ ρ k b
 fr:∀ b∈l::rs,B.H b=none
 el:H l=some (.lst (rs.map V.ref))
 row:Paired (fun r (is:List Int)=>H r=some (.lst (is.map V.int))) rs M
section
variable {B:Bs} {H H1 H2 H3:Hp} {G G1:Addr→Prop} {σ:St} {ρ ρ1:En} {l r:Addr} {rs:List Addr} {M:List (List Int)} {is is':List Int} {i y:Nat}
end
section
variable {B:Bs} {H:Hp} {G:Addr→Prop} {σ:St} {ρ:En} {K:PySem.W.Frag} {p:Pr} {D:Ends} {a v:E} {i j k:Nat}
end
section
variable {B:Bs} {H:Hp} {G:Addr→Prop} {σ:St} {ρ:En} {l:Addr} {rs:List Addr} {M M':List (List Int)} {K:PySem.W.Frag} {p:Pr} {i j k w s:Nat} {v:ME} {x:Int} {Q:VK} {D:Ends}
noncomputable def rB (K:PySem.W.Frag):BOp→R2
 | .add=>Qmp K
 | .sub=>rI0 fun i j=>.int (i-j)
 | .mul=>Q0h
 | _=>fun _ _ _ _=>False
end
section
variable {X:Cx} {p:Pr} {body suite:List Stmt} {b0:Stmt} {n:Str} {np hpos pos:Pos} {i:Nat} {b:S} {h:Nat→List Int→Option T}
end
section
variable {X:Cx} {p:Pr} {e:Expr} {es:List Expr} {es':Es} {x nm:Str} {np cpos pos:Pos} {c k:Nat} {D:Ends} {σ:St} {H:Hp}
end
section
variable {X:Cx} {p:Pr} {body suite:List Stmt} {b0:Stmt} {n:Str} {np hpos pos:Pos} {i:Nat} {b:S} {h:Nat→List Int→Option T}
end
section
variable {X:Cx} {p:Pr} {body suite:List Stmt} {b0:Stmt} {n:Str} {np hpos pos:Pos} {i j:Nat} {b:S} {h:Nat→List Int→Option T}
end
section
variable {X:Cx} {p:Pr} {a b c:Expr} {a' b' c':E} {pos:Pos}
end
section
variable {prog:Program} {w:World} {A:Around} {E:Value→Shared→Prop} {s:Shared}
end
section
variable {X:Cx} {a b:Expr} {rest:List Expr} {ta tb:TE} {pos:Pos}
end
section
variable {cf:CF} {ρ:En}
end
section
variable {X:Cx} {pins:List (Addr×Obj)} {σ:St} {H:Hp} {s:Shared}
end
section
variable {X:Cx} {p:Pr}
end
section
variable {X:Cx} {p:Pr} {x:Str} {i n:Nat} {e:Expr} {es:List Expr} {es':Es} {p1 pos:Pos}
end
structure LamSc (l:LamT):Prop where
 kind:l.scope.kind=.function
 co:l.scope.isCoroutine=false
 gen:l.scope.isGenerator=false
 nd:(l.ps++l.caps).Nodup
 par:∀ x∈l.ps,l.scope.names.lookup x=some .local
 cap:∀ x∈l.caps,l.scope.names.lookup x=some .free
 nocell:∀ y∈l.scope.names,y.2≠.cell
 free:∀ y∈l.scope.names,y.2=.free→y.1∈l.caps
 bind:∀ (cl:List (Str×Addr)) (pm cdv ctv:Value) (us:List Value),us.length=l.ps.length→bindArgs (PySem.W.kla_fn "<lambda>" l.qual l.params l.body l.scope cl pm cdv ctv) ⟨us,[]⟩=pure (l.ps.zip us)
section
variable {P:Program} {w:World} {K:PySem.W.Frag} {mg:Str→Option Value} {base:Heap}
noncomputable abbrev swX (X:Cx) (g:Str→Bool):Cx:={ X with fn:=g }
structure QB0 (X:Cx) (g:Str→Bool) (st:List Stmt) (t:TS):Prop where
 h:∀ (pins:List (Addr×Obj)) (s:Shared) (σ:St) (H:Hp) (D:Ends),Inv X pins σ H s→t D σ H→wpAny (model X.prog X.w) X.A (execs st X.env) (SP (swX X g) pins D) X.xe s
end
section
variable {K:PySem.W.Frag} {tb:Addr} {qn:Str} {mg:Str→Option Value}
structure MakesL (K:PySem.W.Frag) (mg:Str→Option Value) (x:Str) (c tb:Addr):Prop where
 tab:K.lookup tb=none
 of:Qub K mg x (.ref c)
 hd:∃ o vs file tf flags tg inF text tt,K.lookup c=some o∧o.cls=.type "code" ∧ o.data=.fields vs∧vs[11]?=some (.ref tb)∧vs.getD 11 .none=.ref tb∧vs.getD 18 .none=.str file tf∧vs.getD 7 .none=.int flags tg∧vs.getD 9 .none=.bool inF∧vs.getD 10 .none=.int text tt
end
section
variable {X:Cx} {p:Pr} {x:Str} {e:Expr} {es:List Expr} {es':Es} {p1 pos:Pos}
end
noncomputable abbrev uns (n:Nat):En:=List.replicate n .un
theorem Qey (n i:Nat):Qb (uns n) i=.un:=by
 unfold Qb uns
 rw [getElem?_replicate]
 split <;> rename_i e
 ·split at e <;> cases e
  rfl
 ·rfl
noncomputable abbrev bs0 (H:Hp):Bs:=⟨H,fun _=>False,fun _=>False,fun _=>False,fun _ _=>False⟩
theorem Qaar (H:Hp) {σ:St} {n:Nat} (hl:σ.length=n):FI (bs0 H) H (fun _=>False) σ (uns n) where
 len:=by rw [hl,length_replicate]
 slot:=fun i=>by rw [Qey];trivial
 apart:=fun i j a h _=>by obtain ⟨⟨t,e⟩,_⟩:=h;rw [Qey] at e;cases e
 prv:=fun b h=>h.elim
 chg:=fun _ _ _ _ e=>e
 keep:=fun _ o e=>⟨o,e⟩
 newO:=fun a h=>by obtain ⟨i,t,e,_⟩:=h;rw [Qey] at e;cases e
 newM:=fun a h=>by obtain ⟨i,t,e,_⟩:=h;rw [Qey] at e;cases e
 fix:=fun i a h=>by obtain ⟨⟨t,e⟩,_⟩:=h;rw [Qey] at e;rcases e with e | e | e <;> cases e
 gg:=fun _ h=>h
 gn:=fun _ h=>.inl h
 bp:=fun _ h=>h.elim
noncomputable def Qng (K:PySem.W.Frag):Sp:=fun vs H Q _=>∃ (a:Addr) (ns:List Int) (k:Nat),vs=[.ref a,.int k]∧SqL K H a (ns.map V.int)∧∀ i:Int,Q (.int i) H
noncomputable abbrev Q08 (K:PySem.W.Frag) (hi:Int):TI:=Qx0 K (tOp (Qmp K) (Q6o (Qjd (Qvx (Qng K) [] E0 (Qjd (Qom 0) (Qjd (tC (.int 0)) Qt0))) Qt0)) (tSl (Qzq K) (Qom 0) (Qv0 (tC (.int 1))) (Qv0 (tC (.int hi)))))
theorem Q09 {p:Pr} {K:PySem.W.Frag} {σ:St} {H:Hp} {D:Ends} {a:Addr} {ns:List Int} {ic n:Nat} {body:S} {hi:Int} (hσ:σ[0]?=some (some (.ref a))) (hs:SqL K H a (ns.map V.int)) (hns:ns.length≤63) (hl:σ.length=n) (hic:ic<n)
  (hb:∀ m:Int,∃ ρ',exS p.cf body ((uns n).set ic (.fz (.int m)))=.nx ρ'∧ρ'.length=n) (hD:∀ σ' H',D.nx σ' H'):Qzc (Q08 K hi) (Qe5 ic) (tS p body) D σ H:=by
 refine ⟨_,hσ,a,ns,0,rfl,hs,fun c0=>⟨by show 1≤sizeLine;decide,fun l7 n7=>?_⟩⟩
 have hs7:=(Same.upd (o:=.lst [.int c0]) n7).seq hs
 refine ⟨_,hσ,_,rfl,_,rfl,.inl ⟨a,_,rfl,hs7,fun l8 n8=>?_⟩⟩
 have n78:l7≠l8:=Qcq Q6 n8
 have hcl:=Qg8 (ns.map V.int) (some 1) (some hi)
 refine .inr (.inl ⟨l7,l8,_,_,rfl,rfl,by rw [Qab n78,Q6],Q6,?_,fun l9 n9=>?_⟩)
 ·refine Qct ?_
  rw [length_map] at hcl
  show 1+_≤100000
  omega
 generalize hH9:upd (upd (upd H l7 (.lst [.int c0])) l8 (.lst (Qg7 (ns.map V.int) (some 1) (some hi)))) l9 (.lst ([.int c0]++Qg7 (ns.map V.int) (some 1) (some hi)))=H9
 have e9:H9 l9=some (.lst ([.int c0]++Qg7 (ns.map V.int) (some 1) (some hi))):=by rw [←hH9,Q6]
 have allI:∀ x∈[V.int c0]++Qg7 (ns.map V.int) (some 1) (some hi),∃ i:Int,x=.int i:=fun x hx=>by
  rcases mem_append.mp hx with hx | hx
  ·exact ⟨c0,mem_singleton.mp hx⟩
  ·have hx:=List.mem_of_mem_drop (mem_of_mem_take hx)
   obtain ⟨n,_,e⟩:=mem_map.mp hx
   exact ⟨n,e.symm⟩
 refine ⟨l9,rfl,.inl ⟨⟨_,SqL.of e9⟩,Qzd (K:=K) (a:=l9) (xs:=[V.int c0]++Qg7 (ns.map V.int) (some 1) (some hi)) (fun i σ H10=>σ.length=n∧H10 l9=some (.lst ([.int c0]++Qg7 (ns.map V.int) (some 1) (some hi)))) ⟨hl,e9⟩ (fun i σ H10 _ h=>SqL.of h.2) ?_ ?_⟩⟩
 ·rintro i x σ2 H2 hx ⟨hl2,e2⟩
  obtain ⟨m,rfl⟩:=allI x (mem_of_getElem? hx)
  obtain ⟨ρ',eb,lb⟩:=hb m
  have F0:=(Qaar H2 hl2).setFz (i:=ic) (v:=.int m) (t:=.int m) (by rw [length_replicate];exact hic) Is.int
  refine ⟨bs0 H2,fun _=>False,_,F0,fun _ z=>z,?_⟩
  rw [eb]
  exact fun σ1 H1 G1 F1 _=>⟨by rw [F1.len,lb],F1.chg l9 _ (fun z=>z) (fun z=>z) e2⟩
 ·rintro σ2 H2 _
  exact hD σ2 H2
noncomputable def Quj (K:PySem.W.Frag):Sp:=fun vs H Q _=>∃ (a:Addr) (ns:List Int),vs=[.ref a]∧SqL K H a (ns.map V.int)∧ns.length≤63∧∀ H',Q (.bl true) H'
noncomputable def Qiq:Slot→Bool
 | .ml _=>false
 | _=>true
theorem Qwl:∀ {ρ:En},ρ.all Qiq=true→∀ k t,Qb ρ k≠.ml t
 | [],_,k,t,e=>by rw [Qgb] at e;cases e
 | s::ρ,h,0,t,e=>by
  rw [Qa] at e
  subst e
  simp [Qiq] at h
 | s::ρ,h,k+1,t,e=>by
  rw [all_cons,Bool.and_eq_true] at h
  rw [Qc] at e
  exact Qwl h.2 k t e
theorem Qnh {js:List (Option Nat)} {ρi:En} (h:ρi.all Qiq=true):∀ (ρ:En) (n:Nat),Qd6 js ρi n ρ=ρ
 | [],_=>rfl
 | s::ρ,n=>by
  unfold Qd6
  rw [Qnh h ρ (n+1)]
  rcases Qdk js ρi n s with e | ⟨k,t,_,e,_⟩
  ·rw [e]
  ·exact absurd e (Qwl h k t)
theorem Q44 {js:List (Option Nat)} {ρi ρ:En} (h:ρi.all Qiq=true):Qjm js ρi ρ=ρ:=Qnh h ρ 0
theorem Qsl:∀ {ρ0 ρ:En},ρ0.all Qiq=true→ρ0.length=ρ.length→Qec ρ0 ρ=true
 | [],[],_,_=>rfl
 | [],_::_,_,h=>by cases h
 | _::_,[],_,h=>by cases h
 | s0::ρ0,s::ρ,h,hl=>by
  rw [all_cons,Bool.and_eq_true] at h
  have q:=Qsl (ρ0:=ρ0) (ρ:=ρ) h.2 (by simpa using hl)
  cases s0 <;> first | exact q | (simp [Qiq] at h)
noncomputable def Qcu:Slot→Bool
 | .un=>true
 | .fz _=>true
 | _=>false
theorem Qsm {s:Slot} {rest:En} {x:T} (h:Qcu s=true):Qeb (.nm 0) x (s::rest)=some (.fz x::rest):=by
 cases s <;> first | rfl | cases h
theorem Qni {c:En→Out Bool} {el:En→Out PV} {rest:En} {g:T→Bool} {f:T→T}:∀ {xs acc:List T} {s0:Slot},Qcu s0=true→(∀ x∈xs,c (.fz x::rest)=.ok (g x) (.fz x::rest))→(∀ x∈xs,g x=true→∃ r,el (.fz x::rest)=.ok r (.fz x::rest)∧frz r=some (f x))→acc.length+xs.length≤100000 →
  ∃ s,Qdf (.nm 0) c el xs acc (s0::rest)=.ok (acc++(xs.filter g).map f) (s::rest)∧Qcu s=true
 | [],acc,s0,h0,hc,he,hz=>⟨s0,by unfold Qdf;simp,h0⟩
 | x::xs,acc,s0,h0,hc,he,hz=>by
  rw [length_cons] at hz
  have ih:=fun acc' (hz':acc'.length+xs.length≤100000)=>Qni (c:=c) (el:=el) (rest:=rest) (g:=g) (f:=f) (xs:=xs) (acc:=acc') (s0:=.fz x) rfl (fun y hy=>hc y (mem_cons_of_mem _ hy)) (fun y hy=>he y (mem_cons_of_mem _ hy)) hz'
  unfold Qdf
  rw [Qsm h0]
  simp only [hc x mem_cons_self,Out.bind]
  cases hg:g x with
  | false =>
   obtain ⟨s,e,o⟩:=ih acc (by omega)
   refine ⟨s,?_,o⟩
   simp only [Bool.false_eq_true,if_false,e,filter_cons,hg]
  | true =>
   obtain ⟨r,er,fr⟩:=he x mem_cons_self hg
   simp only [if_true,er,fr]
   have za:acc.length<100000:=by omega
   rw [if_pos za]
   obtain ⟨s,e,o⟩:=ih (acc++[f x]) (by rw [length_append,length_singleton];omega)
   refine ⟨s,?_,o⟩
   simp only [e,filter_cons,hg,if_true,map_cons,append_assoc,List.singleton_append]
theorem Qwm {cf:CF} {w:W} {js:List (Option Nat)} {cs:Es} {e:E} {ρ rest:En} {xs:List T} {g:T→Bool} {f:T→T} (hw:evW cf w ρ=.ok (xs,none) ρ) (hcap:Qcp js ρ=.un::rest) (hml:rest.all Qiq=true) (hap:Qbx js=true)
  (hc:∀ x∈xs,evC cf cs (.fz x::rest)=.ok (g x) (.fz x::rest)) (he:∀ x∈xs,g x=true→∃ r,evE cf e (.fz x::rest)=.ok r (.fz x::rest)∧frz r=some (f x)) (hz:xs.length≤100000) :
  evE cf (.comp w js (.nm 0) cs e) ρ=.ok (.ow (.lst ((xs.filter g).map f))) ρ:=by
 obtain ⟨s,e1,o⟩:=Qni (c:=evC cf cs) (el:=evE cf e) (rest:=rest) (g:=g) (f:=f) (xs:=xs) (acc:=[]) (s0:=.un) rfl hc he (by simpa using hz)
 have hs:(s::rest).all Qiq=true:=by
  rw [all_cons,hml]
  cases s <;> first | rfl | cases o
 unfold evE
 rw [hw]
 simp only [Out.bind,hcap,e1]
 rw [if_pos ⟨Qsl (by rw [all_cons,hml];rfl) rfl,hap⟩,Q44 hs]
 rfl
theorem Qa2 {cf:CF} {w:W} {js:List (Option Nat)} {e:E} {ρ rest:En} {xs:List T} {f:T→T} (hw:evW cf w ρ=.ok (xs,none) ρ) (hcap:Qcp js ρ=.un::rest) (hml:rest.all Qiq=true) (hap:Qbx js=true)
  (he:∀ x∈xs,∃ r,evE cf e (.fz x::rest)=.ok r (.fz x::rest)∧frz r=some (f x)) (hz:xs.length≤100000) :
  evE cf (.comp w js (.nm 0) .nil e) ρ=.ok (.ow (.lst (xs.map f))) ρ:=by
 rw [Qwm (g:=fun _=>true) (f:=f) hw hcap hml hap (fun x _=>by unfold evC;rfl) (fun x hx _=>he x hx) hz,List.filter_eq_self.mpr (fun _ _=>rfl)]
theorem Qfu {tg:Tg} {b:En→SO} (J:Nat→En→Prop):∀ {xs:List T} {n:Nat} {ρ:En},J n ρ→(∀ (i:Nat) x ρ,xs[i]?=some x→J (n+i) ρ→∃ ρ1 ρ2,Qeb tg x ρ=some ρ1∧(b ρ1=.nx ρ2∨b ρ1=.ct ρ2)∧J (n+i+1) ρ2)→∃ ρ',Qc0 tg b xs ρ=.nx ρ'∧J (n+xs.length) ρ'
 | [],n,ρ,h,_=>⟨ρ,rfl,h⟩
 | x::xs,n,ρ,h,hs=>by
  obtain ⟨ρ1,ρ2,e1,e2,j⟩:=hs 0 x ρ rfl h
  obtain ⟨ρ',e3,j3⟩:=Qfu (tg:=tg) (b:=b) J (xs:=xs) (n:=n+1) (ρ:=ρ2) (by simpa using j) fun i y ρ hy hj=>by
   have:=hs (i+1) y ρ (by rw [getElem?_cons_succ];exact hy) (by rw [show n+(i+1)=n+1+i by omega];exact hj)
   rw [show n+(i+1)+1=n+1+i+1 by omega] at this
   exact this
  refine ⟨ρ',?_,by rw [length_cons,show n+(xs.length+1)=n+1+xs.length by omega];exact j3⟩
  unfold Qc0
  rw [e1]
  rcases e2 with e2 | e2 <;> simp only [e2] <;> exact e3
noncomputable def AllQ (Q:Df→Prop):List Df→Prop
 | []=>True
 | d::ds=>Q d∧AllQ Q ds
theorem Q1a {Q:Df→Prop}:∀ {ds:List Df},AllQ Q ds→∀ (f:Nat) (d:Df),ds[f]?=some d→Q d
 | [],_,f,d,e=>by simp at e
 | c::ds,h,0,d,e=>by simp at e;subst e;exact h.1
 | c::ds,h,f+1,d,e=>by rw [getElem?_cons_succ] at e;exact Q1a h.2 f d e
variable {cf:CF} {ρ ρ1 ρ2:En} {α β:Type}
theorem Qz {a:α} {k:α→En→Out β}:(Out.ok a ρ).bind k=k a ρ:=rfl
noncomputable def Q3 (i:Nat) (ρ:En):Slot→Out PV
 | .fz t=>.ok (.fz t) ρ
 | .un=>.no
 | .pin _=>.no
 | .fx t=>.ok (.fz t) ρ
 | _=>.ok (.sl i) ρ
theorem Qo {i:Nat}:evE cf (.var i) ρ=Q3 i ρ (Qb ρ i):=by rw [evE];cases Qb ρ i <;> rfl
theorem Qbe {i:Int}:evE cf (.int i) ρ=.ok (.fz (.int i)) ρ:=by rw [evE]
theorem x_bl {i:Bool}:evE cf (.bl i) ρ=.ok (.fz (.bl i)) ρ:=by rw [evE]
theorem Qlk:evE cf .non ρ=.ok (.fz .non) ρ:=by rw [evE]
noncomputable def yTup (rs:List PV) (ρ:En):Out PV:=match Qfj rs with
 | some ts=>if ts.length≤100000 then .ok (.fz (.tup ts)) ρ else .no
 | none=>.no
noncomputable def Qsn (rs:List PV) (ρ:En):Out PV:=match Qfj rs with
 | some ts=>if ts.length≤100000 then .ok (.ow (.lst ts)) ρ else .no
 | none=>.no
theorem Q7c {es:Es}:evE cf (.tup es) ρ=(evA cf es ρ).bind yTup:=by rw [evE];rfl
theorem Qnj {es:Es}:evE cf (.lst es) ρ=(evA cf es ρ).bind Qsn:=by rw [evE];rfl
noncomputable def Qcj (o:BOp) (ρ:En):Option T→Option T→Out PV
 | some x,some y=>.opt (opB o x y) ρ
 | _,_=>.no
noncomputable def Qck (o:BOp) (ra rb:PV) (ρ:En):Out PV:=Qcj o ρ (cont ρ ra) (cont ρ rb)
noncomputable def Qcl (cf:CF) (o:BOp) (b:E) (ra:PV) (ρ:En):Out PV:=(evE cf b ρ).bind (Qck o ra)
theorem Qcv {o:BOp} {a b:E}:evE cf (.bin o a b) ρ=(evE cf a ρ).bind (Qcl cf o b):=by rw [evE];rfl
noncomputable def Qyf:PV→En→Out PV
 | .fz (.int i),ρ=>.ok (.fz (.int (-i))) ρ
 | _,_=>.no
theorem Qso {a:E}:evE cf (.neg a) ρ=(evE cf a ρ).bind Qyf:=by rw [evE];congr 1;funext r ρ1;cases r with
 | fz t=>cases t <;> rfl
 | ow t=>rfl
 | sl i=>rfl
noncomputable def yBl:PV→En→Out Bool
 | .fz (.bl b),ρ=>.ok b ρ
 | _,_=>.no
theorem Q4 {o:Out PV}:Qay o=o.bind yBl:=by unfold Qay;congr 1;funext r ρ1;cases r with
 | fz t=>cases t <;> rfl
 | ow t=>rfl
 | sl i=>rfl
noncomputable def Qlw (b:Bool) (ρ:En):Out PV:=.ok (.fz (.bl (!b))) ρ
theorem Qhg {a:E}:evE cf (.not a) ρ=(Qay (evE cf a ρ)).bind Qlw:=by rw [evE];rfl
noncomputable def yB (b:Bool) (ρ:En):Out PV:=.ok (.fz (.bl b)) ρ
noncomputable def Quk (cf:CF) (b:E):Bool→En→Out PV
 | true,ρ=>(Qay (evE cf b ρ)).bind yB
 | false,ρ=>.ok (.fz (.bl false)) ρ
noncomputable def yOr (cf:CF) (b:E):Bool→En→Out PV
 | false,ρ=>(Qay (evE cf b ρ)).bind yB
 | true,ρ=>.ok (.fz (.bl true)) ρ
theorem Qpx {a b:E}:evE cf (.and a b) ρ=(Qay (evE cf a ρ)).bind (Quk cf b):=by rw [evE];congr 1;funext c ρ1;cases c <;> rfl
theorem Qnk {a b:E}:evE cf (.or a b) ρ=(Qay (evE cf a ρ)).bind (yOr cf b):=by rw [evE];congr 1;funext c ρ1;cases c <;> rfl
noncomputable def Qa3 (ρ:En):Option Bool→Out PV
 | some k=>.ok (.fz (.bl k)) ρ
 | none=>.no
noncomputable def Qa4 (o:COp) (ρ:En):Option T→Option T→Out PV
 | some x,some y=>Qa3 ρ (opC o x y)
 | _,_=>.no
noncomputable def Qa5 (o:COp) (ra rb:PV) (ρ:En):Out PV:=Qa4 o ρ (cont ρ ra) (cont ρ rb)
noncomputable def Qa6 (cf:CF) (o:COp) (b:E) (ra:PV) (ρ:En):Out PV:=(evE cf b ρ).bind (Qa5 o ra)
theorem Qa8 {o:COp} {a b:E}:evE cf (.cmp o a b) ρ=(evE cf a ρ).bind (Qa6 cf o b):=by
 rw [evE]
 rfl
noncomputable def Qsp (n:String) (ρ:En):Option T→Out PV
 | some t=>if Qmz n && !Qin t then .ok (.fz (.bl (Qmq (tyT t) n))) ρ else .no
 | none=>.no
noncomputable def Q1b (n:String) (ra:PV) (ρ:En):Out PV:=Qsp n ρ (cont ρ ra)
theorem Qwn {a:E} {n:String}:evE cf (.isI a n) ρ=(evE cf a ρ).bind (Q1b n):=by
 rw [evE]
 rfl
theorem Q0 {f:Nat} {es:Es}:evE cf (.call f es) ρ=(evA cf es ρ).bind (Qlf cf f):=by rw [evE]
noncomputable def Qbh (b:Bi) (ρ:En):Option (List T)→Out PV
 | some ts=>.opt (Qg6 b ts) ρ
 | none=>.no
noncomputable def yBi (b:Bi) (rs:List PV) (ρ:En):Out PV:=Qbh b ρ (Qaa ρ rs)
theorem Qbj {b:Bi} {es:Es}:evE cf (.bi b es) ρ=(evA cf es ρ).bind (yBi b):=by
 rw [evE]
 rfl
noncomputable def Qfv (ρ:En):Option T→Out PV
 | some t=>.ok (.fz t) ρ
 | none=>.no
noncomputable def Qfw (ρ:En):Option T→Option T→Out PV
 | some x,some y=>Qfv ρ (Q0c x y)
 | _,_=>.no
noncomputable def Qfx (ra rb:PV) (ρ:En):Out PV:=Qfw ρ (cont ρ ra) (cont ρ rb)
noncomputable def Qfy (cf:CF) (b:E) (ra:PV) (ρ:En):Out PV:=(evE cf b ρ).bind (Qfx ra)
theorem Qge {a b:E}:evE cf (.ix a b) ρ=(evE cf a ρ).bind (Qfy cf b):=by
 rw [evE]
 rfl
noncomputable def Qul (l h:Option Int) (ρ:En):Option T→Out PV
 | some x=>.opt (Q35 x l h) ρ
 | none=>.no
noncomputable def Qnl (ra:PV) (l:Option Int) (ρ:En):Option (Option Int)→Out PV
 | none=>.no
 | some h=>Qul l h ρ (cont ρ ra)
noncomputable def Qum (ra:PV) (l:Option Int) (rh:List PV) (ρ:En):Out PV:=Qnl ra l ρ (Qjl rh)
noncomputable def Qnm (cf:CF) (hi:Es) (ra:PV) (ρ:En):Option (Option Int)→Out PV
 | none=>.no
 | some l=>(evA cf hi ρ).bind (Qum ra l)
noncomputable def Qun (cf:CF) (hi:Es) (ra:PV) (rl:List PV) (ρ:En):Out PV:=Qnm cf hi ra ρ (Qjl rl)
noncomputable def Quo (cf:CF) (lo hi:Es) (ra:PV) (ρ:En):Out PV:=(evA cf lo ρ).bind (Qun cf hi ra)
theorem Qpy {a:E} {lo hi:Es}:evE cf (.slc a lo hi) ρ=(evE cf a ρ).bind (Quo cf lo hi):=by
 rw [evE]
 rfl
theorem Qu:evA cf .nil ρ=.ok [] ρ:=by rw [evA]
noncomputable def yC2 (r:PV) (rs:List PV) (ρ:En):Out (List PV):=.ok (r::rs) ρ
noncomputable def yC1 (cf:CF) (es:Es) (r:PV) (ρ:En):Out (List PV):=(evA cf es ρ).bind (yC2 r)
theorem Ql {e:E} {es:Es}:evA cf (.cons e es) ρ=(evE cf e ρ).bind (yC1 cf es):=by rw [evA];rfl
noncomputable def Qll (r:PV) (ρ:En):Option (List T)→Out (List T×Option Nat)
 | some ts=>.ok (ts,Qlv r) ρ
 | none=>.no
noncomputable def Qlm (r:PV) (ρ:En):Option T→Out (List T×Option Nat)
 | some t=>Qll r ρ (Qej t)
 | none=>.no
noncomputable def Qsq (r:PV) (ρ:En):Out (List T×Option Nat):=Qlm r ρ (cont ρ r)
theorem Qnn {e:E}:evW cf (.seq e) ρ=(evE cf e ρ).bind Qsq:=by
 rw [evW]
 rfl
noncomputable def Qsr:PV→En→Out (List T×Option Nat)
 | .fz (.int j),ρ=>if j.natAbs≤100000 then .ok (Qag 0 j.toNat,none) ρ else .no
 | _,_=>.no
theorem Qdc {a:E}:evW cf (.rng1 a) ρ=(evE cf a ρ).bind Qsr:=by
 rw [evW]
 congr 1;funext r ρ1
 cases r with
 | fz t=>cases t <;> rfl
 | ow t=>rfl
 | sl i=>rfl
noncomputable def Qx (rs:List PV) (ρ:En):FR→Out PV
 | .ok r fin=>.ok r (Qao ρ rs fin)
 | .xn x fin=>.xn x (Qao ρ rs fin)
 | .no=>.no
noncomputable def Qy (cf:CF) (f:Nat) (rs:List PV) (ρ:En):Option (List Arg)→Out PV
 | some as=>Qx rs ρ (cf f as)
 | none=>.no
theorem Q45 {f:Nat} {rs:List PV} (h:Qs rs=true):Qlf cf f rs ρ=Qy cf f rs ρ (Qt ρ rs):=by
 unfold Qlf
 rw [if_pos h]
 cases Qt ρ rs with
 | none=>rfl
 | some as =>
  show (match cf f as with | .ok r fin=>Out.ok r (Qao ρ rs fin) | .xn x fin=>.xn x (Qao ρ rs fin) | .no=>.no)=Qx rs ρ (cf f as)
  cases cf f as <;> rfl
theorem Qal {a:α} {k:α→En→SO}:ofO (.ok a ρ) k=k a ρ:=rfl
theorem Qbd {k:En→SO}:(SO.nx ρ).seq k=k ρ:=rfl
theorem Q46 {r:PV} {k:En→SO}:(SO.rt r ρ).seq k=.rt r ρ:=rfl
theorem Qbz:exS cf .nil ρ=.nx ρ:=by rw [exS]
theorem Qad {a b:S}:exS cf (.seq a b) ρ=(exS cf a ρ).seq (exS cf b):=by rw [exS]
noncomputable def Qln (_:PV) (ρ:En):SO:=.nx ρ
theorem Qiy {e:E}:exS cf (.expr e) ρ=ofO (evE cf e ρ) Qln:=by rw [exS];rfl
theorem Qlo {i:Nat} {e:E}:exS cf (.set i e) ρ=ofO (evE cf e ρ) (Qoq i):=by rw [exS]
noncomputable def Qba (i:Nat) (ρ:En):Option T→SO
 | some t=>Qah (Qbk i (.fz t) ρ) .nx
 | none=>.no
noncomputable def Qb0 (i:Nat) (r:PV) (ρ:En):SO:=Qba i ρ (frz r)
theorem Qa0 {i:Nat} {e:E}:exS cf (.setF i e) ρ=ofO (evE cf e ρ) (Qb0 i):=by
 rw [exS]
 rfl
noncomputable def yUnp (is:List Nat):PV→En→SO
 | .fz (.tup ts),ρ=>Qah (Qcz is ts ρ) .nx
 | _,_=>.no
theorem Q7d {is:List Nat} {e:E}:exS cf (.unp is e) ρ=ofO (evE cf e ρ) (yUnp is):=by
 rw [exS]
 congr 1;funext r ρ1
 cases r with
 | fz t=>cases t <;> rfl
 | ow t=>rfl
 | sl i=>rfl
noncomputable def Qpz (i:Nat) (ρ:En) (t:T):Slot→SO
 | .ow (.lst ts)=>if ts.length<100000 then .nx (ρ.set i (.ow (.lst (ts++[t])))) else .no
 | .ml (.lst ts)=>if ts.length<100000 then .nx (ρ.set i (.ml (.lst (ts++[t])))) else .no
 | _=>.no
noncomputable def Qp0 (i:Nat) (ρ:En):Option T→SO
 | none=>.no
 | some t=>Qpz i ρ t (Qb ρ i)
noncomputable def Qup (i:Nat) (r:PV) (ρ:En):SO:=Qp0 i ρ (frz r)
theorem Qaep {i:Nat} {e:E} (h:(Qb ρ i).mut=true):exS cf (.app i e) ρ=ofO (evE cf e ρ) (Qup i):=by
 rw [exS,if_pos h]
 rfl
noncomputable def Q7e (i:Nat) (ρ:En) (us:List T):Slot→SO
 | .ow (.lst ts)=>if ts.length+us.length≤100000 then .nx (ρ.set i (.ow (.lst (ts++us)))) else .no
 | .ml (.lst ts)=>if ts.length+us.length≤100000 then .nx (ρ.set i (.ml (.lst (ts++us)))) else .no
 | _=>.no
noncomputable def yExt (i:Nat):PV→En→SO
 | .fz (.tup us),ρ=>Q7e i ρ us (Qb ρ i)
 | _,_=>.no
theorem Qaeq {i:Nat} {e:E} (h:(Qb ρ i).mut=true):exS cf (.ext i e) ρ=ofO (evE cf e ρ) (yExt i):=by
 rw [exS,if_pos h]
 congr 1;funext r ρ1
 cases r with
 | fz t=>cases t <;> rfl
 | ow t=>rfl
 | sl i=>rfl
noncomputable def Qss (i:Nat) (t:T) (j:Int) (ρ:En):Slot→SO
 | .ow (.lst ts)=>Qah (ixN ts.length j) fun n=>.nx (ρ.set i (.ow (.lst (ts.set n t))))
 | .ml (.lst ts)=>Qah (ixN ts.length j) fun n=>.nx (ρ.set i (.ml (.lst (ts.set n t))))
 | _=>.no
noncomputable def Qp1 (i:Nat) (t:T):PV→En→SO
 | .fz (.int j),ρ=>Qss i t j ρ (Qb ρ i)
 | _,_=>.no
noncomputable def Qst (cf:CF) (i:Nat) (k:E) (ρ:En):Option T→SO
 | none=>.no
 | some t=>if (Qb ρ i).mut=true then ofO (evE cf k ρ) (Qp1 i t) else .no
noncomputable def Qyg (cf:CF) (i:Nat) (k:E) (r:PV) (ρ:En):SO:=Qst cf i k ρ (frz r)
theorem Qwo {i:Nat} {k e:E}:exS cf (.put i k e) ρ=ofO (evE cf e ρ) (Qyg cf i k):=by
 rw [exS]
 congr 1;funext r ρ1
 unfold Qyg
 cases frz r with
 | none=>rfl
 | some t =>
  show _=(if (Qb ρ1 i).mut=true then ofO (evE cf k ρ1) (Qp1 i t) else .no)
  by_cases h:(Qb ρ1 i).mut=true
  ·simp only [if_pos h]
   congr 1;funext rk ρ2
   cases rk with
   | fz u=>cases u <;> rfl
   | ow u=>rfl
   | sl j=>rfl
  ·simp only [if_neg h]
theorem Qno {i:Nat} {e:E}:exS cf (.app i e) ρ=if (Qb ρ i).mut=true then ofO (evE cf e ρ) (Qup i) else .no:=by
 by_cases h:(Qb ρ i).mut=true
 ·rw [if_pos h,Qaep h]
 ·rw [if_neg h,exS,if_neg h]
theorem Qaax {i:Nat} {e:E}:exS cf (.ext i e) ρ=if (Qb ρ i).mut=true then ofO (evE cf e ρ) (yExt i) else .no:=by
 by_cases h:(Qb ρ i).mut=true
 ·rw [if_pos h,Qaeq h]
 ·rw [if_neg h,exS,if_neg h]
theorem Qr {f:Nat} {rs:List PV}:Qlf cf f rs ρ=if Qs rs=true then Qy cf f rs ρ (Qt ρ rs) else .no:=by
 by_cases h:Qs rs=true
 ·rw [if_pos h,Q45 h]
 ·rw [if_neg h];unfold Qlf;rw [if_neg h]
noncomputable def Qby (r:PV) (ρ:En):SO:=.rt r ρ
theorem Qax {e:E}:exS cf (.ret e) ρ=ofO (evE cf e ρ) Qby:=by rw [exS];rfl
noncomputable def yIf (cf:CF) (a b:S):Bool→En→SO
 | true,ρ=>exS cf a ρ
 | false,ρ=>exS cf b ρ
theorem Qbf {c:E} {a b:S}:exS cf (.ite c a b) ρ=ofO (Qay (evE cf c ρ)) (yIf cf a b):=by rw [exS];congr 1;funext k ρ1;cases k <;> rfl
noncomputable def Qjv (cf:CF) (tg:Tg) (b:S):List T×Option Nat→En→SO
 | (ts,none),ρ=>Qc0 tg (exS cf b) ts ρ
 | (_,some _),_=>.no
theorem Qfz {w:W} {tg:Tg} {b:S}:exS cf (.for_ w tg b) ρ=Qpg (ofO (evW cf w ρ) (Qjv cf tg b)):=by
 rw [exS]
 congr 2;funext its ρ1
 obtain ⟨ts,lk⟩:=its
 cases lk <;> rfl
noncomputable def Qas (r:PV):Option (List T)→FR
 | some fin=>.ok r fin
 | none=>.no
noncomputable def Qau (o:Option (List T)):Option PV→FR
 | some r=>Qas r o
 | none=>.no
noncomputable def Qbr (as:List Arg):SO→FR
 | .nx ρ=>Qas (.fz .non) (Q2 as ρ)
 | .rt r ρ=>Qau (Q2 as ρ) (Qar ρ r)
 | .xn x ρ=>match Q2 as ρ with
  | some fin=>.xn x fin
  | none=>.no
 | _=>.no
theorem Qaw {fn:Fn} {as:List Arg} (h:as.length=fn.ps):Qbg cf fn as=Qbr as (exS cf fn.body (Qfk fn as)):=by
 unfold Qbg
 rw [if_pos h]
 cases exS cf fn.body (Qfk fn as) with
 | nx ρ=>show (match Q2 as ρ with | some fin=>FR.ok (.fz .non) fin | none=>.no)=Qas _ (Q2 as ρ);cases Q2 as ρ <;> rfl
 | rt r ρ =>
  show (match Qar ρ r,Q2 as ρ with | some r,some fin=>FR.ok r fin | _,_=>.no)=Qau (Q2 as ρ) (Qar ρ r)
  cases Qar ρ r <;> cases Q2 as ρ <;> rfl
 | xn x ρ=>rfl
 | bk ρ=>rfl
 | ct ρ=>rfl
 | no=>rfl
section
variable {b:Bool} {i:Int} {x:Str} {ts:List T}
theorem Qnp:Qmz "tuple" = true:=rfl
theorem Q47:Qmz "list" = true:=rfl
theorem Qgf:Qmq (tyT (.tup ts)) "tuple" = true:=rfl
theorem Qsu:Qmq (tyT (.lst ts)) "list" = true:=rfl
end
theorem Quq {as:List Arg} {ρ:En}:Qbr as (.nx ρ)=Qas (.fz .non) (Q2 as ρ):=rfl
theorem Qaf {as:List Arg} {ρ:En} {r:PV}:Qbr as (.rt r ρ)=Qau (Q2 as ρ) (Qar ρ r):=rfl
theorem Qdg {ρ:En}:Qpg (.nx ρ)=.nx ρ:=rfl
theorem Q48 {ρ:En} {r:PV}:Qpg (.rt r ρ)=.rt r ρ:=rfl
theorem Qsv {α:Type} (g:α→Bool):∀ (xs:List α),Qhb (xs.map fun x=>T.bl (g x))=some (xs.map g)
 | []=>rfl
 | x::xs=>by
  rw [map_cons,map_cons]
  unfold Qhb
  rw [Qsv g xs]
  rfl
theorem Qp2 (n:Nat) (xs:List Int):Qq (n+1) (.tup (xs.map T.int))=true:=by
 rw [Qq,all_eq_true]
 intro t ht
 obtain ⟨i,_,rfl⟩:=mem_map.mp ht
 simp [Qq]
theorem Qsw:∀ (xs ys:List Int),eqL (xs.map T.int) (ys.map T.int)=decide (xs=ys)
 | [],[]=>by rw [map_nil,Qji];rfl
 | [],y::ys=>by rw [Qhy (by simp)];simp
 | x::xs,[]=>by rw [Qhy (by simp)];simp
 | x::xs,y::ys=>by
  rw [map_cons,map_cons,Qfq,Qsw xs ys,eqT]
  by_cases h:x=y
  ·subst h;simp
  ·simp [h]
theorem Q49 {xs ys:List Int}:eqO (.tup (xs.map T.int)) (.tup (ys.map T.int))=some (decide (xs=ys)):=by
 show (if _ then _ else _)=_
 rw [if_pos ⟨Qp2 49 xs,Qp2 49 ys⟩,eqT,Qsw]
theorem Q5a {a:T} {l:List T}:atI (a::l) 0=some a:=by
 have:atI (a::l) ((0:Nat):Int)=some a:=Qhw rfl
 exact this
theorem at_1 {a b:T} {l:List T}:atI (a::b::l) 1=some b:=by
 have:atI (a::b::l) ((1:Nat):Int)=some b:=Qhw rfl
 exact this
theorem Q7f {n:Nat}:ixN (n+1) 0=some 0:=by
 unfold ixN
 rw [if_pos (by omega),if_pos (by omega)]
 rfl
inductive All2 (F:T→T→Prop):List T→List T→Prop where
 | nil:All2 F [] []
 | cons {x y xs ys}:F x y→All2 F xs ys→All2 F (x::xs) (y::ys)
inductive Ran (F:T→T→Prop):List T→List T→Prop where
 | nil:Ran F [] []
 | skip {x xs ys}:Ran F xs ys→Ran F (x::xs) ys
 | take {x y xs ys}:F x y→Ran F xs ys→Ran F (x::xs) (y::ys)
variable {cf:CF} {P:T→Prop} {F:T→T→Prop} {rest:T→En}
theorem Qks {el:En→Out PV}:∀ {xs acc:List T} {s0:Slot} {q:T},Qcu s0=true→P q→(∀ x∈xs,∀ q,P q→∃ r y q',el (.fz x::rest q)=.ok r (.fz x::rest q')∧frz r=some y∧P q'∧F x y)→acc.length+xs.length≤100000 →
  ∃ s ys q',Qdf (.nm 0) (evC cf .nil) el xs acc (s0::rest q)=.ok (acc++ys) (s::rest q')∧Qcu s=true∧P q'∧All2 F xs ys
 | [],acc,s0,q,h0,hp,he,hz=>⟨s0,[],q,by unfold Qdf;simp,h0,hp,.nil⟩
 | x::xs,acc,s0,q,h0,hp,he,hz=>by
  rw [length_cons] at hz
  obtain ⟨r,y,q1,er,fr,p1,f1⟩:=he x mem_cons_self q hp
  obtain ⟨s,ys,q2,e2,o,p2,f2⟩:=Qks (el:=el) (xs:=xs) (acc:=acc++[y]) (s0:=.fz x) (q:=q1) rfl p1 (fun z hz=>he z (mem_cons_of_mem _ hz)) (by rw [length_append,length_singleton];omega)
  refine ⟨s,y::ys,q2,?_,o,p2,.cons f1 f2⟩
  unfold Qdf
  rw [Qsm h0]
  have ec:evC cf .nil (.fz x::rest q)=.ok true (.fz x::rest q):=by rw [evC]
  simp only [ec,Out.bind,if_true,er,fr]
  have za:acc.length<100000:=by omega
  rw [if_pos za,e2,append_assoc,List.singleton_append]
theorem Qaay {w:W} {js:List (Option Nat)} {e:E} {ρ:En} {ρ':T→En} {xs:List T} {q:T} (hq:P q) (hw:evW cf w ρ=.ok (xs,none) ρ) (hcap:Qcp js ρ=.un::rest q) (hk:∀ s q',Qec (.un::rest q) (s::rest q')=true) (hap:Qbx js=true) (hb:∀ s q',Qcu s=true→Qjm js (s::rest q') ρ=ρ' q')
  (he:∀ x∈xs,∀ q,P q→∃ r y q',evE cf e (.fz x::rest q)=.ok r (.fz x::rest q')∧frz r=some y∧P q'∧F x y) (hz:xs.length≤100000) :
  ∃ ys q',evE cf (.comp w js (.nm 0) .nil e) ρ=.ok (.ow (.lst ys)) (ρ' q')∧P q'∧All2 F xs ys:=by
 obtain ⟨s,ys,q',e1,o,p1,f1⟩:=Qks (cf:=cf) (el:=evE cf e) (rest:=rest) (P:=P) (F:=F) (xs:=xs) (acc:=[]) (s0:=.un) (q:=q) rfl hq he (by simpa using hz)
 refine ⟨ys,q',?_,p1,f1⟩
 unfold evE
 rw [hw]
 simp only [Out.bind,hcap,e1]
 rw [if_pos ⟨hk s q',hap⟩,hb s q' o]
 rfl
theorem Qaes {e:E} {ρ:En}:evC cf (.cons e .nil) ρ=Qay (evE cf e ρ):=by rw [evC]
theorem rngI {j:Int} {ρ:En} (h0:0≤j) (h:j≤100000):Qsr (.fz (.int j)) ρ=.ok (Qag 0 j.toNat,none) ρ:=by
 show (if j.natAbs≤100000 then _ else _)=_
 rw [if_pos (by omega)]
theorem Qiz {n:Nat} {ρ:En} (h:n≤100000):Qsr (.fz (.int (n:Int))) ρ=.ok (Qag 0 n,none) ρ:=by
 rw [rngI (by omega) (by omega),Int.toNat_natCast]
theorem Qjw {α:Type} {xs:List α}:Qhb (xs.map fun _=>T.bl true)=some (xs.map fun _=>true):=Qsv (fun _=>true) xs
theorem Qnq {α:Type} {xs:List α}:(xs.map fun _=>true).all id=true:=by rw [all_eq_true];intro b hb;obtain ⟨_,_,rfl⟩:=mem_map.mp hb;rfl
theorem Qbl {i j:Int}:eqO (.int i) (.int j)=some (decide (i=j)):=rfl
theorem Qaaz {i j:Bool}:eqO (.bl i) (.bl j)=some (decide (i=j)):=rfl
end L2
namespace L2
variable {i j:Int} {a b:List T} {x y:T} {lo hi:Option Int} {c:Bool}
theorem uo1:opB .add (.int i) (.int j)=some (.fz (.int (i+j))):=rfl
theorem uo4:opB .sub (.int i) (.int j)=some (.fz (.int (i-j))):=rfl
theorem uo5:opB .mul (.int i) (.int j)=if Qbu i j=true then some (.fz (.int (i*j))) else none:=rfl
theorem uo7:opB .fdv (.int i) (.int j)=if 0<j∧j.natAbs<2^64 then some (.fz (.int (i / j))) else if j≠0∧j.natAbs.log2<9000 then some (.fz (.int (i.fdiv j))) else none:=rfl
theorem uo8:opB .mod (.int i) (.int j)=if 0<j then some (.fz (.int (i%j))) else if j<0 then some (.fz (.int (i.fmod j))) else none:=rfl
theorem uo9:opB .pow (.int i) (.int j)=if 0≤j∧j.natAbs≤1000000∧i.natAbs<2^64 then some (.fz (.int (i^j.toNat))) else none:=rfl
theorem uc1:opC .eq x y=eqO x y:=rfl
theorem uc2:opC .ne x y=(eqO x y).map (!·):=rfl
theorem uc3:opC .lt (.int i) (.int j)=some (decide (i<j)):=rfl
theorem uc4:opC .le (.int i) (.int j)=some (decide (i≤j)):=rfl
theorem uc5:opC .gt (.int i) (.int j)=some (decide (j<i)):=rfl
theorem uc6:opC .ge (.int i) (.int j)=some (decide (j≤i)):=rfl
theorem uc7:opC .isn x .non=some (Qew x):=rfl
theorem uc8:opC .isnn x .non=some (!Qew x):=rfl
theorem ui1:Q0c (.lst a) (.int i)=atI a i:=rfl
theorem ui2:Q0c (.tup a) (.int i)=atI a i:=rfl
theorem ui4:Q35 (.tup a) lo hi=some (.fz (.tup (Qel a lo hi))):=rfl
theorem ub1:Qg6 .len [.lst a]=some (.fz (.int a.length)):=rfl
theorem ub2:Qg6 .len [.tup a]=some (.fz (.int a.length)):=rfl
theorem ub3:Qg6 .all [.lst a]=(Qhb a).map fun bs=>.fz (.bl (bs.all id)):=rfl
theorem ub4:Qg6 .any [.lst a]=(Qhb a).map fun bs=>.fz (.bl (bs.any id)):=rfl
theorem ub5:Qg6 .sum [.lst a]=(Qf9 a).map fun is=>.fz (.int is.sum):=rfl
theorem ub6:Qg6 .max [.int i,.int j]=some (.fz (.int (if j>i then j else i))):=rfl
theorem ub7:Qg6 .dvm [.int i,.int j]=if 0<j∧j.natAbs<2^64 then some (.fz (.tup [.int (i / j),.int (i%j)])) else none:=rfl
theorem ub8:Qg6 .int [.bl c]=some (.fz (.int (if c then 1 else 0))):=rfl
theorem ub9:Qg6 .tup [.lst a]=some (.fz (.tup a)):=rfl
section
variable {cf:CF} {ρ:En}
end
section
variable {cf:CF} {ρ ρ1 ρ2:En}
theorem intL_mp:∀ (xs:List Int),Qf9 (xs.map T.int)=some xs
 | []=>rfl
 | x::xs=>by
  show (match Qf9 (xs.map T.int) with | some is=>some (x::is) | none=>none)=_
  rw [intL_mp xs]
theorem Qwp {c:En→Out Bool} {b:En→SO} {Z:En→Prop} (J:Nat→En→Prop) (h:∀ i ρ,J i ρ→(∃ ρ1,c ρ=.ok false ρ1∧Z ρ1)∨(∃ i' ρ1 ρ2,i=i'+1∧c ρ=.ok true ρ1∧b ρ1=.nx ρ2∧J i' ρ2)) :
  ∀ (i fuel:Nat) (ρ:En),i<fuel→J i ρ→∃ ρ',Qkn c b fuel ρ=.nx ρ'∧Z ρ'
 | i,0,ρ,hf,_=>absurd hf (Nat.not_lt_zero _)
 | i,fuel+1,ρ,hf,hj=>by
  rcases h i ρ hj with ⟨ρ1,e,z⟩ | ⟨i',ρ1,ρ2,rfl,e1,e2,j⟩
  ·refine ⟨ρ1,?_,z⟩
   unfold Qkn
   rw [e]
   rfl
  ·obtain ⟨ρ',e3,z⟩:=Qwp J h i' fuel ρ2 (by omega) j
   refine ⟨ρ',?_,z⟩
   unfold Qkn
   rw [e1]
   show (match b ρ1 with | .nx ρ2=>Qkn c b fuel ρ2 | .ct ρ2=>Qkn c b fuel ρ2 | .bk ρ2=>.nx ρ2 | o=>o)=_
   rw [e2]
   exact e3
end
section
variable {fA f0:En→SO} {fc:En→Out Bool} {fV f1 f2:En→Out PV} {iF iR iH iW iS iT iN:Nat} {Ms:List (List (List Int))} {R M:List (List Int)} {is:List Int} {ρ ρ1 ρ2 ρ3:En}
end
noncomputable def Qwq (K:PySem.W.Frag):Bool:=match K.getLast? with
 | some (_,o)=>(match o.data with
  | .fields a=>a.size != 2
  | _=>true)
 | none=>true
theorem Qaet {K:PySem.W.Frag} (h:Qwq K=true) (a:PySem.Addr) (q:PySem.Str):¬ Qy3 K a q:=fun zz1=>by
 obtain ⟨b,t,e⟩:=zz1
 unfold Qwq at h
 rw [e] at h
 cases h
section
variable {cf:CF} {ρ ρ1 ρ2:En}
end
end L2
namespace L2
open PySem PySem.Spec PyProof.Rows
noncomputable abbrev Q7g (p:Pr) (K:PySem.W.Frag) (ic:Nat) (hi:Int) (body:S):TS:=Q23 (Qzc (Q08 K hi) (Qe5 ic) (tS p body)) (Q77 (tC (.bl true)))
theorem Q5b {p:Pr} {K:PySem.W.Frag} {H:Hp} {vs:List V} {Q:VK} {E:XK} {N:List PySem.Str} {ic:Nat} {hi:Int} {body:S} (h:Quj K vs H Q E) (hN:1≤N.length) (hic:ic<N.length)
  (hb:∀ m:Int,∃ ρ',exS p.cf body ((uns N.length).set ic (.fz (.int m)))=.nx ρ'∧ρ'.length=N.length):Q7g p K ic hi body { nx:=fun _ H'=>Q .non H',rt:=Q } (Qcr N vs) H:=by
 obtain ⟨a,ns,rfl,hs,hns,q⟩:=h
 have hl:(Qcr N [.ref a]).length=N.length:=by unfold Qcr;simp only [length_append,length_map,length_replicate,length_cons,length_nil];omega
 exact Q09 (Qpn rfl) hs hns hl hic hb fun σ' H'=>q H'
section
variable {cf:CF} {ρ:En} {x:Xn} {α β:Type}
end
section
variable {X:Cx} {p:Pr} {a:Expr} {a':E} {pos p1 p2:Pos}
end
end L2
set_option maxHeartbeats 4000000
namespace My
open PySem L2
noncomputable def top (i:Nat):Stmt:=PySem.Challenge.pw_noughtways_k08_whole_products_hold_toget.main.body.getD i (.Pass ⟨0,0,0,0⟩)
theorem Qfl {x:Str} {st:Stmt} {p0:Str} (h:∀ (kV doc pm:Value) (an:Option Addr) (cdv ct:Value) (a0:Value),bindArgs (PySem.W.fnOf x x (Qek st) (Qbq st) (Qg st) .none kV doc pm an cdv ct) ⟨[a0],[]⟩=pure [(p0,a0)]):Q5 x st [p0]:=fun a b c d e f us hl=>match us,hl with | [a0],_=>h a b c d e f a0
theorem Qf0 {x:Str} {st:Stmt} {p0 p1:Str} (h:∀ (kV doc pm:Value) (an:Option Addr) (cdv ct:Value) (a0 a1:Value),bindArgs (PySem.W.fnOf x x (Qek st) (Qbq st) (Qg st) .none kV doc pm an cdv ct) ⟨[a0,a1],[]⟩=pure [(p0,a0),(p1,a1)]):Q5 x st [p0,p1]:=fun a b c d e f us hl=>match us,hl with | [a0,a1],_=>h a b c d e f a0 a1
theorem bdN3 {x:Str} {st:Stmt} {p0 p1 p2:Str} (h:∀ (kV doc pm:Value) (an:Option Addr) (cdv ct:Value) (a0 a1 a2:Value),bindArgs (PySem.W.fnOf x x (Qek st) (Qbq st) (Qg st) .none kV doc pm an cdv ct) ⟨[a0,a1,a2],[]⟩=pure [(p0,a0),(p1,a1),(p2,a2)]):Q5 x st [p0,p1,p2]:=fun a b c d e f us hl=>match us,hl with | [a0,a1,a2],_=>h a b c d e f a0 a1 a2
noncomputable abbrev Qgg:Stmt:=top 9
theorem Qsx:FnScope ["thing"] ["thing"] (Qg Qgg):=⟨rfl,rfl,rfl,by decide +kernel,rfl,by decide +kernel,by decide +kernel⟩
theorem Qsy:Q5 "is_whole" Qgg ["thing"]:=Qfl fun _ _ _ _ _ _ _=>rfl
noncomputable abbrev Qjx:Stmt:=top 10
theorem Qyh:FnScope ["thing","size"] ["thing","size"] (Qg Qjx):=⟨rfl,rfl,rfl,by decide +kernel,rfl,by decide +kernel,by decide +kernel⟩
theorem Qyi:Q5 "is_row" Qjx ["thing","size"]:=Qf0 fun _ _ _ _ _ _ _ _=>rfl
noncomputable abbrev Qh2:Stmt:=top 11
theorem Qur:FnScope ["thing"] ["thing"] (Qg Qh2):=⟨rfl,rfl,rfl,by decide +kernel,rfl,by decide +kernel,by decide +kernel⟩
theorem Qus:Q5 "is_grid" Qh2 ["thing"]:=Qfl fun _ _ _ _ _ _ _=>rfl
noncomputable abbrev Qen:Stmt:=top 12
theorem Qfm:FnScope ["grid","numbers","row"] ["grid"] (Qg Qen):=⟨rfl,rfl,rfl,by decide +kernel,rfl,by decide +kernel,by decide +kernel⟩
theorem Qos:Q5 "numbers_of" Qen ["grid"]:=Qfl fun _ _ _ _ _ _ _=>rfl
noncomputable abbrev Qeo:Stmt:=top 13
theorem Qot:FnScope ["grid"] ["grid"] (Qg Qeo):=⟨rfl,rfl,rfl,by decide +kernel,rfl,by decide +kernel,by decide +kernel⟩
theorem Qou:Q5 "is_bounded" Qeo ["grid"]:=Qfl fun _ _ _ _ _ _ _=>rfl
noncomputable abbrev Qgh:Stmt:=top 14
theorem Qlp:FnScope ["thing","bounded","at"] ["thing","bounded"] (Qg Qgh):=⟨rfl,rfl,rfl,by decide +kernel,rfl,by decide +kernel,by decide +kernel⟩
theorem Qsz:Q5 "wrong_at" Qgh ["thing","bounded"]:=Qf0 fun _ _ _ _ _ _ _ _=>rfl
noncomputable abbrev Qgi:Stmt:=top 15
theorem Qs0:FnScope ["thing","many"] ["thing","many"] (Qg Qgi):=⟨rfl,rfl,rfl,by decide +kernel,rfl,by decide +kernel,by decide +kernel⟩
theorem Qs1:Q5 "is_place" Qgi ["thing","many"]:=Qf0 fun _ _ _ _ _ _ _ _=>rfl
noncomputable abbrev Qep:Stmt:=top 16
theorem Qov:FnScope ["thing","many"] ["thing","many"] (Qg Qep):=⟨rfl,rfl,rfl,by decide +kernel,rfl,by decide +kernel,by decide +kernel⟩
theorem Qow:Q5 "are_places" Qep ["thing","many"]:=Qf0 fun _ _ _ _ _ _ _ _=>rfl
noncomputable abbrev Qjy:Stmt:=top 17
theorem Qyj:FnScope ["thing","many"] ["thing","many"] (Qg Qjy):=⟨rfl,rfl,rfl,by decide +kernel,rfl,by decide +kernel,by decide +kernel⟩
theorem Qyk:Q5 "is_way" Qjy ["thing","many"]:=Qf0 fun _ _ _ _ _ _ _ _=>rfl
noncomputable abbrev Qeq:Stmt:=top 18
theorem Qox:FnScope ["thing"] ["thing"] (Qg Qeq):=⟨rfl,rfl,rfl,by decide +kernel,rfl,by decide +kernel,by decide +kernel⟩
theorem Qoy:Q5 "need_table" Qeq ["thing"]:=Qfl fun _ _ _ _ _ _ _=>rfl
noncomputable abbrev Qd7:Stmt:=top 19
theorem Qhh:FnScope ["thing","at"] ["thing"] (Qg Qd7):=⟨rfl,rfl,rfl,by decide +kernel,rfl,by decide +kernel,by decide +kernel⟩
theorem Qnr:Q5 "need_tables" Qd7 ["thing"]:=Qfl fun _ _ _ _ _ _ _=>rfl
noncomputable abbrev Qgj:Stmt:=top 20
theorem Qs2:FnScope ["thing","many"] ["thing","many"] (Qg Qgj):=⟨rfl,rfl,rfl,by decide +kernel,rfl,by decide +kernel,by decide +kernel⟩
theorem Qs3:Q5 "need_way" Qgj ["thing","many"]:=Qf0 fun _ _ _ _ _ _ _ _=>rfl
noncomputable abbrev Qgk:Stmt:=top 22
theorem Qs4:FnScope ["thing"] ["thing"] (Qg Qgk):=⟨rfl,rfl,rfl,by decide +kernel,rfl,by decide +kernel,by decide +kernel⟩
theorem Qs5:Q5 "is_table" Qgk ["thing"]:=Qfl fun _ _ _ _ _ _ _=>rfl
noncomputable abbrev Qdp:Stmt:=top 23
theorem Qlx:FnScope ["thing"] ["thing"] (Qg Qdp):=⟨rfl,rfl,rfl,by decide +kernel,rfl,by decide +kernel,by decide +kernel⟩
theorem Qly:Q5 "tables_wrong" Qdp ["thing"]:=Qfl fun _ _ _ _ _ _ _=>rfl
noncomputable abbrev Qfc:Stmt:=top 24
theorem Qqr:FnScope ["table","at"] ["table","at"] (Qg Qfc):=⟨rfl,rfl,rfl,by decide +kernel,rfl,by decide +kernel,by decide +kernel⟩
theorem Qqs:Q5 "column_at" Qfc ["table","at"]:=Qf0 fun _ _ _ _ _ _ _ _=>rfl
noncomputable abbrev Qer:Stmt:=top 25
theorem Qoz:FnScope ["table"] ["table"] (Qg Qer):=⟨rfl,rfl,rfl,by decide +kernel,rfl,by decide +kernel,by decide +kernel⟩
theorem Qo0:Q5 "columns_of" Qer ["table"]:=Qfl fun _ _ _ _ _ _ _=>rfl
noncomputable abbrev Qcc:Stmt:=top 26
theorem Qii:FnScope ["row","column"] ["row","column"] (Qg Qcc):=⟨rfl,rfl,rfl,by decide +kernel,rfl,by decide +kernel,by decide +kernel⟩
theorem Qij:Q5 "row_times_column" Qcc ["row","column"]:=Qf0 fun _ _ _ _ _ _ _ _=>rfl
noncomputable abbrev Qb2:Stmt:=top 27
theorem Qhi:FnScope ["row","columns"] ["row","columns"] (Qg Qb2):=⟨rfl,rfl,rfl,by decide +kernel,rfl,by decide +kernel,by decide +kernel⟩
theorem Qhj:Q5 "row_times_columns" Qb2 ["row","columns"]:=Qf0 fun _ _ _ _ _ _ _ _=>rfl
noncomputable abbrev Ql5:Stmt:=top 28
theorem Qs6:FnScope ["one","other","columns"] ["one","other"] (Qg Ql5):=⟨rfl,rfl,rfl,by decide +kernel,rfl,by decide +kernel,by decide +kernel⟩
theorem Q1c:Q5 "times" Ql5 ["one","other"]:=Qf0 fun _ _ _ _ _ _ _ _=>rfl
noncomputable abbrev Qh3:Stmt:=top 29
theorem Qut:FnScope ["one","other"] ["one","other"] (Qg Qh3):=⟨rfl,rfl,rfl,by decide +kernel,rfl,by decide +kernel,by decide +kernel⟩
theorem Quu:Q5 "product" Qh3 ["one","other"]:=Qf0 fun _ _ _ _ _ _ _ _=>rfl
noncomputable abbrev Ql6:Stmt:=top 30
theorem Qjz:FnScope ["tables","way","told","place"] ["tables","way"] (Qg Ql6):=⟨rfl,rfl,rfl,by decide +kernel,rfl,by decide +kernel,by decide +kernel⟩
theorem Q1d:Q5 "along" Ql6 ["tables","way"]:=Qf0 fun _ _ _ _ _ _ _ _=>rfl
noncomputable abbrev Qfd:Stmt:=top 31
theorem Qqt:FnScope ["table"] ["table"] (Qg Qfd):=⟨rfl,rfl,rfl,by decide +kernel,rfl,by decide +kernel,by decide +kernel⟩
theorem Qqu:Q5 "is_nought" Qfd ["table"]:=Qfl fun _ _ _ _ _ _ _=>rfl
noncomputable abbrev Qj0:Stmt:=top 32
theorem Qyl:FnScope ["table"] ["table"] (Qg Qj0):=⟨rfl,rfl,rfl,by decide +kernel,rfl,by decide +kernel,by decide +kernel⟩
theorem Qym:Q5 "turned" Qj0 ["table"]:=Qfl fun _ _ _ _ _ _ _=>rfl
noncomputable abbrev Qc1:Stmt:=top 34
theorem Qcm:FnScope ["one","other","rest"] ["one","other"] (Qg Qc1):=⟨rfl,rfl,rfl,by decide +kernel,rfl,by decide +kernel,by decide +kernel⟩
theorem Qj1:Q5 "shared_divisor" Qc1 ["one","other"]:=Qf0 fun _ _ _ _ _ _ _ _=>rfl
noncomputable abbrev Qh4:Stmt:=top 35
theorem Qns:FnScope ["row","at"] ["row"] (Qg Qh4):=⟨rfl,rfl,rfl,by decide +kernel,rfl,by decide +kernel,by decide +kernel⟩
theorem Quv:Q5 "lead_of" Qh4 ["row"]:=Qfl fun _ _ _ _ _ _ _=>rfl
noncomputable abbrev Qh5:Stmt:=top 36
theorem Qdw:FnScope ["row","lead","divisor","number"] ["row"] (Qg Qh5):=⟨rfl,rfl,rfl,by decide +kernel,rfl,by decide +kernel,by decide +kernel⟩
theorem Quw:Q5 "line_of" Qh5 ["row"]:=Qfl fun _ _ _ _ _ _ _=>rfl
noncomputable abbrev Qfe:Stmt:=top 37
theorem Qqv:FnScope ["size","at"] ["size","at"] (Qg Qfe):=⟨rfl,rfl,rfl,by decide +kernel,rfl,by decide +kernel,by decide +kernel⟩
theorem Qqw:Q5 "unit_line" Qfe ["size","at"]:=Qf0 fun _ _ _ _ _ _ _ _=>rfl
noncomputable abbrev Qh6:Stmt:=top 38
theorem Qnt:FnScope ["row","step","lead"] ["row","step"] (Qg Qh6):=⟨rfl,rfl,rfl,by decide +kernel,rfl,by decide +kernel,by decide +kernel⟩
theorem Qux:Q5 "cleared" Qh6 ["row","step"]:=Qf0 fun _ _ _ _ _ _ _ _=>rfl
noncomputable abbrev Qh7:Stmt:=top 39
theorem Qi0:FnScope ["row","steps","step"] ["row","steps"] (Qg Qh7):=⟨rfl,rfl,rfl,by decide +kernel,rfl,by decide +kernel,by decide +kernel⟩
theorem Quy:Q5 "left_of" Qh7 ["row","steps"]:=Qf0 fun _ _ _ _ _ _ _ _=>rfl
noncomputable abbrev Qgl:Stmt:=top 40
theorem Qff:FnScope ["rows","steps","row","line"] ["rows"] (Qg Qgl):=⟨rfl,rfl,rfl,by decide +kernel,rfl,by decide +kernel,by decide +kernel⟩
theorem Qs7:Q5 "steps_of" Qgl ["rows"]:=Qfl fun _ _ _ _ _ _ _=>rfl
noncomputable abbrev Qqx:Stmt:=top 41
theorem Q5c:FnScope ["table"] ["table"] (Qg Qqx):=⟨rfl,rfl,rfl,by decide +kernel,rfl,by decide +kernel,by decide +kernel⟩
theorem Q5d:Q5 "rank" Qqx ["table"]:=Qfl fun _ _ _ _ _ _ _=>rfl
noncomputable abbrev Qc2:Stmt:=top 42
theorem Qj2:FnScope ["rows","at"] ["rows","at"] (Qg Qc2):=⟨rfl,rfl,rfl,by decide +kernel,rfl,by decide +kernel,by decide +kernel⟩
theorem Qj3:Q5 "without_column" Qc2 ["rows","at"]:=Qf0 fun _ _ _ _ _ _ _ _=>rfl
noncomputable abbrev Qc3:Stmt:=top 43
theorem Qbi:FnScope ["rows","told","sign","at"] ["rows"] (Qg Qc3):=⟨rfl,rfl,rfl,by decide +kernel,rfl,by decide +kernel,by decide +kernel⟩
theorem Qj4:Q5 "determinant_of" Qc3 ["rows"]:=Qfl fun _ _ _ _ _ _ _=>rfl
noncomputable abbrev Qd8:Stmt:=top 44
theorem Qnu:FnScope ["table"] ["table"] (Qg Qd8):=⟨rfl,rfl,rfl,by decide +kernel,rfl,by decide +kernel,by decide +kernel⟩
theorem Qnv:Q5 "determinant" Qd8 ["table"]:=Qfl fun _ _ _ _ _ _ _=>rfl
noncomputable abbrev Qh8:Stmt:=top 45
theorem Qdx:FnScope ["steps","size","at","numbers","step","lead","known"] ["steps","size","at"] (Qg Qh8):=⟨rfl,rfl,rfl,by decide +kernel,rfl,by decide +kernel,by decide +kernel⟩
theorem Quz:Q5 "lost_at" Qh8 ["steps","size","at"]:=bdN3 fun _ _ _ _ _ _ _ _ _=>rfl
noncomputable abbrev Qqy:Stmt:=top 46
theorem Ql7:FnScope ["table","size","steps","leads"] ["table"] (Qg Qqy):=⟨rfl,rfl,rfl,by decide +kernel,rfl,by decide +kernel,by decide +kernel⟩
theorem Q5e:Q5 "lost" Qqy ["table"]:=Qfl fun _ _ _ _ _ _ _=>rfl
noncomputable abbrev Qez:Stmt:=top 48
theorem Qs8:FnScope ["_law_script","_law_k"] ["_law_script","_law_k"] (Qg Qez):=⟨rfl,rfl,rfl,by decide +kernel,rfl,by decide +kernel,by decide +kernel⟩
theorem Qs9:Q5 "_law_cell" Qez ["_law_script","_law_k"]:=Qf0 fun _ _ _ _ _ _ _ _=>rfl
noncomputable abbrev Qh9:Stmt:=top 49
theorem Qnw:FnScope ["_law_cell_here","_law_left"] ["_law_cell_here"] (Qg Qh9):=⟨rfl,rfl,rfl,by decide +kernel,rfl,by decide +kernel,by decide +kernel⟩
theorem Qu0:Q5 "_law_pen" Qh9 ["_law_cell_here"]:=Qfl fun _ _ _ _ _ _ _=>rfl
noncomputable abbrev Qgm:Stmt:=top 50
theorem Qed:FnScope ["_law_pen_here","_law_many","_law_left","_law_found","_law_stir"] ["_law_pen_here","_law_many"] (Qg Qgm):=⟨rfl,rfl,rfl,by decide +kernel,rfl,by decide +kernel,by decide +kernel⟩
theorem Qta:Q5 "_law_draw" Qgm ["_law_pen_here","_law_many"]:=Qf0 fun _ _ _ _ _ _ _ _=>rfl
noncomputable abbrev Qfg:Stmt:=top 51
theorem Qbv:FnScope ["_law_pen_here","_law_size","_law_way","_law_rows","_law_row","_law_numbers","_law_column","_law_number"] ["_law_pen_here","_law_size","_law_way"] (Qg Qfg):=⟨rfl,rfl,rfl,by decide +kernel,rfl,by decide +kernel,by decide +kernel⟩
theorem Qqz:Q5 "_law_table" Qfg ["_law_pen_here","_law_size","_law_way"]:=bdN3 fun _ _ _ _ _ _ _ _ _=>rfl
noncomputable abbrev Qc4:Stmt:=top 52
theorem Qfh:FnScope ["_law_one","_law_other","_law_both"] ["_law_one","_law_other"] (Qg Qc4):=⟨rfl,rfl,rfl,by decide +kernel,rfl,by decide +kernel,by decide +kernel⟩
theorem Qj5:Q5 "_law_pair_right" Qc4 ["_law_one","_law_other"]:=Qf0 fun _ _ _ _ _ _ _ _=>rfl
noncomputable abbrev Qc5:Stmt:=top 53
theorem Qcn:FnScope ["_law_table_here","_law_lines","_law_line","_law_led_here"] ["_law_table_here"] (Qg Qc5):=⟨rfl,rfl,rfl,by decide +kernel,rfl,by decide +kernel,by decide +kernel⟩
theorem Qj6:Q5 "_law_lost_right" Qc5 ["_law_table_here"]:=Qfl fun _ _ _ _ _ _ _=>rfl
noncomputable abbrev Qlq:Stmt:=top 54
theorem Qeg:FnScope ["_law_script","_law_cell_here","_law_pen_here","_law_size","_law_way","_law_tables","_law_one","_law_other","_law_third","_law_whole","_law_steps","_law_at"] ["_law_script"] (Qg Qlq):=⟨rfl,rfl,rfl,by decide +kernel,rfl,by decide +kernel,by decide +kernel⟩
theorem Qaa0:Q5 "law" Qlq ["_law_script"]:=Qfl fun _ _ _ _ _ _ _=>rfl
theorem Q1e:PySem.bootBuiltins "abs" = some (.builtin "abs"):=by decide +kernel
theorem Qnx:PySem.bootBuiltins "all" = some (.builtin "all"):=by decide +kernel
theorem Qaa1:PySem.bootBuiltins "any" = some (.builtin "any"):=by decide +kernel
theorem Q5f:PySem.bootBuiltins "bool" = some (.type "bool"):=by decide +kernel
theorem Qyn:PySem.bootBuiltins "divmod" = some (.builtin "divmod"):=by decide +kernel
theorem Qu1:PySem.bootBuiltins "int" = some (.type "int"):=by decide +kernel
theorem Qcf:PySem.bootBuiltins "isinstance" = some (.builtin "isinstance"):=by decide +kernel
theorem Qa7:PySem.bootBuiltins "len" = some (.builtin "len"):=by decide +kernel
theorem Qwr:PySem.bootBuiltins "list" = some (.type "list"):=by decide +kernel
theorem Q1f:PySem.bootBuiltins "max" = some (.builtin "max"):=by decide +kernel
theorem Qaa2:PySem.bootBuiltins "min" = some (.builtin "min"):=by decide +kernel
theorem Qyo:PySem.bootBuiltins "sorted" = some (.builtin "sorted"):=by decide +kernel
theorem Q1g:PySem.bootBuiltins "sum" = some (.builtin "sum"):=by decide +kernel
theorem Qbw:PySem.bootBuiltins "tuple" = some (.type "tuple"):=by decide +kernel
structure Txt (K:PySem.W.Frag) (mg:Str→Option Value):Prop where
 n_abs:mg "abs" = none
 n_all:mg "all" = none
 n_any:mg "any" = none
 n_bool:mg "bool" = none
 n_divmod:mg "divmod" = none
 n_int:mg "int" = none
 n_isinstance:mg "isinstance" = none
 n_len:mg "len" = none
 n_list:mg "list" = none
 n_max:mg "max" = none
 n_min:mg "min" = none
 n_range:mg "range" = none
 n_sorted:mg "sorted" = none
 n_sum:mg "sum" = none
 n_tuple:mg "tuple" = none
 m_MOST_PLACES:∃ u,mg "MOST_PLACES" = some u∧RelV (.int (200)) u
 m_MOST_ROWS:∃ u,mg "MOST_ROWS" = some u∧RelV (.int (4)) u
 m_MOST_TABLES:∃ u,mg "MOST_TABLES" = some u∧RelV (.int (4)) u
noncomputable abbrev Qu2:L2.S:=(.ret (.and (.isI (.var 0) "int") (.not (.isI (.var 0) "bool"))))
noncomputable abbrev Qgn:L2.Df:=⟨"is_whole",Qgg,["thing"],["thing"],⟨1,1,Qu2⟩,fun _=>true,fun _=>true⟩
noncomputable abbrev Qny:L2.S:=(.seq (.ite (.or (.not (.isI (.var 0) "tuple")) (.cmp .ne (.bi .len (.cons (.var 0) .nil)) (.var 1))) (.ret (.bl false)) .nil)
 (.ret (.bi .all (.cons (.comp (.seq (.var 0)) [none] (.nm 0) .nil (.call 0 (.cons (.var 0) .nil))) .nil))))
noncomputable abbrev Qnz:L2.Df:=⟨"is_row",Qjx,["thing","size"],["thing","size"],⟨2,2,Qny⟩,fun _=>true,fun _=>true⟩
noncomputable abbrev Qkt:L2.S:=(.seq (.ite (.or (.not (.isI (.var 0) "tuple")) (.or (.cmp .lt (.bi .len (.cons (.var 0) .nil)) (.int 1)) (.cmp .gt (.bi .len (.cons (.var 0) .nil)) (.int (4))))) (.ret (.bl false)) .nil)
 (.ret (.bi .all (.cons (.comp (.seq (.var 0)) [none,some 0] (.nm 0) .nil (.call 1 (.cons (.var 0) (.cons (.bi .len (.cons (.var 1) .nil)) .nil)))) .nil))))
noncomputable abbrev Qf1:L2.Df:=⟨"is_grid",Qh2,["thing"],["thing"],⟨1,1,Qkt⟩,fun _=>true,fun _=>true⟩
noncomputable abbrev Qgo:L2.S:=(.seq (.set 1 (.lst .nil))
 (.seq (.for_ (.seq (.var 0)) (.nm 2) (.ext 1 (.var 2)))
 (.ret (.var 1))))
noncomputable abbrev Qes:L2.Df:=⟨"numbers_of",Qen,["grid","numbers","row"],["grid"],⟨1,3,Qgo⟩,fun _=>true,fun _=>true⟩
noncomputable abbrev Qgp:L2.S:=(.ret (.bi .all (.cons (.comp (.seq (.call 3 (.cons (.var 0) .nil))) [none] (.nm 0) .nil (.cmp .lt (.bi .abs (.cons (.var 0) .nil)) (.bin .pow (.int 10) (.int 12)))) .nil)))
noncomputable abbrev Qet:L2.Df:=⟨"is_bounded",Qeo,["grid"],["grid"],⟨1,1,Qgp⟩,fun _=>true,fun _=>true⟩
noncomputable abbrev Qi1:L2.S:=(.seq (.ite (.or (.not (.isI (.var 0) "list")) (.or (.cmp .lt (.bi .len (.cons (.var 0) .nil)) (.int 1)) (.cmp .gt (.bi .len (.cons (.var 0) .nil)) (.int (4))))) (.ret (.neg (.int 1))) .nil)
 (.seq (.for_ (.rng1 (.bi .len (.cons (.var 0) .nil))) (.nm 2) (.seq (.ite (.or (.not (.call 2 (.cons (.ix (.var 0) (.var 2)) .nil))) (.cmp .ne (.bi .len (.cons (.ix (.var 0) (.var 2)) .nil)) (.bi .len (.cons (.ix (.var 0) (.int 0)) .nil)))) (.ret (.var 2)) .nil)
 (.ite (.and (.var 1) (.not (.call 4 (.cons (.ix (.var 0) (.var 2)) .nil)))) (.ret (.var 2)) .nil)))
 (.ret .non)))
noncomputable abbrev Qgq:L2.Df:=⟨"wrong_at",Qgh,["thing","bounded","at"],["thing","bounded"],⟨2,3,Qi1⟩,fun _=>true,fun _=>true⟩
noncomputable abbrev Qi2:L2.S:=(.ret (.and (.call 0 (.cons (.var 0) .nil)) (.and (.cmp .ge (.var 0) (.int 0)) (.cmp .lt (.var 0) (.var 1)))))
noncomputable abbrev Qi3:L2.Df:=⟨"is_place",Qgi,["thing","many"],["thing","many"],⟨2,2,Qi2⟩,fun _=>true,fun _=>true⟩
noncomputable abbrev Qgr:L2.S:=(.ret (.and (.isI (.var 0) "tuple") (.bi .all (.cons (.comp (.seq (.var 0)) [none,some 1] (.nm 0) .nil (.call 6 (.cons (.var 0) (.cons (.var 1) .nil)))) .nil))))
noncomputable abbrev Qgs:L2.Df:=⟨"are_places",Qep,["thing","many"],["thing","many"],⟨2,2,Qgr⟩,fun _=>true,fun _=>true⟩
noncomputable abbrev Qn0:L2.S:=(.ret (.and (.call 7 (.cons (.var 0) (.cons (.var 1) .nil))) (.and (.cmp .ge (.bi .len (.cons (.var 0) .nil)) (.int 1)) (.cmp .le (.bi .len (.cons (.var 0) .nil)) (.int (200))))))
noncomputable abbrev Qn1:L2.Df:=⟨"is_way",Qjy,["thing","many"],["thing","many"],⟨2,2,Qn0⟩,fun _=>true,fun _=>true⟩
noncomputable abbrev Qgt:L2.S:=(.ite (.not (.call 2 (.cons (.var 0) .nil))) .bad .nil)
noncomputable abbrev Qbm:L2.Df:=⟨"need_table",Qeq,["thing"],["thing"],⟨1,1,Qgt⟩,fun _=>true,fun _=>true⟩
noncomputable abbrev Qfn:L2.S:=(.seq (.setF 1 (.call 5 (.cons (.var 0) (.cons (.bl false) .nil))))
 (.ite (.cmp .isnn (.var 1) .non) .bad .nil))
noncomputable abbrev Qfo:L2.Df:=⟨"need_tables",Qd7,["thing","at"],["thing"],⟨1,2,Qfn⟩,fun _=>true,fun _=>true⟩
noncomputable abbrev Qi4:L2.S:=(.ite (.not (.call 8 (.cons (.var 0) (.cons (.var 1) .nil)))) .bad .nil)
noncomputable abbrev Qi5:L2.Df:=⟨"need_way",Qgj,["thing","many"],["thing","many"],⟨2,2,Qi4⟩,fun _=>true,fun _=>true⟩
noncomputable abbrev Qi6:L2.S:=(.ret (.and (.call 2 (.cons (.var 0) .nil)) (.call 4 (.cons (.var 0) .nil))))
noncomputable abbrev Qi7:L2.Df:=⟨"is_table",Qgk,["thing"],["thing"],⟨1,1,Qi6⟩,fun _=>true,fun _=>true⟩
noncomputable abbrev Qe0:L2.S:=(.ret (.call 5 (.cons (.var 0) (.cons (.bl true) .nil))))
noncomputable abbrev Qe1:L2.Df:=⟨"tables_wrong",Qdp,["thing"],["thing"],⟨1,1,Qe0⟩,fun _=>true,fun _=>true⟩
noncomputable abbrev Qhk:L2.S:=(.ret (.bi .tup (.cons (.comp (.seq (.var 0)) [none,some 1] (.nm 0) .nil (.ix (.var 0) (.var 1))) .nil)))
noncomputable abbrev Qhl:L2.Df:=⟨"column_at",Qfc,["table","at"],["table","at"],⟨2,2,Qhk⟩,fun _=>true,fun _=>true⟩
noncomputable abbrev Qgu:L2.S:=(.ret (.bi .tup (.cons (.comp (.rng1 (.bi .len (.cons (.var 0) .nil))) [none,some 0] (.nm 0) .nil (.call 14 (.cons (.var 1) (.cons (.var 0) .nil)))) .nil)))
noncomputable abbrev Qdq:L2.Df:=⟨"columns_of",Qer,["table"],["table"],⟨1,1,Qgu⟩,fun _=>true,fun _=>true⟩
noncomputable abbrev Qbo:L2.S:=(.ret (.bi .sum (.cons (.comp (.rng1 (.bi .len (.cons (.var 0) .nil))) [none,some 0,some 1] (.nm 0) .nil (.bin .mul (.ix (.var 1) (.var 0)) (.ix (.var 2) (.var 0)))) .nil)))
noncomputable abbrev Qcd:L2.Df:=⟨"row_times_column",Qcc,["row","column"],["row","column"],⟨2,2,Qbo⟩,fun _=>true,fun _=>true⟩
noncomputable abbrev Qdd:L2.S:=(.ret (.bi .tup (.cons (.comp (.seq (.var 1)) [none,some 0] (.nm 0) .nil (.call 16 (.cons (.var 1) (.cons (.var 0) .nil)))) .nil)))
noncomputable abbrev Qde:L2.Df:=⟨"row_times_columns",Qb2,["row","columns"],["row","columns"],⟨2,2,Qdd⟩,fun _=>true,fun _=>true⟩
noncomputable abbrev Qq0:L2.S:=(.seq (.setF 2 (.call 15 (.cons (.var 1) .nil)))
 (.ret (.bi .tup (.cons (.comp (.seq (.var 0)) [none,some 2] (.nm 0) .nil (.call 17 (.cons (.var 0) (.cons (.var 1) .nil)))) .nil))))
noncomputable abbrev Ql8:L2.Df:=⟨"times",Ql5,["one","other","columns"],["one","other"],⟨2,3,Qq0⟩,fun _=>true,fun _=>true⟩
noncomputable abbrev Qku:L2.S:=(.seq (.expr (.call 9 (.cons (.var 0) .nil)))
 (.seq (.expr (.call 9 (.cons (.var 1) .nil)))
 (.seq (.ite (.cmp .ne (.bi .len (.cons (.var 0) .nil)) (.bi .len (.cons (.var 1) .nil))) .bad .nil)
 (.ret (.call 18 (.cons (.var 0) (.cons (.var 1) .nil)))))))
noncomputable abbrev Qc6:L2.Df:=⟨"product",Qh3,["one","other"],["one","other"],⟨2,2,Qku⟩,fun _=>true,fun _=>true⟩
noncomputable abbrev Qq1:L2.S:=(.seq (.expr (.call 10 (.cons (.var 0) .nil)))
 (.seq (.expr (.call 11 (.cons (.var 1) (.cons (.bi .len (.cons (.var 0) .nil)) .nil))))
 (.seq (.setF 2 (.ix (.var 0) (.ix (.var 1) (.int 0))))
 (.seq (.for_ (.seq (.slc (.var 1) (.cons (.int 1) .nil) .nil)) (.nm 3) (.setF 2 (.call 18 (.cons (.var 2) (.cons (.ix (.var 0) (.var 3)) .nil)))))
 (.ret (.var 2))))))
noncomputable abbrev Qia:L2.Df:=⟨"along",Ql6,["tables","way","told","place"],["tables","way"],⟨2,4,Qq1⟩,fun _=>true,fun _=>true⟩
noncomputable abbrev Qhm:L2.S:=(.seq (.expr (.call 9 (.cons (.var 0) .nil)))
 (.ret (.not (.bi .any (.cons (.call 3 (.cons (.var 0) .nil)) .nil)))))
noncomputable abbrev Qhn:L2.Df:=⟨"is_nought",Qfd,["table"],["table"],⟨1,1,Qhm⟩,fun _=>true,fun _=>true⟩
noncomputable abbrev Qn2:L2.S:=(.seq (.expr (.call 9 (.cons (.var 0) .nil)))
 (.ret (.call 15 (.cons (.var 0) .nil))))
noncomputable abbrev Qee:L2.Df:=⟨"turned",Qj0,["table"],["table"],⟨1,1,Qn2⟩,fun _=>true,fun _=>true⟩
noncomputable abbrev Qdy:L2.S:=(.seq (.whl (.cmp .ne (.var 1) (.int 0)) (.seq (.setF 2 (.bin .mod (.var 0) (.var 1)))
 (.seq (.setF 0 (.var 1))
 (.setF 1 (.var 2)))))
 (.ret (.bi .abs (.cons (.var 0) .nil))))
noncomputable abbrev Qdz:L2.Df:=⟨"shared_divisor",Qc1,["one","other","rest"],["one","other"],⟨2,3,Qdy⟩,fun _=>true,fun _=>true⟩
noncomputable abbrev Qkv:L2.S:=(.seq (.for_ (.rng1 (.bi .len (.cons (.var 0) .nil))) (.nm 1) (.ite (.cmp .ne (.ix (.var 0) (.var 1)) (.int 0)) (.ret (.var 1)) .nil))
 (.ret .non))
noncomputable abbrev Qd0:L2.Df:=⟨"lead_of",Qh4,["row","at"],["row"],⟨1,2,Qkv⟩,fun _=>true,fun _=>true⟩
noncomputable abbrev Qkw:L2.S:=(.seq (.setF 1 (.call 24 (.cons (.var 0) .nil)))
 (.seq (.ite (.cmp .isn (.var 1) .non) (.ret .non) .nil)
 (.seq (.setF 2 (.int 0))
 (.seq (.for_ (.seq (.var 0)) (.nm 3) (.setF 2 (.call 23 (.cons (.var 2) (.cons (.var 3) .nil)))))
 (.seq (.ite (.cmp .lt (.ix (.var 0) (.var 1)) (.int 0)) (.setF 2 (.neg (.var 2))) .nil)
 (.ret (.bi .tup (.cons (.comp (.seq (.var 0)) [none,some 2] (.nm 0) .nil (.bin .fdv (.var 0) (.var 1))) .nil))))))))
noncomputable abbrev Qf2:L2.Df:=⟨"line_of",Qh5,["row","lead","divisor","number"],["row"],⟨1,4,Qkw⟩,fun _=>true,fun _=>true⟩
noncomputable abbrev Qho:L2.S:=(.ret (.bi .tup (.cons (.comp (.rng1 (.var 0)) [none,some 1] (.nm 0) .nil (.bi .int (.cons (.cmp .eq (.var 0) (.var 1)) .nil))) .nil)))
noncomputable abbrev Qhp:L2.Df:=⟨"unit_line",Qfe,["size","at"],["size","at"],⟨2,2,Qho⟩,fun _=>true,fun _=>true⟩
noncomputable abbrev Qkx:L2.S:=(.seq (.setF 2 (.call 24 (.cons (.var 1) .nil)))
 (.ret (.bi .tup (.cons (.comp (.rng1 (.bi .len (.cons (.var 0) .nil))) [none,some 0,some 1,some 2] (.nm 0) .nil (.bin .sub (.bin .mul (.ix (.var 1) (.var 0)) (.ix (.var 2) (.var 3))) (.bin .mul (.ix (.var 2) (.var 0)) (.ix (.var 1) (.var 3))))) .nil))))
noncomputable abbrev Qky:L2.Df:=⟨"cleared",Qh6,["row","step","lead"],["row","step"],⟨2,3,Qkx⟩,fun _=>true,fun _=>true⟩
noncomputable abbrev Qkz:L2.S:=(.seq (.for_ (.seq (.var 1)) (.nm 2) (.setF 0 (.call 27 (.cons (.var 0) (.cons (.var 2) .nil)))))
 (.ret (.var 0)))
noncomputable abbrev Qk0:L2.Df:=⟨"left_of",Qh7,["row","steps","step"],["row","steps"],⟨2,3,Qkz⟩,fun _=>true,fun _=>true⟩
noncomputable abbrev Qn3:L2.S:=(.seq (.set 1 (.lst .nil))
 (.seq (.for_ (.seq (.var 0)) (.nm 2) (.seq (.look 1 (.setF 3 (.call 25 (.cons (.call 28 (.cons (.var 2) (.cons (.var 1) .nil))) .nil))))
 (.ite (.cmp .isnn (.var 3) .non) (.app 1 (.var 3)) .nil)))
 (.ret (.var 1))))
noncomputable abbrev Qgv:L2.Df:=⟨"steps_of",Qgl,["rows","steps","row","line"],["rows"],⟨1,4,Qn3⟩,fun _=>true,fun _=>true⟩
noncomputable abbrev Qu3:L2.S:=(.seq (.expr (.call 9 (.cons (.var 0) .nil)))
 (.ret (.bi .len (.cons (.call 29 (.cons (.var 0) .nil)) .nil))))
noncomputable abbrev Qgw:L2.Df:=⟨"rank",Qqx,["table"],["table"],⟨1,1,Qu3⟩,fun _=>true,fun _=>true⟩
noncomputable abbrev Qd1:L2.S:=(.ret (.comp (.seq (.var 0)) [none,some 1] (.nm 0) .nil (.bin .add (.slc (.var 0) .nil (.cons (.var 1) .nil)) (.slc (.var 0) (.cons (.bin .add (.var 1) (.int 1)) .nil) .nil))))
noncomputable abbrev Qd2:L2.Df:=⟨"without_column",Qc2,["rows","at"],["rows","at"],⟨2,2,Qd1⟩,fun _=>true,fun _=>true⟩
noncomputable abbrev Qb5:L2.S:=(.seq (.ite (.cmp .eq (.bi .len (.cons (.var 0) .nil)) (.int 0)) (.ret (.int 1)) .nil)
 (.seq (.setF 1 (.int 0))
 (.seq (.setF 2 (.int 1))
 (.seq (.for_ (.rng1 (.bi .len (.cons (.var 0) .nil))) (.nm 3) (.seq (.setF 1 (.bin .add (.var 1) (.bin .mul (.bin .mul (.var 2) (.ix (.ix (.var 0) (.int 0)) (.var 3))) (.call 32 (.cons (.call 31 (.cons (.slc (.var 0) (.cons (.int 1) .nil) .nil) (.cons (.var 3) .nil))) .nil)))))
 (.setF 2 (.neg (.var 2)))))
 (.ret (.var 1))))))
noncomputable abbrev Qc7:L2.Df:=⟨"determinant_of",Qc3,["rows","told","sign","at"],["rows"],⟨1,4,Qb5⟩,fun _=>true,fun _=>true⟩
noncomputable abbrev Qfp:L2.S:=(.seq (.expr (.call 9 (.cons (.var 0) .nil)))
 (.ret (.call 32 (.cons (.var 0) .nil))))
noncomputable abbrev Qcg:L2.Df:=⟨"determinant",Qd8,["table"],["table"],⟨1,1,Qfp⟩,fun _=>true,fun _=>true⟩
noncomputable abbrev Qp3:L2.S:=(.seq (.set 3 (.bi .list (.cons (.call 26 (.cons (.var 1) (.cons (.var 2) .nil))) .nil)))
 (.seq (.for_ (.seq (.srk 24 (.var 0))) (.nm 4) (.seq (.setF 5 (.call 24 (.cons (.var 4) .nil)))
 (.seq (.look 3 (.setF 6 (.call 16 (.cons (.var 4) (.cons (.var 3) .nil)))))
 (.seq (.set 3 (.compS 3 [none,some 4,some 5] (.nm 0) .nil (.bin .mul (.var 0) (.ix (.var 1) (.var 2)))))
 (.put 3 (.var 5) (.neg (.var 6)))))))
 (.ret (.call 25 (.cons (.bi .tup (.cons (.var 3) .nil)) .nil)))))
noncomputable abbrev Qk1:L2.Df:=⟨"lost_at",Qh8,["steps","size","at","numbers","step","lead","known"],["steps","size","at"],⟨3,7,Qp3⟩,fun _=>true,fun _=>true⟩
noncomputable abbrev Qu4:L2.S:=(.seq (.expr (.call 9 (.cons (.var 0) .nil)))
 (.seq (.setF 1 (.bi .len (.cons (.var 0) .nil)))
 (.seq (.setF 2 (.call 29 (.cons (.call 15 (.cons (.var 0) .nil)) .nil)))
 (.seq (.setF 3 (.comp (.seq (.var 2)) [none] (.nm 0) .nil (.call 24 (.cons (.var 0) .nil))))
 (.ret (.comp (.rng1 (.var 1)) [none,some 2,some 1,some 3] (.nm 0) (.cons (.cmp .nin (.var 0) (.var 3)) .nil) (.call 34 (.cons (.var 1) (.cons (.var 2) (.cons (.var 0) .nil))))))))))
noncomputable abbrev Qu5:L2.Df:=⟨"lost",Qqy,["table","size","steps","leads"],["table"],⟨1,4,Qu4⟩,fun _=>true,fun _=>true⟩
noncomputable abbrev Qk2:L2.S:=(.seq (.setF 1 (.bi .max (.cons (.var 0) (.cons (.bin .sub (.int 0) (.var 0)) .nil))))
 (.ret (.lst (.cons (.var 1) (.cons (.bi .int (.cons (.cmp .ge (.var 1) (.bin .pow (.int 10) (.int 18))) .nil)) .nil)))))
noncomputable abbrev Qk3:L2.Df:=⟨"_law_pen",Qh9,["_law_cell_here","_law_left"],["_law_cell_here"],⟨1,2,Qk2⟩,fun _=>true,fun _=>true⟩
noncomputable abbrev Qe2:L2.S:=(.seq (.ite (.cmp .eq (.ix (.var 0) (.int 1)) (.int 1)) (.seq (.unp [2,3] (.bi .dvm (.cons (.ix (.var 0) (.int 0)) (.cons (.var 1) .nil))))
 (.seq (.put 0 (.int 0) (.var 2))
 (.ret (.var 3)))) .nil)
 (.seq (.setF 4 (.bin .mod (.bin .mul (.bin .add (.bin .mod (.ix (.var 0) (.int 0)) (.int 2147483647)) (.int 40503)) (.int 69621)) (.int 2147483629)))
 (.seq (.setF 4 (.bin .mod (.bin .add (.bin .mul (.var 4) (.var 4)) (.int 7817)) (.int 2147483587)))
 (.seq (.put 0 (.int 0) (.bin .mod (.bin .add (.bin .mul (.var 4) (.int 48271)) (.int 11)) (.int 2147483629)))
 (.ret (.bin .mod (.bin .fdv (.ix (.var 0) (.int 0)) (.int 32)) (.var 1)))))))
noncomputable abbrev Qbp:L2.Df:=⟨"_law_draw",Qgm,["_law_pen_here","_law_many","_law_left","_law_found","_law_stir"],["_law_pen_here","_law_many"],⟨2,5,Qe2⟩,fun _=>true,fun _=>true⟩
noncomputable abbrev Qlr:L2.S:=(.seq (.set 3 (.lst .nil))
 (.seq (.for_ (.rng1 (.var 1)) (.nm 4) (.seq (.set 5 (.lst .nil))
 (.seq (.for_ (.rng1 (.var 1)) (.nm 6) (.seq (.setF 7 (.bi .max (.cons (.int 0) (.cons (.bin .sub (.call 37 (.cons (.var 0) (.cons (.int 5) .nil))) (.int 2)) .nil))))
 (.seq (.ite (.cmp .eq (.var 2) (.int 1)) (.setF 7 (.bin .sub (.call 37 (.cons (.var 0) (.cons (.int 5) .nil))) (.int 2))) .nil)
 (.seq (.ite (.cmp .eq (.var 2) (.int 2)) (.setF 7 (.bin .sub (.call 37 (.cons (.var 0) (.cons (.bin .add (.bin .mul (.int 2) (.bin .pow (.int 10) (.int 11))) (.int 1)) .nil))) (.bin .pow (.int 10) (.int 11)))) .nil)
 (.app 5 (.var 7))))))
 (.app 3 (.bi .tup (.cons (.var 5) .nil))))))
 (.ret (.bi .tup (.cons (.var 3) .nil)))))
noncomputable abbrev Qhq:L2.Df:=⟨"_law_table",Qfg,["_law_pen_here","_law_size","_law_way","_law_rows","_law_row","_law_numbers","_law_column","_law_number"],["_law_pen_here","_law_size","_law_way"],⟨3,8,Qlr⟩,fun _=>true,fun _=>true⟩
noncomputable abbrev Qd3:L2.S:=(.seq (.setF 2 (.call 19 (.cons (.var 0) (.cons (.var 1) .nil))))
 (.seq (.ite (.or (.cmp .ne (.call 33 (.cons (.var 2) .nil)) (.bin .mul (.call 33 (.cons (.var 0) .nil)) (.call 33 (.cons (.var 1) .nil)))) (.cmp .gt (.call 30 (.cons (.var 2) .nil)) (.bi .min (.cons (.call 30 (.cons (.var 0) .nil)) (.cons (.call 30 (.cons (.var 1) .nil)) .nil))))) (.ret (.bl false)) .nil)
 (.seq (.ite (.or (.cmp .ne (.call 22 (.cons (.var 2) .nil)) (.call 19 (.cons (.call 22 (.cons (.var 1) .nil)) (.cons (.call 22 (.cons (.var 0) .nil)) .nil)))) (.cmp .ne (.call 30 (.cons (.call 22 (.cons (.var 2) .nil)) .nil)) (.call 30 (.cons (.var 2) .nil)))) (.ret (.bl false)) .nil)
 (.ret (.cmp .eq (.call 21 (.cons (.var 2) .nil)) (.cmp .eq (.call 30 (.cons (.var 2) .nil)) (.int 0)))))))
noncomputable abbrev Qc8:L2.Df:=⟨"_law_pair_right",Qc4,["_law_one","_law_other","_law_both"],["_law_one","_law_other"],⟨2,3,Qd3⟩,fun _=>true,fun _=>true⟩
noncomputable abbrev Qf3:L2.S:=(.seq (.setF 1 (.call 35 (.cons (.var 0) .nil)))
 (.seq (.ite (.or (.cmp .ne (.bi .len (.cons (.var 1) .nil)) (.bin .sub (.bi .len (.cons (.var 0) .nil)) (.call 30 (.cons (.var 0) .nil)))) (.cmp .ne (.cmp .eq (.call 33 (.cons (.var 0) .nil)) (.int 0)) (.cmp .ne (.var 1) (.lst .nil)))) (.ret (.bl false)) .nil)
 (.seq (.for_ (.seq (.var 1)) (.nm 2) (.seq (.setF 3 (.comp (.rng1 (.bi .len (.cons (.var 2) .nil))) [none,some 2,some 0] (.nm 0) .nil (.bi .sum (.cons (.comp (.rng1 (.bi .len (.cons (.var 1) .nil))) [none,some 1,some 0,some 2] (.nm 0) .nil (.bin .mul (.ix (.var 1) (.var 0)) (.ix (.ix (.var 3) (.var 0)) (.var 2)))) .nil))))
 (.ite (.or (.cmp .ne (.var 3) (.bin .mul (.lst (.cons (.int 0) .nil)) (.bi .len (.cons (.var 2) .nil)))) (.cmp .ne (.call 25 (.cons (.var 2) .nil)) (.var 2))) (.ret (.bl false)) .nil)))
 (.ret (.bl true)))))
noncomputable abbrev Qc9:L2.Df:=⟨"_law_lost_right",Qc5,["_law_table_here","_law_lines","_law_line","_law_led_here"],["_law_table_here"],⟨1,4,Qf3⟩,fun _=>true,fun _=>true⟩
noncomputable abbrev ds:List L2.Df:=[Qgn,Qnz,Qf1,Qes,Qet,Qgq,Qi3,Qgs,Qn1,Qbm,Qfo,Qi5,Qi7,Qe1,Qhl,Qdq,Qcd,Qde,Ql8,Qc6,Qia,Qhn,Qee,Qdz,Qd0,Qf2,Qhp,Qky,Qk0,Qgv,Qgw,Qd2,Qc7,Qcg,Qk1,Qu5,Qk3,Qbp,Qhq,Qc8,Qc9]
section
variable {P:Program} {w:World} {K:PySem.W.Frag} {mg:Str→Option Value} {base:Heap}
theorem Qu6 (tx:Txt K mg):Qac P w K mg base ds Qgn:=fun cf n R f cdv A outer s H E hc h1 co pz hr =>
 (Qw (Qai (Qm4 (Qpr tx.n_isinstance Qcf (Qe 0) (Qx2 "int" tx.n_int Qu1)) (Qse (Q63 (Qpr tx.n_isinstance Qcf (Qe 0) (Qx2 "bool" tx.n_bool Q5f)))))))
theorem Q1h (tx:Txt K mg):Qac P w K mg base ds Qnz:=fun cf n R f cdv A outer s H E hc h1 co pz hr =>
 (Qp (Qdu (t_w (Qiw (Qg1 (Qdv (Qpr tx.n_isinstance Qcf (Qe 0) (Qx2 "tuple" tx.n_tuple Qbw)))) (Qfr (Qih hr.units (Qb1 (Qbt K rfl) (Qa9 K) tx.n_len Qa7 (Qd (Qe 0) Qh)) (Qe 1))))) (Qw (Qai Qjn)) Qb4)
  (Qw (Qai (Qb1 (Qr3 K rfl) (Qm7 K) tx.n_all Qnx (Qd (Qci ["number"] [none] rfl (Qch rfl (Qe 0)) (fun _ _ _=>(Qaj (Q9 (i:=0) (show List.Nodup (["number"]:List PySem.Str) by decide +kernel)))) (fun _ _ _=>Qb3) (fun _ _ _=>(Qk (hc 0 Qgn rfl) Qn hr (Qd (Qe 0) Qh)))) Qh)))))
theorem Qyp (tx:Txt K mg):Qac P w K mg base ds Qf1:=fun cf n R f cdv A outer s H E hc h1 co pz hr =>
 (Qp (Qdu (t_w (Qiw (Qg1 (Qdv (Qpr tx.n_isinstance Qcf (Qe 0) (Qx2 "tuple" tx.n_tuple Qbw)))) (Qiw (t_lt (Qb1 (Qbt K rfl) (Qa9 K) tx.n_len Qa7 (Qd (Qe 0) Qh)) Q1) (Qfr (t_gt (Qb1 (Qbt K rfl) (Qa9 K) tx.n_len Qa7 (Qd (Qe 0) Qh)) (Qug tx.m_MOST_ROWS)))))) (Qw (Qai Qjn)) Qb4)
  (Qw (Qai (Qb1 (Qr3 K rfl) (Qm7 K) tx.n_all Qnx (Qd (Qci ["row","thing"] [none,some 0] rfl (Qch rfl (Qe 0)) (fun _ _ _=>(Qaj (Q9 (i:=0) (show List.Nodup (["row","thing"]:List PySem.Str) by decide +kernel)))) (fun _ _ _=>Qb3) (fun _ _ _=>(Qk (hc 1 Qnz rfl) Qn hr (Qd (Qe 0) (Qd (Qb1 (Qbt K rfl) (Qa9 K) tx.n_len Qa7 (Qd (Qe 1) Qh)) Qh))))) Qh)))))
theorem Qq2 (tx:Txt K mg):Qac P w K mg base ds Qes:=fun cf n R f cdv A outer s H E hc h1 co pz hr =>
 (Qp (Qlh (Qa1 (i:=1) Qfm.nd (Qm3 Qh)))
  (Qp (Qg4 rfl (Qch rfl (Qe 0)) (Qaj (Q9 (i:=2) Qfm.nd)) (Qw (Qaec (Qmr (Q3y K rfl PySem.F.plainAttrs_list PySem.F.slot_list_extend PySem.F.type_list_extend (Qx3 K rfl) (Qig 1) (Qdt (Qe 2) Qha))))))
  (Qw (Qai (Qe 1)))))
theorem Qq3 (tx:Txt K mg):Qac P w K mg base ds Qet:=fun cf n R f cdv A outer s H E hc h1 co pz hr =>
 (Qw (Qai (Qb1 (Qr3 K rfl) (Qm7 K) tx.n_all Qnx (Qd (Qci ["number"] [none] rfl (Qch rfl (Qk (hc 3 Qes rfl) pz hr (Qd (Qe 0) Qh))) (fun _ _ _=>(Qaj (Q9 (i:=0) (show List.Nodup (["number"]:List PySem.Str) by decide +kernel)))) (fun _ _ _=>Qb3) (fun _ _ _=>(g_lt (Qb1 Q6x Q0o tx.n_abs Q1e (Qd (Qe 0) Qh)) (Qwg Q1 Q1)))) Qh))))
theorem Qu7 (tx:Txt K mg):Qac P w K mg base ds Qgq:=fun cf n R f cdv A outer s H E hc h1 co pz hr =>
 (Qp (Qdu (t_w (Qiw (Qg1 (Qdv (Qpr tx.n_isinstance Qcf (Qe 0) (Qx2 "list" tx.n_list Qwr)))) (Qiw (t_lt (Qb1 (Qbt K rfl) (Qa9 K) tx.n_len Qa7 (Qd (Qe 0) Qh)) Q1) (Qfr (t_gt (Qb1 (Qbt K rfl) (Qa9 K) tx.n_len Qa7 (Qd (Qe 0) Qh)) (Qug tx.m_MOST_TABLES)))))) (Qw (Qai (Qsd Q1))) Qb4)
  (Qp (Qg4 rfl (Qdo tx.n_range (Qb1 (Qbt K rfl) (Qa9 K) tx.n_len Qa7 (Qd (Qe 0) Qh))) (Qaj (Q9 (i:=2) Qlp.nd)) (Qp (Qdu (t_w (Qiw (Qg1 (Qdv (Qk (hc 2 Qf1 rfl) Qn hr (Qd (Qdr rfl (Qe 0) (Qe 2)) Qh)))) (Qfr (Qih hr.units (Qb1 (Qbt K rfl) (Qa9 K) tx.n_len Qa7 (Qd (Qdr rfl (Qe 0) (Qe 2)) Qh)) (Qb1 (Qbt K rfl) (Qa9 K) tx.n_len Qa7 (Qd (Qdr rfl (Qe 0) Q1) Qh)))))) (Qw (Qai (Qe 2))) Qb4)
  (Qw (Qdu (t_w (Qad2 (Qdv (Qe 1)) (Qfr (Qg1 (Qdv (Qk (hc 4 Qet rfl) Qn hr (Qd (Qdr rfl (Qe 0) (Qe 2)) Qh))))))) (Qw (Qai (Qe 2))) Qb4))))
  (Qw (Qai Qm1))))
theorem Qu8 (tx:Txt K mg):Qac P w K mg base ds Qi3:=fun cf n R f cdv A outer s H E hc h1 co pz hr =>
 (Qw (Qai (Qm4 (Qk (hc 0 Qgn rfl) pz hr (Qd (Qe 0) Qh)) (Qm4 (g_ge (Qe 0) Q1) (Qse (g_lt (Qe 0) (Qe 1)))))))
theorem Qq4 (tx:Txt K mg):Qac P w K mg base ds Qgs:=fun cf n R f cdv A outer s H E hc h1 co pz hr =>
 (Qw (Qai (Qm4 (Qpr tx.n_isinstance Qcf (Qe 0) (Qx2 "tuple" tx.n_tuple Qbw)) (Qse (Qb1 (Qr3 K rfl) (Qm7 K) tx.n_all Qnx (Qd (Qci ["place","many"] [none,some 1] rfl (Qch rfl (Qe 0)) (fun _ _ _=>(Qaj (Q9 (i:=0) (show List.Nodup (["place","many"]:List PySem.Str) by decide +kernel)))) (fun _ _ _=>Qb3) (fun _ _ _=>(Qk (hc 6 Qi3 rfl) Qn hr (Qd (Qe 0) (Qd (Qe 1) Qh))))) Qh))))))
theorem Q1i (tx:Txt K mg):Qac P w K mg base ds Qn1:=fun cf n R f cdv A outer s H E hc h1 co pz hr =>
 (Qw (Qai (Qm4 (Qk (hc 7 Qgs rfl) pz hr (Qd (Qe 0) (Qd (Qe 1) Qh))) (Qm4 (g_ge (Qb1 (Qbt K rfl) (Qa9 K) tx.n_len Qa7 (Qd (Qe 0) Qh)) Q1) (Qse (g_le (Qb1 (Qbt K rfl) (Qa9 K) tx.n_len Qa7 (Qd (Qe 0) Qh)) (Qug tx.m_MOST_PLACES)))))))
theorem Qq5 (tx:Txt K mg):Qac P w K mg base ds Qbm:=fun cf n R f cdv A outer s H E hc h1 co pz hr =>
 (Qw (Qdu (Qg1 (Qdv (Qk (hc 2 Qf1 rfl) pz hr (Qd (Qe 0) Qh)))) (Qw Qwf) Qb4))
theorem Qo1 (tx:Txt K mg):Qac P w K mg base ds Qfo:=fun cf n R f cdv A outer s H E hc h1 co pz hr =>
 (Qp (Qat (Qa1 (i:=1) Qhh.nd (Qk (hc 5 Qgq rfl) pz hr (Qd (Qe 0) (Qd Qjn Qh)))))
  (Qw (Qdu (Quh (Qe 1) Qm1) (Qw Qwf) Qb4)))
theorem Qu9 (tx:Txt K mg):Qac P w K mg base ds Qi5:=fun cf n R f cdv A outer s H E hc h1 co pz hr =>
 (Qw (Qdu (Qg1 (Qdv (Qk (hc 8 Qn1 rfl) pz hr (Qd (Qe 0) (Qd (Qe 1) Qh))))) (Qw Qwf) Qb4))
theorem Qva (tx:Txt K mg):Qac P w K mg base ds Qi7:=fun cf n R f cdv A outer s H E hc h1 co pz hr =>
 (Qw (Qai (Qm4 (Qk (hc 2 Qf1 rfl) pz hr (Qd (Qe 0) Qh)) (Qse (Qk (hc 4 Qet rfl) pz hr (Qd (Qe 0) Qh))))))
theorem Qn4 (tx:Txt K mg):Qac P w K mg base ds Qe1:=fun cf n R f cdv A outer s H E hc h1 co pz hr =>
 (Qw (Qai (Qk (hc 5 Qgq rfl) pz hr (Qd (Qe 0) (Qd Qjn Qh)))))
theorem Qtb (tx:Txt K mg):Qac P w K mg base ds Qhl:=fun cf n R f cdv A outer s H E hc h1 co pz hr =>
 (Qw (Qai (Qfb (Qdm K rfl) (Qex K) tx.n_tuple Qbw (Qd (Qci ["row","at"] [none,some 1] rfl (Qch rfl (Qe 0)) (fun _ _ _=>(Qaj (Q9 (i:=0) (show List.Nodup (["row","at"]:List PySem.Str) by decide +kernel)))) (fun _ _ _=>Qb3) (fun _ _ _=>(Qdr rfl (Qe 0) (Qe 1)))) Qh))))
theorem Qq6 (tx:Txt K mg):Qac P w K mg base ds Qdq:=fun cf n R f cdv A outer s H E hc h1 co pz hr =>
 (Qw (Qai (Qfb (Qdm K rfl) (Qex K) tx.n_tuple Qbw (Qd (Qci ["at","table"] [none,some 0] rfl (Qdo tx.n_range (Qb1 (Qbt K rfl) (Qa9 K) tx.n_len Qa7 (Qd (Qe 0) Qh))) (fun _ _ _=>(Qaj (Q9 (i:=0) (show List.Nodup (["at","table"]:List PySem.Str) by decide +kernel)))) (fun _ _ _=>Qb3) (fun _ _ _=>(Qk (hc 14 Qhl rfl) Qn hr (Qd (Qe 1) (Qd (Qe 0) Qh))))) Qh))))
theorem Qi8 (tx:Txt K mg):Qac P w K mg base ds Qcd:=fun cf n R f cdv A outer s H E hc h1 co pz hr =>
 (Qw (Qai (Qb1 (Q6u K rfl) (Q0p K) tx.n_sum Q1g (Qd (Qci ["k","row","column"] [none,some 0,some 1] rfl (Qdo tx.n_range (Qb1 (Qbt K rfl) (Qa9 K) tx.n_len Qa7 (Qd (Qe 0) Qh))) (fun _ _ _=>(Qaj (Q9 (i:=0) (show List.Nodup (["k","row","column"]:List PySem.Str) by decide +kernel)))) (fun _ _ _=>Qb3) (fun _ _ _=>(Qft (Qdr rfl (Qe 1) (Qe 0)) (Qdr rfl (Qe 2) (Qe 0))))) Qh))))
theorem Qik (tx:Txt K mg):Qac P w K mg base ds Qde:=fun cf n R f cdv A outer s H E hc h1 co pz hr =>
 (Qw (Qai (Qfb (Qdm K rfl) (Qex K) tx.n_tuple Qbw (Qd (Qci ["column","row"] [none,some 0] rfl (Qch rfl (Qe 1)) (fun _ _ _=>(Qaj (Q9 (i:=0) (show List.Nodup (["column","row"]:List PySem.Str) by decide +kernel)))) (fun _ _ _=>Qb3) (fun _ _ _=>(Qk (hc 16 Qcd rfl) Qn hr (Qd (Qe 1) (Qd (Qe 0) Qh))))) Qh))))
theorem Q5g (tx:Txt K mg):Qac P w K mg base ds Ql8:=fun cf n R f cdv A outer s H E hc h1 co pz hr =>
 (Qp (Qat (Qa1 (i:=2) Qs6.nd (Qk (hc 15 Qdq rfl) pz hr (Qd (Qe 1) Qh))))
  (Qw (Qai (Qfb (Qdm K rfl) (Qex K) tx.n_tuple Qbw (Qd (Qci ["row","columns"] [none,some 2] rfl (Qch rfl (Qe 0)) (fun _ _ _=>(Qaj (Q9 (i:=0) (show List.Nodup (["row","columns"]:List PySem.Str) by decide +kernel)))) (fun _ _ _=>Qb3) (fun _ _ _=>(Qk (hc 17 Qde rfl) Qn hr (Qd (Qe 0) (Qd (Qe 1) Qh))))) Qh)))))
theorem Qyq (tx:Txt K mg):Qac P w K mg base ds Qc6:=fun cf n R f cdv A outer s H E hc h1 co pz hr =>
 (Qp (Qgd (Qk (hc 9 Qbm rfl) pz hr (Qd (Qe 0) Qh)))
  (Qp (Qgd (Qk (hc 9 Qbm rfl) pz hr (Qd (Qe 1) Qh)))
  (Qp (Qdu (Qih hr.units (Qb1 (Qbt K rfl) (Qa9 K) tx.n_len Qa7 (Qd (Qe 0) Qh)) (Qb1 (Qbt K rfl) (Qa9 K) tx.n_len Qa7 (Qd (Qe 1) Qh))) (Qw Qwf) Qb4)
  (Qw (Qai (Qk (hc 18 Ql8 rfl) pz hr (Qd (Qe 0) (Qd (Qe 1) Qh))))))))
theorem Q5h (tx:Txt K mg):Qac P w K mg base ds Qia:=fun cf n R f cdv A outer s H E hc h1 co pz hr =>
 (Qp (Qgd (Qk (hc 10 Qfo rfl) pz hr (Qd (Qe 0) Qh)))
  (Qp (Qgd (Qk (hc 11 Qi5 rfl) pz hr (Qd (Qe 1) (Qd (Qb1 (Qbt K rfl) (Qa9 K) tx.n_len Qa7 (Qd (Qe 0) Qh)) Qh))))
  (Qp (Qat (Qa1 (i:=2) Qjz.nd (Qdr rfl (Qe 0) (Qdr rfl (Qe 1) Q1))))
  (Qp (Qg4 rfl (Qch rfl (Qli rfl (Qe 1) (Qe9 Q1) Qe8)) (Qaj (Q9 (i:=3) Qjz.nd)) (Qw (Qat (Qa1 (i:=2) Qjz.nd (Qk (hc 18 Ql8 rfl) Qn hr (Qd (Qe 2) (Qd (Qdr rfl (Qe 0) (Qe 3)) Qh)))))))
  (Qw (Qai (Qe 2)))))))
theorem Qtc (tx:Txt K mg):Qac P w K mg base ds Qhn:=fun cf n R f cdv A outer s H E hc h1 co pz hr =>
 (Qp (Qgd (Qk (hc 9 Qbm rfl) pz hr (Qd (Qe 0) Qh)))
  (Qw (Qai (Q63 (Qb1 (Qadc K rfl) (Qaaa K) tx.n_any Qaa1 (Qd (Qk (hc 3 Qes rfl) pz hr (Qd (Qe 0) Qh)) Qh))))))
theorem Q1j (tx:Txt K mg):Qac P w K mg base ds Qee:=fun cf n R f cdv A outer s H E hc h1 co pz hr =>
 (Qp (Qgd (Qk (hc 9 Qbm rfl) pz hr (Qd (Qe 0) Qh)))
  (Qw (Qai (Qk (hc 15 Qdq rfl) pz hr (Qd (Qe 0) Qh)))))
theorem Qk4 (tx:Txt K mg):Qac P w K mg base ds Qdz:=fun cf n R f cdv A outer s H E hc h1 co pz hr =>
 (Qp (Qaed (Qih hr.units (Qe 1) Q1) (Qp (Qat (Qa1 (i:=2) Qcm.nd (Qpq (Qe 0) (Qe 1))))
  (Qp (Qat (Qa1 (i:=0) Qcm.nd (Qe 1)))
  (Qw (Qat (Qa1 (i:=1) Qcm.nd (Qe 2)))))))
  (Qw (Qai (Qb1 Q6x Q0o tx.n_abs Q1e (Qd (Qe 0) Qh)))))
theorem Qyr (tx:Txt K mg):Qac P w K mg base ds Qd0:=fun cf n R f cdv A outer s H E hc h1 co pz hr =>
 (Qp (Qg4 rfl (Qdo tx.n_range (Qb1 (Qbt K rfl) (Qa9 K) tx.n_len Qa7 (Qd (Qe 0) Qh))) (Qaj (Q9 (i:=1) Qns.nd)) (Qw (Qdu (Qih hr.units (Qdr rfl (Qe 0) (Qe 1)) Q1) (Qw (Qai (Qe 1))) Qb4)))
  (Qw (Qai Qm1)))
theorem Qys (tx:Txt K mg):Qac P w K mg base ds Qf2:=fun cf n R f cdv A outer s H E hc h1 co pz hr =>
 (Qp (Qat (Qa1 (i:=1) Qdw.nd (Qk (hc 24 Qd0 rfl) pz hr (Qd (Qe 0) Qh))))
  (Qp (Qdu (Qaeg (Qe 1) Qm1) (Qw (Qai Qm1)) Qb4)
  (Qp (Qat (Qa1 (i:=2) Qdw.nd Q1))
  (Qp (Qg4 rfl (Qch rfl (Qe 0)) (Qaj (Q9 (i:=3) Qdw.nd)) (Qw (Qat (Qa1 (i:=2) Qdw.nd (Qk (hc 23 Qdz rfl) Qn hr (Qd (Qe 2) (Qd (Qe 3) Qh)))))))
  (Qp (Qdu (t_lt (Qdr rfl (Qe 0) (Qe 1)) Q1) (Qw (Qat (Qa1 (i:=2) Qdw.nd (Qsd (Qe 2))))) Qb4)
  (Qw (Qai (Qfb (Qdm K rfl) (Qex K) tx.n_tuple Qbw (Qd (Qci ["number","divisor"] [none,some 2] rfl (Qch rfl (Qe 0)) (fun _ _ _=>(Qaj (Q9 (i:=0) (show List.Nodup (["number","divisor"]:List PySem.Str) by decide +kernel)))) (fun _ _ _=>Qb3) (fun _ _ _=>(Q7a (Qe 0) (Qe 1)))) Qh)))))))))
theorem Qtd (tx:Txt K mg):Qac P w K mg base ds Qhp:=fun cf n R f cdv A outer s H E hc h1 co pz hr =>
 (Qw (Qai (Qfb (Qdm K rfl) (Qex K) tx.n_tuple Qbw (Qd (Qci ["k","at"] [none,some 1] rfl (Qdo tx.n_range (Qe 0)) (fun _ _ _=>(Qaj (Q9 (i:=0) (show List.Nodup (["k","at"]:List PySem.Str) by decide +kernel)))) (fun _ _ _=>Qb3) (fun _ _ _=>(Qfb Qz0 Q0s tx.n_int Qu1 (Qd (Q4t hr.units (Qe 0) (Qe 1)) Qh)))) Qh))))
theorem Qyt (tx:Txt K mg):Qac P w K mg base ds Qky:=fun cf n R f cdv A outer s H E hc h1 co pz hr =>
 (Qp (Qat (Qa1 (i:=2) Qnt.nd (Qk (hc 24 Qd0 rfl) pz hr (Qd (Qe 1) Qh))))
  (Qw (Qai (Qfb (Qdm K rfl) (Qex K) tx.n_tuple Qbw (Qd (Qci ["k","row","step","lead"] [none,some 0,some 1,some 2] rfl (Qdo tx.n_range (Qb1 (Qbt K rfl) (Qa9 K) tx.n_len Qa7 (Qd (Qe 0) Qh))) (fun _ _ _=>(Qaj (Q9 (i:=0) (show List.Nodup (["k","row","step","lead"]:List PySem.Str) by decide +kernel)))) (fun _ _ _=>Qb3) (fun _ _ _=>(Qnd (Qft (Qdr rfl (Qe 1) (Qe 0)) (Qdr rfl (Qe 2) (Qe 3))) (Qft (Qdr rfl (Qe 2) (Qe 0)) (Qdr rfl (Qe 1) (Qe 3)))))) Qh)))))
theorem Qyu (tx:Txt K mg):Qac P w K mg base ds Qk0:=fun cf n R f cdv A outer s H E hc h1 co pz hr =>
 (Qp (Qg4 rfl (Qch rfl (Qe 1)) (Qaj (Q9 (i:=2) Qi0.nd)) (Qw (Qat (Qa1 (i:=0) Qi0.nd (Qk (hc 27 Qky rfl) Qn hr (Qd (Qe 0) (Qd (Qe 2) Qh)))))))
  (Qw (Qai (Qe 0))))
theorem Qvb (tx:Txt K mg):Qac P w K mg base ds Qgv:=fun cf n R f cdv A outer s H E hc h1 co pz hr =>
 (Qp (Qlh (Qa1 (i:=1) Qff.nd (Qm3 Qh)))
  (Qp (Qg4 rfl (Qch rfl (Qe 0)) (Qaj (Q9 (i:=2) Qff.nd)) (Qp (Q05 (i:=1) (Qat (Qa1 (i:=3) Qff.nd (Qk (hc 25 Qf2 rfl) Qn hr (Qd (Qk (hc 28 Qk0 rfl) Qn hr (Qd (Qe 2) (Qd (Qe 1) Qh))) Qh)))))
  (Qw (Qdu (Quh (Qe 3) Qm1) (Qw (Q0z (Qmr (Q3y K rfl PySem.F.plainAttrs_list PySem.F.slot_list_append PySem.F.type_list_append Qmt (Qig 1) (Qdt (Qe 3) Qha))))) Qb4))))
  (Qw (Qai (Qe 1)))))
theorem Qaa3 (tx:Txt K mg):Qac P w K mg base ds Qgw:=fun cf n R f cdv A outer s H E hc h1 co pz hr =>
 (Qp (Qgd (Qk (hc 9 Qbm rfl) pz hr (Qd (Qe 0) Qh)))
  (Qw (Qai (Qb1 (Qbt K rfl) (Qa9 K) tx.n_len Qa7 (Qd (Qk (hc 29 Qgv rfl) pz hr (Qd (Qe 0) Qh)) Qh)))))
theorem Qk5 (tx:Txt K mg):Qac P w K mg base ds Qd2:=fun cf n R f cdv A outer s H E hc h1 co pz hr =>
 (Qw (Qai (Qci ["row","at"] [none,some 1] rfl (Qch rfl (Qe 0)) (fun _ _ _=>(Qaj (Q9 (i:=0) (show List.Nodup (["row","at"]:List PySem.Str) by decide +kernel)))) (fun _ _ _=>Qb3) (fun _ _ _=>(Qhf rfl (Qli rfl (Qe 0) Qe8 (Qe9 (Qe 1))) (Qli rfl (Qe 0) (Qe9 (Qhf rfl (Qe 1) Q1)) Qe8))))))
theorem Qk6 (tx:Txt K mg):Qac P w K mg base ds Qc7:=fun cf n R f cdv A outer s H E hc h1 co pz hr =>
 (Qp (Qdu (Q02 hr.units (Qb1 (Qbt K rfl) (Qa9 K) tx.n_len Qa7 (Qd (Qe 0) Qh)) Q1) (Qw (Qai Q1)) Qb4)
  (Qp (Qat (Qa1 (i:=1) Qbi.nd Q1))
  (Qp (Qat (Qa1 (i:=2) Qbi.nd Q1))
  (Qp (Qg4 rfl (Qdo tx.n_range (Qb1 (Qbt K rfl) (Qa9 K) tx.n_len Qa7 (Qd (Qe 0) Qh))) (Qaj (Q9 (i:=3) Qbi.nd)) (Qp (Qat (Qa1 (i:=1) Qbi.nd (Qhf rfl (Qe 1) (Qft (Qft (Qe 2) (Qdr rfl (Qdr rfl (Qe 0) Q1) (Qe 3))) (Qk (hc 32 Qc7 rfl) Qn hr (Qd (Qk (hc 31 Qd2 rfl) Qn hr (Qd (Qli rfl (Qe 0) (Qe9 Q1) Qe8) (Qd (Qe 3) Qh))) Qh))))))
  (Qw (Qat (Qa1 (i:=2) Qbi.nd (Qsd (Qe 2)))))))
  (Qw (Qai (Qe 1)))))))
theorem Qo2 (tx:Txt K mg):Qac P w K mg base ds Qcg:=fun cf n R f cdv A outer s H E hc h1 co pz hr =>
 (Qp (Qgd (Qk (hc 9 Qbm rfl) pz hr (Qd (Qe 0) Qh)))
  (Qw (Qai (Qk (hc 32 Qc7 rfl) pz hr (Qd (Qe 0) Qh)))))
theorem Qyv (tx:Txt K mg):Qac P w K mg base ds Qk1:=fun cf n R f cdv A outer s H E hc h1 co pz hr =>
 (Qp (Qlh (Qa1 (i:=3) Qdx.nd (Qfb (Q9q K rfl) (Q4i K) tx.n_list Qwr (Qd (Qk (hc 26 Qhp rfl) pz hr (Qd (Qe 1) (Qd (Qe 2) Qh))) Qh))))
  (Qp (Qg4 rfl (Qch rfl (Qaej (h1.2 24 Qd0 rfl) h1.1 hr (Qe 0) tx.n_sorted Qyo)) (Qaj (Q9 (i:=4) Qdx.nd)) (Qp (Qat (Qa1 (i:=5) Qdx.nd (Qk (hc 24 Qd0 rfl) Qn hr (Qd (Qe 4) Qh))))
  (Qp (Q05 (i:=3) (Qat (Qa1 (i:=6) Qdx.nd (Qk (hc 16 Qcd rfl) Qn hr (Qd (Qe 4) (Qd (Qe 3) Qh))))))
  (Qp (Qlh (Q42 (K:=K) ["number","step","lead"] [none,some 4,some 5] rfl (Qzx K rfl (Qig 3)) (fun _ _ _=>(Qaj (Q9 (i:=0) (show List.Nodup (["number","step","lead"]:List PySem.Str) by decide +kernel)))) (fun _ _ _=>Qb3) (fun _ _ _=>(Qft (Qe 0) (Qdr rfl (Qe 1) (Qe 2)))) (Q9 (i:=3) Qdx.nd)))
  (Qw (Qwd (Qms (Qsd (Qe 6)) (Qqi (Qig 3) (Qe 5)))))))))
  (Qw (Qai (Qk (hc 25 Qf2 rfl) pz hr (Qd (Qfb (Qdm K rfl) (Qex K) tx.n_tuple Qbw (Qd (Qe 3) Qh)) Qh))))))
theorem Qaa4 (tx:Txt K mg):Qac P w K mg base ds Qu5:=fun cf n R f cdv A outer s H E hc h1 co pz hr =>
 (Qp (Qgd (Qk (hc 9 Qbm rfl) pz hr (Qd (Qe 0) Qh)))
  (Qp (Qat (Qa1 (i:=1) Ql7.nd (Qb1 (Qbt K rfl) (Qa9 K) tx.n_len Qa7 (Qd (Qe 0) Qh))))
  (Qp (Qat (Qa1 (i:=2) Ql7.nd (Qk (hc 29 Qgv rfl) pz hr (Qd (Qk (hc 15 Qdq rfl) pz hr (Qd (Qe 0) Qh)) Qh))))
  (Qp (Qat (Qa1 (i:=3) Ql7.nd (Qci ["step"] [none] rfl (Qch rfl (Qe 2)) (fun _ _ _=>(Qaj (Q9 (i:=0) (show List.Nodup (["step"]:List PySem.Str) by decide +kernel)))) (fun _ _ _=>Qb3) (fun _ _ _=>(Qk (hc 24 Qd0 rfl) Qn hr (Qd (Qe 0) Qh))))))
  (Qw (Qai (Qci ["at","steps","size","leads"] [none,some 2,some 1,some 3] rfl (Qdo tx.n_range (Qe 1)) (fun _ _ _=>(Qaj (Q9 (i:=0) (show List.Nodup (["at","steps","size","leads"]:List PySem.Str) by decide +kernel)))) (fun _ _ _=>(Qaaf (Qaen hr.units (Qe 0) (Qe 3)))) (fun _ _ _=>(Qk (hc 34 Qk1 rfl) Qn hr (Qd (Qe 1) (Qd (Qe 2) (Qd (Qe 0) Qh))))))))))))
theorem Qyw (tx:Txt K mg):Qac P w K mg base ds Qk3:=fun cf n R f cdv A outer s H E hc h1 co pz hr =>
 (Qp (Qat (Qa1 (i:=1) Qnw.nd (Qb1 (Q0q K rfl rfl) (Q0r K) tx.n_max Q1f (Qd (Qe 0) (Qd (Qnd Q1 (Qe 0)) Qh)))))
  (Qw (Qai (Qm3 (Qd (Qe 1) (Qd (Qfb Qz0 Q0s tx.n_int Qu1 (Qd (g_ge (Qe 1) (Qwg Q1 Q1)) Qh)) Qh))))))
theorem Qvc (tx:Txt K mg):Qac P w K mg base ds Qbp:=fun cf n R f cdv A outer s H E hc h1 co pz hr =>
 (Qp (Qdu (Q02 hr.units (Qdr rfl (Qe 0) Q1) Q1) (Qp (Q69 (Qms (Qb1 Qadf Qaad tx.n_divmod Qyn (Qd (Qdr rfl (Qe 0) Q1) (Qd (Qe 1) Qh))) (Q0u (is:=[2,3]) (Qzy K rfl rfl (Qf7 (Q9 (i:=2) Qed.nd) (Qf7 (Q9 (i:=3) Qed.nd) Qt9))) rfl)))
  (Qp (Qwd (Qms (Qe 2) (Qqi (Qig 0) Q1)))
  (Qw (Qai (Qe 3))))) Qb4)
  (Qp (Qat (Qa1 (i:=4) Qed.nd (Qpq (Qft (Qhf rfl (Qpq (Qdr rfl (Qe 0) Q1) Q1) Q1) Q1) Q1)))
  (Qp (Qat (Qa1 (i:=4) Qed.nd (Qpq (Qhf rfl (Qft (Qe 4) (Qe 4)) Q1) Q1)))
  (Qp (Qwd (Qms (Qpq (Qhf rfl (Qft (Qe 4) Q1) Q1) Q1) (Qqi (Qig 0) Q1)))
  (Qw (Qai (Qpq (Q7a (Qdr rfl (Qe 0) Q1) Q1) (Qe 1))))))))
theorem Qte (tx:Txt K mg):Qac P w K mg base ds Qhq:=fun cf n R f cdv A outer s H E hc h1 co pz hr =>
 (Qp (Qlh (Qa1 (i:=3) Qbv.nd (Qm3 Qh)))
  (Qp (Qg4 rfl (Qdo tx.n_range (Qe 1)) (Qaj (Q9 (i:=4) Qbv.nd)) (Qp (Qlh (Qa1 (i:=5) Qbv.nd (Qm3 Qh)))
  (Qp (Qg4 rfl (Qdo tx.n_range (Qe 1)) (Qaj (Q9 (i:=6) Qbv.nd)) (Qp (Qat (Qa1 (i:=7) Qbv.nd (Qb1 (Q0q K rfl rfl) (Q0r K) tx.n_max Q1f (Qd Q1 (Qd (Qnd (Qk (hc 37 Qbp rfl) Qn hr (Qd (Qe 0) (Qd Q1 Qh))) Q1) Qh)))))
  (Qp (Qdu (Q02 hr.units (Qe 2) Q1) (Qw (Qat (Qa1 (i:=7) Qbv.nd (Qnd (Qk (hc 37 Qbp rfl) Qn hr (Qd (Qe 0) (Qd Q1 Qh))) Q1)))) Qb4)
  (Qp (Qdu (Q02 hr.units (Qe 2) Q1) (Qw (Qat (Qa1 (i:=7) Qbv.nd (Qnd (Qk (hc 37 Qbp rfl) Qn hr (Qd (Qe 0) (Qd (Qhf rfl (Qft Q1 (Qwg Q1 Q1)) Q1) Qh))) (Qwg Q1 Q1))))) Qb4)
  (Qw (Q0z (Qmr (Q3y K rfl PySem.F.plainAttrs_list PySem.F.slot_list_append PySem.F.type_list_append Qmt (Qig 5) (Qdt (Qe 7) Qha)))))))))
  (Qw (Q0z (Qmr (Q3y K rfl PySem.F.plainAttrs_list PySem.F.slot_list_append PySem.F.type_list_append Qmt (Qig 3) (Qdt (Qfb (Qdm K rfl) (Qex K) tx.n_tuple Qbw (Qd (Qe 5) Qh)) Qha))))))))
  (Qw (Qai (Qfb (Qdm K rfl) (Qex K) tx.n_tuple Qbw (Qd (Qe 3) Qh))))))
theorem Qk7 (tx:Txt K mg):Qac P w K mg base ds Qc8:=fun cf n R f cdv A outer s H E hc h1 co pz hr =>
 (Qp (Qat (Qa1 (i:=2) Qfh.nd (Qk (hc 19 Qc6 rfl) pz hr (Qd (Qe 0) (Qd (Qe 1) Qh)))))
  (Qp (Qdu (t_w (Qiw (Qih hr.units (Qk (hc 33 Qcg rfl) pz hr (Qd (Qe 2) Qh)) (Qft (Qk (hc 33 Qcg rfl) pz hr (Qd (Qe 0) Qh)) (Qk (hc 33 Qcg rfl) pz hr (Qd (Qe 1) Qh)))) (Qfr (t_gt (Qk (hc 30 Qgw rfl) pz hr (Qd (Qe 2) Qh)) (Qb1 (Qaab K rfl rfl) (Qaac K) tx.n_min Qaa2 (Qd (Qk (hc 30 Qgw rfl) pz hr (Qd (Qe 0) Qh)) (Qd (Qk (hc 30 Qgw rfl) pz hr (Qd (Qe 1) Qh)) Qh))))))) (Qw (Qai Qjn)) Qb4)
  (Qp (Qdu (t_w (Qiw (Qih hr.units (Qk (hc 22 Qee rfl) pz hr (Qd (Qe 2) Qh)) (Qk (hc 19 Qc6 rfl) pz hr (Qd (Qk (hc 22 Qee rfl) pz hr (Qd (Qe 1) Qh)) (Qd (Qk (hc 22 Qee rfl) pz hr (Qd (Qe 0) Qh)) Qh)))) (Qfr (Qih hr.units (Qk (hc 30 Qgw rfl) pz hr (Qd (Qk (hc 22 Qee rfl) pz hr (Qd (Qe 2) Qh)) Qh)) (Qk (hc 30 Qgw rfl) pz hr (Qd (Qe 2) Qh)))))) (Qw (Qai Qjn)) Qb4)
  (Qw (Qai (Q4t hr.units (Qk (hc 21 Qhn rfl) pz hr (Qd (Qe 2) Qh)) (Q4t hr.units (Qk (hc 30 Qgw rfl) pz hr (Qd (Qe 2) Qh)) Q1)))))))
theorem Qk8 (tx:Txt K mg):Qac P w K mg base ds Qc9:=fun cf n R f cdv A outer s H E hc h1 co pz hr =>
 (Qp (Qat (Qa1 (i:=1) Qcn.nd (Qk (hc 35 Qu5 rfl) pz hr (Qd (Qe 0) Qh))))
  (Qp (Qdu (t_w (Qiw (Qih hr.units (Qb1 (Qbt K rfl) (Qa9 K) tx.n_len Qa7 (Qd (Qe 1) Qh)) (Qnd (Qb1 (Qbt K rfl) (Qa9 K) tx.n_len Qa7 (Qd (Qe 0) Qh)) (Qk (hc 30 Qgw rfl) pz hr (Qd (Qe 0) Qh)))) (Qfr (Qih hr.units (Q4t hr.units (Qk (hc 33 Qcg rfl) pz hr (Qd (Qe 0) Qh)) Q1) (g_ne hr.units (Qe 1) (Qm3 Qh)))))) (Qw (Qai Qjn)) Qb4)
  (Qp (Qg4 rfl (Qch rfl (Qe 1)) (Qaj (Q9 (i:=2) Qcn.nd)) (Qp (Qat (Q03 ["_law_at","_law_line","_law_table_here"] [none,some 2,some 0] rfl (Qdo tx.n_range (Qb1 (Qbt K rfl) (Qa9 K) tx.n_len Qa7 (Qd (Qe 2) Qh))) (fun _ _ _=>(Qaj (Q9 (i:=0) (show List.Nodup (["_law_at","_law_line","_law_table_here"]:List PySem.Str) by decide +kernel)))) (fun _ _ _=>Qb3) (fun _ _ _=>(Qb1 (Q6u K rfl) (Q0p K) tx.n_sum Q1g (Qd (Qci ["_law_k","_law_line","_law_at","_law_table_here"] [none,some 1,some 0,some 2] rfl (Qdo tx.n_range (Qb1 (Qbt K rfl) (Qa9 K) tx.n_len Qa7 (Qd (Qe 1) Qh))) (fun _ _ _=>(Qaj (Q9 (i:=0) (show List.Nodup (["_law_k","_law_line","_law_at","_law_table_here"]:List PySem.Str) by decide +kernel)))) (fun _ _ _=>Qb3) (fun _ _ _=>(Qft (Qdr rfl (Qe 1) (Qe 0)) (Qdr rfl (Qdr rfl (Qe 3) (Qe 0)) (Qe 2))))) Qh))) (Q9 (i:=3) Qcn.nd)))
  (Qw (Qdu (t_w (Qiw (Qih hr.units (Qe 3) (Qft (Qm3 (Qd Q1 Qh)) (Qb1 (Qbt K rfl) (Qa9 K) tx.n_len Qa7 (Qd (Qe 2) Qh)))) (Qfr (Qih hr.units (Qk (hc 25 Qf2 rfl) Qn hr (Qd (Qe 2) Qh)) (Qe 2))))) (Qw (Qai Qjn)) Qb4))))
  (Qw (Qai Qjn)))))
theorem Qq7 (d:Dfn K mg "_law_cell" Qez) (tx:Txt K mg):Has P w K mg base "_law_cell" ["_law_script","_law_k"] 1 (Qng K):=by
 refine Qadg (k:=0) d Qs8 Qs9 (fun vs H Q E h=>?_) (fun f cdv A outer s H vs Q E hr h=>?_)
 ·obtain ⟨a,ns,k,rfl,_⟩:=h
  rfl
 ·obtain ⟨a,ns,k,rfl,hs,q⟩:=h
  refine ⟨_,(Qqj (Q6q (Qzw Q9j (Qig 1) (Q9g (Qbt K rfl) tx.n_len Qa7 (Qdt (Qig 0) Qha)) (Q8q _)) (Qqk (Qv3 (q_ix (o_ix K rfl) (Qig 0) (Qig 1)))) Qzz)
   (Qqk (Qv3 Qr2))),?_⟩
  refine ⟨_,rfl,_,rfl,a,_,rfl,.inl hs,_,_,rfl,rfl,_,rfl,?_⟩
  refine ite2 (fun c=>?_) (fun c=>?_)
  ·have c:(k:Int)<(ns.map V.int).length:=by simpa using c
   have hk:k<ns.length:=by rw [length_map] at c;omega
   refine ⟨_,rfl,_,rfl,.inl ⟨a,_,_,_,rfl,rfl,hs,Qhw (v:=V.int ns[k]) ?_,q _⟩⟩
   rw [getElem?_map,getElem?_eq_getElem hk]
   rfl
  ·exact q _
noncomputable abbrev Q1k:L2.S:=(.seq (.set 2 (.call 36 (.cons (.var 1) .nil)))
 (.seq (.unp [3,4] (.tup (.cons (.bin .add (.int 1) (.call 37 (.cons (.var 2) (.cons (.int 4) .nil)))) (.cons (.call 37 (.cons (.var 2) (.cons (.int 3) .nil))) .nil))))
 (.seq (.set 5 (.comp (.rng1 (.int 3)) [none,some 2,some 3,some 4] (.nm 0) .nil (.call 38 (.cons (.var 1) (.cons (.var 2) (.cons (.var 3) .nil))))))
 (.seq (.ite (.cmp .eq (.call 37 (.cons (.var 2) (.cons (.int 2) .nil))) (.int 0)) (.put 5 (.int 1) (.bin .add (.slc (.ix (.var 5) (.int 1)) .nil (.cons (.neg (.int 1)) .nil)) (.slc (.ix (.var 5) (.int 1)) .nil (.cons (.int 1) .nil)))) .nil)
 (.seq (.frz 5) (.seq (.unl [6,7,8] (.var 5))
 (.seq (.setF 9 (.call 19 (.cons (.call 19 (.cons (.var 6) (.cons (.var 7) .nil))) (.cons (.var 8) .nil))))
 (.seq (.ite (.or (.cmp .ne (.call 19 (.cons (.var 6) (.cons (.call 19 (.cons (.var 7) (.cons (.var 8) .nil))) .nil))) (.var 9)) (.cmp .ne (.call 20 (.cons (.var 5) (.cons (.tup (.cons (.int 0) (.cons (.int 1) (.cons (.int 2) .nil)))) .nil))) (.var 9))) (.ret (.bl false)) .nil)
 (.seq (.ite (.or (.not (.call 39 (.cons (.var 6) (.cons (.var 7) .nil)))) (.or (.not (.call 39 (.cons (.var 7) (.cons (.var 8) .nil)))) (.not (.call 40 (.cons (.var 7) .nil))))) (.ret (.bl false)) .nil)
 (.seq (.setF 10 (.bi .tup (.cons (.comp (.rng1 (.bin .add (.int 2) (.call 37 (.cons (.var 2) (.cons (.int 4) .nil))))) [none,some 2] (.nm 0) .nil (.call 37 (.cons (.var 1) (.cons (.int 3) .nil)))) .nil)))
 (.seq (.setF 11 (.bin .add (.int 1) (.call 37 (.cons (.var 2) (.cons (.bin .sub (.bi .len (.cons (.var 10) .nil)) (.int 1)) .nil)))))
 (.seq (.ite (.cmp .ne (.call 20 (.cons (.var 5) (.cons (.var 10) .nil))) (.call 19 (.cons (.call 20 (.cons (.var 5) (.cons (.slc (.var 10) .nil (.cons (.var 11) .nil)) .nil))) (.cons (.call 20 (.cons (.var 5) (.cons (.slc (.var 10) (.cons (.var 11) .nil) .nil) .nil))) .nil)))) (.ret (.bl false)) .nil)
 (.seq (.ite (.or (.cmp .isnn (.call 13 (.cons (.var 5) .nil)) .non) (.not (.bi .all (.cons (.comp (.seq (.var 5)) [none] (.nm 0) .nil (.call 12 (.cons (.var 0) .nil))) .nil)))) (.ret (.bl false)) .nil)
 (.ite (.or (.not (.call 40 (.cons (.var 9) .nil))) (.cmp .ne (.call 22 (.cons (.call 22 (.cons (.var 9) .nil)) .nil)) (.var 9))) (.ret (.bl false)) .nil))))))))))))))
theorem Qaev (tx:Txt K mg) {cf:CF} {f:Addr} {cdv:Value} {A:Around} {outer:List Env} {s:Shared} {H:Hp} {E:XK} (hc:Qqo P w K mg base ds cf 29) (h_cell:Has P w K mg base "_law_cell" ["_law_script","_law_k"] 1 (Qng K)) (hr:Room 29 (A.deeper (PyProof.Rows.envOfC "law" (Qg Qlq) s.heap.objs.size f cdv))) :
  QB (Qif (fun _=>true) CX0 P w K mg base ["_law_script","_law_cell_here","_law_pen_here","_law_size","_law_way","_law_tables","_law_one","_law_other","_law_third","_law_whole","_law_steps","_law_at"] "law" (Qg Qlq) f cdv A outer s H E).nox (Qbq Qlq) (Q7g ⟨cf,fun _ _ _ _=>False,mg⟩ K 1 4 Q1k) :=
 Qqj (Q6r PassesOwn.never rfl (Qzx K rfl (q_op (Q6s K rfl) (Q6p (Qdt (q_fn h_cell (hr.mono (by decide)) (Qdt (Qig 0) (Qdt Qr2 Qha))) Qha)) (q_sl (o_sl K rfl) (Qig 0) (Qt8 Qr2) (Qt8 Qr2)))) (Q9 (i:=1) Qeg.nd)
   (Qp (Qlh (Qa1 (i:=2) Qeg.nd (Qk (hc 36 Qk3 rfl) Qn hr (Qd (Qe 1) Qh))))
  (Qp (Q69 (Qms (Q62 (Qd (Qhf rfl Q1 (Qk (hc 37 Qbp rfl) Qn hr (Qd (Qe 2) (Qd Q1 Qh)))) (Qd (Qk (hc 37 Qbp rfl) Qn hr (Qd (Qe 2) (Qd Q1 Qh))) Qh))) (Q0u (is:=[3,4]) (Qzy K rfl rfl (Qf7 (Q9 (i:=3) Qeg.nd) (Qf7 (Q9 (i:=4) Qeg.nd) Qt9))) rfl)))
  (Qp (Qlh (Q03 ["_law_turn","_law_pen_here","_law_size","_law_way"] [none,some 2,some 3,some 4] rfl (Qdo tx.n_range Q1) (fun _ _ _=>(Qaj (Q9 (i:=0) (show List.Nodup (["_law_turn","_law_pen_here","_law_size","_law_way"]:List PySem.Str) by decide +kernel)))) (fun _ _ _=>Qb3) (fun _ _ _=>(Qk (hc 38 Qhq rfl) Qn hr (Qd (Qe 1) (Qd (Qe 2) (Qd (Qe 3) Qh))))) (Q9 (i:=5) Qeg.nd)))
  (Qp (Qdu (Q02 hr.units (Qk (hc 37 Qbp rfl) Qn hr (Qd (Qe 2) (Qd Q1 Qh))) Q1) (Qw (Qwd (Qms (Qhf rfl (Qli rfl (Qdr rfl (Qe 5) Q1) Qe8 (Qe9 (Qsd Q1))) (Qli rfl (Qdr rfl (Qe 5) Q1) Qe8 (Qe9 Q1))) (Qqi (Qig 5) Q1)))) Qb4)
  (Qaeb (Qp (Qael (K:=K) (Qms (Qe 5) (Q4x K rfl rfl (Qf7 (Q9 (i:=6) Qeg.nd) (Qf7 (Q9 (i:=7) Qeg.nd) (Qf7 (Q9 (i:=8) Qeg.nd) Qt9))))) rfl)
  (Qp (Qat (Qa1 (i:=9) Qeg.nd (Qk (hc 19 Qc6 rfl) Qn hr (Qd (Qk (hc 19 Qc6 rfl) Qn hr (Qd (Qe 6) (Qd (Qe 7) Qh))) (Qd (Qe 8) Qh)))))
  (Qp (Qdu (t_w (Qiw (Qih hr.units (Qk (hc 19 Qc6 rfl) Qn hr (Qd (Qe 6) (Qd (Qk (hc 19 Qc6 rfl) Qn hr (Qd (Qe 7) (Qd (Qe 8) Qh))) Qh))) (Qe 9)) (Qfr (Qih hr.units (Qk (hc 20 Qia rfl) Qn hr (Qd (Qe 5) (Qd (Q62 (Qd Q1 (Qd Q1 (Qd Q1 Qh)))) Qh))) (Qe 9))))) (Qw (Qai Qjn)) Qb4)
  (Qp (Qdu (t_w (Qiw (Qg1 (Qdv (Qk (hc 39 Qc8 rfl) Qn hr (Qd (Qe 6) (Qd (Qe 7) Qh))))) (Qiw (Qg1 (Qdv (Qk (hc 39 Qc8 rfl) Qn hr (Qd (Qe 7) (Qd (Qe 8) Qh))))) (Qfr (Qg1 (Qdv (Qk (hc 40 Qc9 rfl) Qn hr (Qd (Qe 7) Qh)))))))) (Qw (Qai Qjn)) Qb4)
  (Qp (Qat (Qa1 (i:=10) Qeg.nd (Qfb (Qdm K rfl) (Qex K) tx.n_tuple Qbw (Qd (Qci ["_law_turn","_law_pen_here"] [none,some 2] rfl (Qdo tx.n_range (Qhf rfl Q1 (Qk (hc 37 Qbp rfl) Qn hr (Qd (Qe 2) (Qd Q1 Qh))))) (fun _ _ _=>(Qaj (Q9 (i:=0) (show List.Nodup (["_law_turn","_law_pen_here"]:List PySem.Str) by decide +kernel)))) (fun _ _ _=>Qb3) (fun _ _ _=>(Qk (hc 37 Qbp rfl) Qn hr (Qd (Qe 1) (Qd Q1 Qh))))) Qh))))
  (Qp (Qat (Qa1 (i:=11) Qeg.nd (Qhf rfl Q1 (Qk (hc 37 Qbp rfl) Qn hr (Qd (Qe 2) (Qd (Qnd (Qb1 (Qbt K rfl) (Qa9 K) tx.n_len Qa7 (Qd (Qe 10) Qh)) Q1) Qh))))))
  (Qp (Qdu (Qih hr.units (Qk (hc 20 Qia rfl) Qn hr (Qd (Qe 5) (Qd (Qe 10) Qh))) (Qk (hc 19 Qc6 rfl) Qn hr (Qd (Qk (hc 20 Qia rfl) Qn hr (Qd (Qe 5) (Qd (Qli rfl (Qe 10) Qe8 (Qe9 (Qe 11))) Qh))) (Qd (Qk (hc 20 Qia rfl) Qn hr (Qd (Qe 5) (Qd (Qli rfl (Qe 10) (Qe9 (Qe 11)) Qe8) Qh))) Qh)))) (Qw (Qai Qjn)) Qb4)
  (Qp (Qdu (t_w (Qiw (Quh (Qk (hc 13 Qe1 rfl) Qn hr (Qd (Qe 5) Qh)) Qm1) (Qfr (Qg1 (Qdv (Qb1 (Qr3 K rfl) (Qm7 K) tx.n_all Qnx (Qd (Qci ["_law_table_here"] [none] rfl (Qch rfl (Qe 5)) (fun _ _ _=>(Qaj (Q9 (i:=0) (show List.Nodup (["_law_table_here"]:List PySem.Str) by decide +kernel)))) (fun _ _ _=>Qb3) (fun _ _ _=>(Qk (hc 12 Qi7 rfl) Qn hr (Qd (Qe 0) Qh)))) Qh))))))) (Qw (Qai Qjn)) Qb4)
  (Qw (Qdu (t_w (Qiw (Qg1 (Qdv (Qk (hc 40 Qc9 rfl) Qn hr (Qd (Qe 9) Qh)))) (Qfr (Qih hr.units (Qk (hc 22 Qee rfl) Qn hr (Qd (Qk (hc 22 Qee rfl) Qn hr (Qd (Qe 9) Qh)) Qh)) (Qe 9))))) (Qw (Qai Qjn)) Qb4))))))))))))))))
  (Qqk (Qv3 Q9a))
end
end My
set_option maxHeartbeats 8000000
namespace My
noncomputable abbrev Tb:=List (List Int)
noncomputable def ge (r:List Int) (k:Nat):Int:=r.getD k 0
noncomputable def Qbb (r c:List Int):Int:=((List.range r.length).map fun k=>ge r k*ge c k).sum
noncomputable def col (M:Tb) (j:Nat):List Int:=M.map fun l=>ge l j
noncomputable def rb (M:Tb) (r:List Int):List Int:=(List.range M.length).map fun j=>Qbb r (col M j)
noncomputable def tms (A M:Tb):Tb:=A.map (rb M)
structure Shp (n:Nat) (M:Tb):Prop where
 len:M.length=n
 row:∀ r∈M,r.length=n
noncomputable def woc (rows:Tb) (j:Nat):Tb:=rows.map fun r=>r.take j++r.drop (j+1)
noncomputable def sg:Nat→Int
 | 0=>1
 | j+1=>-sg j
noncomputable def Qeh (f:Nat→Int):Nat→Int
 | 0=>0
 | j+1=>Qeh f j+f j
noncomputable def Qae:Nat→Tb→Int
 | 0,_=>1
 | m+1,M=>Qeh (fun j=>sg j*ge (M.headD []) j*Qae m (woc M.tail j)) (m+1)
noncomputable def sp (M:Tb) (r c:Nat):Int:=if (r+c)%2=0 then Qae (M.length-1) (woc (M.take r++M.drop (r+1)) c) else -Qae (M.length-1) (woc (M.take r++M.drop (r+1)) c)
noncomputable def sc (n:Nat) (x:Int):Tb:=(List.range n).map fun i=>(List.range n).map fun j=>if i=j then x else 0
theorem Qk9 {P:Nat→Tb→Prop} (p1:∀ a,P 1 [[a]]) (p2:∀ a b c d,P 2 [[a,b],[c,d]]) (p3:∀ a b c d e f g h i,P 3 [[a,b,c],[d,e,f],[g,h,i]])
  (p4:∀ a b c d e f g h i j k l m n o p,P 4 [[a,b,c,d],[e,f,g,h],[i,j,k,l],[m,n,o,p]]) {n:Nat} {M:Tb} (h:Shp n M) (h1:1≤n) (h4:n≤4):P n M:=by
 obtain ⟨hl,hr⟩:=h
 match n,M,hl with
 | 1,[r],_=>match r,hr r (by simp) with
  | [a],_=>exact p1 ..
 | 2,[r,s],_=>match r,s,hr r (by simp),hr s (by simp) with
  | [a,b],[c,d],_,_=>exact p2 ..
 | 3,[r,s,t],_=>match r,s,t,hr r (by simp),hr s (by simp),hr t (by simp) with
  | [a,b,c],[d,e,f],[g,h,i],_,_,_=>exact p3 ..
 | 4,[r,s,t,u],_=>match r,s,t,u,hr r (by simp),hr s (by simp),hr t (by simp),hr u (by simp) with
  | [a,b,c,d],[e,f,g,h],[i,j,k,l],[m,n,o,p],_,_,_,_=>exact p4 ..
theorem Qws {n:Nat} {A B:Tb} (hA:Shp n A) (hB:Shp n B) (h1:1≤n) (h4:n≤4):Qae n (tms A B)=Qae n A*Qae n B:=by
 refine Qk9 (P:=fun n A=>∀ B,Shp n B→Qae n (tms A B)=Qae n A*Qae n B) ?_ ?_ ?_ ?_ hA h1 h4 B hB <;> intros <;> rename_i B hB <;>
  refine Qk9 (P:=fun m B=>m=_→Qae m (tms _ B)=Qae m _*Qae m B) ?_ ?_ ?_ ?_ hB (by omega) (by omega) rfl <;> intros <;> first | omega | (simp [tms,rb,Qbb,col,Qae,woc,ge,sg,Qeh,List.range,List.range.loop] <;> grind)
theorem Qwt {n:Nat} {M:Tb} (h:Shp n M) (h1:1≤n) (h4:n≤4):tms (sc n 1) M=M∧tms M (sc n 1)=M:=by
 refine Qk9 (P:=fun n M=>tms (sc n 1) M=M∧tms M (sc n 1)=M) ?_ ?_ ?_ ?_ h h1 h4 <;> simp [tms,rb,Qbb,col,sc,ge,List.range,List.range.loop]
theorem Q1l {n k:Nat} (hk:k<n) (x:Int):(sc n x).getD k []=(List.range n).map fun j=>if k=j then x else 0:=by
 simp [sc,hk]
theorem Q1m {n:Nat} {M:Tb} (h:Shp n M) (h1:1≤n) (h4:n≤4) {k:Nat} (hk:k<n):rb M ((sc n 1).getD k [])=M.getD k []:=by
 have e:=congrArg (·.getD k []) (Qwt h h1 h4).1
 rw [Q1l hk]
 simpa [tms,sc,hk] using e
theorem Qaa5 {n:Nat} {x:Nat} {r:List Int} (hr:r.length=n):Shp n ((sc n 1).set x r):=⟨by simp [sc],fun s hs=>by
 rcases List.mem_or_eq_of_mem_set hs with z | rfl
 ·obtain ⟨i,_,rfl⟩:=mem_map.mp z
  simp
 ·exact hr⟩
theorem Q1n {n:Nat} {M:Tb} (h:Shp n M) (h1:1≤n) (h4:n≤4) {x y:Nat} (hx:x<n) (hy:y<n) (hxy:x≠y):Qae n ((M.set x (M.getD y [])).set y (M.getD x [])) = -Qae n M:=by
 have lr:∀ {k},k<n→((sc n 1).getD k []).length=n:=fun h=>by rw [Q1l h];simp
 have e:tms (((sc n 1).set x ((sc n 1).getD y [])).set y ((sc n 1).getD x [])) M=(M.set x (M.getD y [])).set y (M.getD x []):=by
  rw [tms,map_set,map_set,Q1m h h1 h4 hx,Q1m h h1 h4 hy]
  exact congrArg (fun z:Tb=>(z.set x _).set y _) (Qwt h h1 h4).1
 have s:Shp n (((sc n 1).set x ((sc n 1).getD y [])).set y ((sc n 1).getD x [])):=⟨by simp [sc],fun r hr=>(List.mem_or_eq_of_mem_set hr).elim (fun z=>(Qaa5 (lr hy)).row _ z) fun z=>z ▸ lr hx⟩
 rw [←e,Qws s h h1 h4,←Int.neg_one_mul]
 congr 1
 clear e lr h s
 rcases (by omega:n=1∨n=2∨n=3∨n=4) with rfl | rfl | rfl | rfl <;> rcases (by omega:x=0∨x=1∨x=2∨x=3) with rfl | rfl | rfl | rfl <;> rcases (by omega:y=0∨y=1∨y=2∨y=3) with rfl | rfl | rfl | rfl <;>
  first | omega | decide
noncomputable def fb (B:Nat):Nat→Nat
 | 0=>1
 | m+1=>(m+1)*(B*fb B m)
theorem Qaa6 {B m j:Nat} {M:Tb} (hl:M.length=m) (hr:∀ r∈M,r.length=m+1) (hb:∀ r∈M,∀ x∈r,(x:Int).natAbs≤B) (hj:j<m+1):Shp m (woc M j)∧∀ r∈woc M j,∀ x∈r,(x:Int).natAbs≤B:=by
 refine ⟨⟨by unfold woc;rw [length_map,hl],fun r h=>?_⟩,fun r h x hx=>?_⟩ <;> obtain ⟨s,hs,rfl⟩:=mem_map.mp h
 ·have:=hr s hs
  rw [length_append,length_take,length_drop]
  omega
 ·exact hb s hs x ((mem_append.mp hx).elim mem_of_mem_take List.mem_of_mem_drop)
theorem Q1o {B:Nat}:∀ (m:Nat) (M:Tb),Shp m M→(∀ r∈M,∀ x∈r,(x:Int).natAbs≤B)→(Qae m M).natAbs≤fb B m
 | 0,_,_,_=>Nat.le_refl 1
 | m+1,[],h,_=>by have:=h.len;cases this
 | m+1,r0::Ms,h,hb=>by
  have hr0:=h.row r0 mem_cons_self
  have term:∀ j,j<m+1→(sg j*ge r0 j*Qae m (woc Ms j)).natAbs≤B*fb B m:=fun j hj=>by
   have sj:∀ k,(sg k).natAbs=1:=fun k=>by
    induction k with
    | zero=>rfl
    | succ k ih=>show (-sg k).natAbs=1;rw [Int.natAbs_neg,ih]
   have w:=Qaa6 (Nat.succ.inj h.len) (fun r z=>h.row r (mem_cons_of_mem _ z)) (fun r z=>hb r (mem_cons_of_mem _ z)) hj
   rw [Int.natAbs_mul,Int.natAbs_mul,sj,Nat.one_mul]
   refine Nat.mul_le_mul (hb r0 mem_cons_self _ ?_) (Q1o m (woc Ms j) w.1 w.2)
   unfold ge
   rw [getD_eq_getElem?_getD,getElem?_eq_getElem (by omega)]
   exact getElem_mem _
  have sum:∀ j,j≤m+1→(Qeh (fun j=>sg j*ge r0 j*Qae m (woc Ms j)) j).natAbs≤j*(B*fb B m):=fun j hj=>by
   induction j with
   | zero=>exact Nat.zero_le _
   | succ j ih =>
    have a:=ih (by omega)
    have b:=term j (by omega)
    rw [Nat.add_mul,Nat.one_mul]
    exact Nat.le_trans (Int.natAbs_add_le _ _) (Nat.add_le_add a b)
  exact sum (m+1) (Nat.le_refl _)
end My
set_option maxHeartbeats 4000000
namespace My
noncomputable def lin (a b:Int) (u v:List Int):List Int:=List.zipWith (fun x y=>a*x+b*y) u v
theorem Qco {a b:Int} {u v:List Int} {k:Nat} (hu:u.length=k) (hv:v.length=k):(lin a b u v).length=k:=by unfold lin;rw [List.length_zipWith,hu,hv,Nat.min_self]
theorem Qq8 {k:Nat} {M:Tb} (h:Shp k M) (h1:1≤k) (h4:k≤4) {t:Nat} (ht:t<k) (a b:Int) {u v:List Int} (hu:u.length=k) (hv:v.length=k) :
  Qae k (M.set t (lin a b u v))=a*Qae k (M.set t u)+b*Qae k (M.set t v):=by
 refine Qk9 (P:=fun k M=>∀ t u v,t<k→u.length=k→v.length=k→Qae k (M.set t (lin a b u v))=a*Qae k (M.set t u)+b*Qae k (M.set t v)) ?_ ?_ ?_ ?_ h h1 h4 t u v ht hu hv
 ·intro p t u v ht hu hv
  match t,u,v,ht,hu,hv with
  | 0,[x],[y],_,_,_=>simp [lin,Qae,woc,ge,sg,Qeh]
 ·intro p q r s t u v ht hu hv
  match t,u,v,ht,hu,hv with
  | 0,[x,x'],[y,y'],_,_,_=>simp [lin,Qae,woc,ge,sg,Qeh];grind
  | 1,[x,x'],[y,y'],_,_,_=>simp [lin,Qae,woc,ge,sg,Qeh];grind
 ·intro c0 c1 c2 c3 c4 c5 c6 c7 c8 t u v ht hu hv
  match t,u,v,ht,hu,hv with
  | 0,[x,x',x2],[y,y',y2],_,_,_=>simp [lin,Qae,woc,ge,sg,Qeh];grind
  | 1,[x,x',x2],[y,y',y2],_,_,_=>simp [lin,Qae,woc,ge,sg,Qeh];grind
  | 2,[x,x',x2],[y,y',y2],_,_,_=>simp [lin,Qae,woc,ge,sg,Qeh];grind
 ·intro c0 c1 c2 c3 c4 c5 c6 c7 c8 c9 d0 d1 d2 d3 d4 d5 t u v ht hu hv
  match t,u,v,ht,hu,hv with
  | 0,[x,x',x2,x3],[y,y',y2,y3],_,_,_=>simp [lin,Qae,woc,ge,sg,Qeh];grind
  | 1,[x,x',x2,x3],[y,y',y2,y3],_,_,_=>simp [lin,Qae,woc,ge,sg,Qeh];grind
  | 2,[x,x',x2,x3],[y,y',y2,y3],_,_,_=>simp [lin,Qae,woc,ge,sg,Qeh];grind
  | 3,[x,x',x2,x3],[y,y',y2,y3],_,_,_=>simp [lin,Qae,woc,ge,sg,Qeh];grind
noncomputable def Vn (k:Nat) (R:List (List Int)):Prop:=∀ I:Tb,I.length=k→(∀ r∈I,r∈R)→Qae k I=0
noncomputable def Lk (k:Nat) (R:List (List Int)):Prop:=∀ r∈R,r.length=k
theorem Vn.sub {k:Nat} {R R':List (List Int)} (h:Vn k R) (e:∀ r∈R',r∈R):Vn k R':=fun I hl hr=>h I hl fun r hr'=>e r (hr r hr')
section
variable {k:Nat} (h1:1≤k) (h4:k≤4) {R:List (List Int)} (hL:Lk k R)
include h1 h4 hL
theorem Vn.step (hV:Vn k R) {x:List Int} (hx:x.length=k) (key:∀ (I:Tb) (t:Nat),Shp k I→t<k→I[t]?=some x→(∀ y,y∈R→Qae k (I.set t y)=0)→Qae k I=0):Vn k (x::R):=by
 have gen:∀ (m:Nat) (I:Tb),I.length=k→(∀ r∈I,r∈x::R)→(I.filter fun r=>!R.contains r).length≤m→Qae k I=0:=by
  intro m
  induction m with
  | zero =>
   intro I hl hr hm
   refine hV I hl fun r hrI=>?_
   have:I.filter (fun r=>!R.contains r)=[]:=List.length_eq_zero_iff.mp (by omega)
   have:=List.filter_eq_nil_iff.mp this r hrI
   simpa using this
  | succ m ih =>
   intro I hl hr hm
   have shp:Shp k I:=⟨hl,fun r hrI=>by
    rcases mem_cons.mp (hr r hrI) with z | z
    ·rw [z];exact hx
    ·exact hL r z⟩
   by_cases hall:∀ r∈I,r∈R
   ·exact hV I hl hall
   ·obtain ⟨r,hrI,hnr⟩:∃ r,r∈I∧r∉R:=by
     refine Classical.byContradiction fun z=>hall fun r hr=>Classical.byContradiction fun w=>z ⟨r,hr,w⟩
    have ex:r=x:=by
     rcases mem_cons.mp (hr r hrI) with z | z
     ·exact z
     ·exact absurd z hnr
    subst ex
    obtain ⟨t,ht,et⟩:=List.getElem_of_mem hrI
    refine key I t shp (by omega) (by rw [getElem?_eq_getElem ht,et]) fun y hy=>ih (I.set t y) (by rw [length_set];exact hl) (fun s hs=>?_) ?_
    ·rcases List.mem_or_eq_of_mem_set hs with z | z
     ·exact hr s z
     ·rw [z];exact .tail _ hy
    ·have e1:I=I.take t++r::I.drop (t+1):=by rw [←et];simp
     have e2:I.set t y=I.take t++y::I.drop (t+1):=List.set_eq_take_append_cons_drop.trans (by rw [if_pos ht])
     rw [e2]
     have e3:(I.filter fun r=>!R.contains r).length=((I.take t).filter fun r=>!R.contains r).length+(1+((I.drop (t+1)).filter fun r=>!R.contains r).length):=by
      conv=>lhs;rw [e1]
      rw [List.filter_append,length_append,filter_cons,if_pos (by simpa using hnr),length_cons]
      omega
     rw [List.filter_append,length_append,filter_cons,if_neg (by simpa using hy)]
     omega
 exact fun I hl hr=>gen _ I hl hr (Nat.le_refl _)
omit h1 h4 hL in
theorem Qn5 {I:Tb} {t:Nat} {x:List Int} (h:I[t]?=some x):I.set t x=I:=by
 obtain ⟨ht,e⟩:=List.getElem?_eq_some_iff.mp h
 rw [←e]
 exact List.set_getElem_self ht
theorem Vn.lin (hV:Vn k R) {u v:List Int} (hu:u∈R) (hv:v∈R) (a b:Int):Vn k (lin a b u v::R):=by
 refine Vn.step h1 h4 hL hV (Qco (hL u hu) (hL v hv)) fun I t shp ht hx hy=>?_
 have e:=Qq8 shp h1 h4 ht a b (hL u hu) (hL v hv)
 rw [Qn5 hx,hy u hu,hy v hv,Int.mul_zero,Int.mul_zero] at e
 exact e
theorem Vn.div (hV:Vn k R) {x:List Int} {c:Int} (hc:c≠0) (hx:x.map (c * ·)∈R):Vn k (x::R):=by
 have hl:x.length=k:=by have:=hL _ hx;rwa [length_map] at this
 refine Vn.step h1 h4 hL hV hl fun I t shp ht hxt hy=>?_
 have e:=Qq8 shp h1 h4 ht c 0 hl hl
 have ex:My.lin c 0 x x=x.map (c * ·):=by
  unfold My.lin
  clear hx hl hxt e
  induction x with
  | nil=>rfl
  | cons y x ih=>rw [List.zipWith_cons_cons,map_cons,ih,Int.zero_mul,Int.add_zero]
 rw [ex,hy _ hx,Qn5 hxt,Int.zero_mul,Int.add_zero] at e
 exact (Int.mul_eq_zero.mp e.symm).resolve_left hc
theorem Vn.zero (hV:Vn k R):Vn k (List.replicate k 0::R):=by
 refine Vn.step h1 h4 hL hV length_replicate fun I t shp ht hxt hy=>?_
 have e:=Qq8 shp h1 h4 ht 0 0 (u:=List.replicate k 0) (v:=List.replicate k 0) length_replicate length_replicate
 have ex:My.lin 0 0 (List.replicate k 0) (List.replicate k 0)=List.replicate k 0:=by
  unfold My.lin
  rw [List.zipWith_replicate,Nat.min_self]
  rfl
 rw [ex,Qn5 hxt,Int.zero_mul,Int.add_zero] at e
 exact e
end
noncomputable def res (J:List Nat) (r:List Int):List Int:=J.map fun j=>ge r j
theorem Qq9 {J:List Nat} {k:Nat} (h:J.length=k) (r:List Int):(res J r).length=k:=by unfold res;rw [length_map,h]
theorem Qhr {n:Nat} {a b:Int} {u v:List Int} (hu:u.length=n) (hv:v.length=n) (j:Nat):ge (lin a b u v) j=a*ge u j+b*ge v j:=by
 unfold ge lin
 rw [getD_eq_getElem?_getD,List.getElem?_zipWith,getD_eq_getElem?_getD,getD_eq_getElem?_getD]
 by_cases h:j<n
 ·rw [getElem?_eq_getElem (by omega),getElem?_eq_getElem (by omega)]
  rfl
 ·rw [getElem?_eq_none (by omega),getElem?_eq_none (by omega)]
  simp
theorem Qwu {n:Nat} {a b:Int} {u v:List Int} (hu:u.length=n) (hv:v.length=n) (J:List Nat):res J (lin a b u v)=lin a b (res J u) (res J v):=by
 unfold res
 show _=List.zipWith (fun x y=>a*x+b*y) _ _
 rw [List.zipWith_map]
 induction J with
 | nil=>rfl
 | cons j J ih=>rw [map_cons,List.zipWith_cons_cons,ih,Qhr hu hv]
theorem Qj7 {c:Int}:∀ x:List Int,lin c 0 x x=x.map (c * ·)
 | []=>rfl
 | y::x=>by
  show (c*y+0*y)::lin c 0 x x=_
  rw [Qj7 x,Int.zero_mul,Int.add_zero]
  rfl
noncomputable def Cl (n:Nat) (R:List (List Int)) (x:List Int):Prop:=x.length=n∧∀ (k:Nat) (J:List Nat) (R':List (List Int)),1≤k→k≤4→J.length=k→Lk n R'→(∀ r∈R,r∈R')→Vn k (R'.map (res J))→Vn k ((x::R').map (res J))
section
variable {n:Nat} {R:List (List Int)}
theorem Qra {k:Nat} {J:List Nat} (hJ:J.length=k) (R':List (List Int)):Lk k (R'.map (res J)):=fun r hr=>by
 obtain ⟨s,_,rfl⟩:=mem_map.mp hr
 exact Qq9 hJ s
theorem Lk.cons {x:List Int} (hx:x.length=n) (h:Lk n R):Lk n (x::R):=fun r hr=>by
 rcases mem_cons.mp hr with rfl | z
 ·exact hx
 ·exact h r z
theorem Qn6 (hR:Lk n R) {x:List Int} (h:x∈R):Cl n R x:=⟨hR x h,fun k J R' _ _ _ _ hs hV=>hV.sub fun r hr=>by
 rw [map_cons] at hr
 rcases mem_cons.mp hr with rfl | z
 ·exact mem_map_of_mem (hs x h)
 ·exact z⟩
theorem Qrb {u v:List Int} (hu:Cl n R u) (hv:Cl n R v) (a b:Int):Cl n R (lin a b u v):=by
 refine ⟨Qco hu.1 hv.1,fun k J R' k1 k4 hJ hL hs hV=>?_⟩
 have h1:=hu.2 k J R' k1 k4 hJ hL hs hV
 have h2:=hv.2 k J (u::R') k1 k4 hJ (hL.cons hu.1) (fun r hr=>.tail _ (hs r hr)) h1
 have h3:=Vn.lin k1 k4 (Qra hJ (v::u::R')) h2 (u:=res J u) (v:=res J v) (by simp) (by simp) a b
 refine h3.sub fun r hr=>?_
 rw [map_cons] at hr
 rcases mem_cons.mp hr with rfl | z
 ·rw [Qwu hu.1 hv.1];exact .head _
 ·exact .tail _ (by rw [map_cons,map_cons];exact .tail _ (.tail _ z))
theorem Q1p {x:List Int} {c:Int} (hc:c≠0) (hx:Cl n R (x.map (c * ·))):Cl n R x:=by
 have hl:x.length=n:=by have:=hx.1;rwa [length_map] at this
 refine ⟨hl,fun k J R' k1 k4 hJ hL hs hV=>?_⟩
 have h1:=hx.2 k J R' k1 k4 hJ hL hs hV
 have e:(res J x).map (c * ·)=res J (x.map (c * ·)):=by rw [←Qj7,←Qj7,Qwu hl hl]
 have h2:=Vn.div k1 k4 (Qra hJ (x.map (c * ·)::R')) h1 (x:=res J x) hc (by rw [e];simp)
 refine h2.sub fun r hr=>?_
 rw [map_cons] at hr
 rcases mem_cons.mp hr with rfl | z
 ·exact .head _
 ·exact .tail _ (by rw [map_cons];exact .tail _ z)
theorem Qwv:Cl n R (List.replicate n 0):=by
 refine ⟨length_replicate,fun k J R' k1 k4 hJ hL hs hV=>?_⟩
 have e:res J (List.replicate n 0)=List.replicate k 0:=by
  unfold res
  rw [←hJ]
  clear hs hV hJ k1 k4
  induction J with
  | nil=>rfl
  | cons j J ih =>
   rw [map_cons,ih,length_cons,replicate_succ]
   congr 1
   unfold ge
   rw [getD_eq_getElem?_getD,getElem?_replicate]
   split <;> rfl
 have h1:=Vn.zero k1 k4 (Qra hJ R') hV
 rw [map_cons,e]
 exact h1
theorem Cl.mono {R2:List (List Int)} {x:List Int} (h:Cl n R x) (e:∀ r∈R,r∈R2):Cl n R2 x:=⟨h.1,fun k J R' k1 k4 hJ hL hs hV=>h.2 k J R' k1 k4 hJ hL (fun r hr=>hs r (e r hr)) hV⟩
theorem Qvd (hR:Lk n R) {k:Nat} {J:List Nat} (k1:1≤k) (k4:k≤4) (hJ:J.length=k) (hV:Vn k (R.map (res J))):∀ (S:List (List Int)),(∀ x∈S,Cl n R x)→Vn k (S.map (res J)):=by
 have gen:∀ (S:List (List Int)),(∀ x∈S,Cl n R x)→Vn k ((S++R).map (res J))∧Lk n (S++R):=by
  intro S
  induction S with
  | nil=>exact fun _=>⟨hV,hR⟩
  | cons x S ih =>
   intro h
   obtain ⟨a,b⟩:=ih fun y hy=>h y (.tail _ hy)
   have hx:=h x (.head _)
   exact ⟨hx.2 k J (S++R) k1 k4 hJ b (fun r hr=>mem_append_right _ hr) a,b.cons hx.1⟩
 exact fun S h=>(gen S h).1.sub fun r hr=>by
  obtain ⟨s,hs,rfl⟩:=mem_map.mp hr
  exact mem_map_of_mem (mem_append_left _ hs)
end
noncomputable def nzI (x:Int):Bool:=!decide (x=0)
noncomputable def ld (r:List Int):Nat:=r.findIdx nzI
noncomputable def isZ (r:List Int):Prop:=∀ x∈r,x=0
theorem Qj8 {r:List Int} (h:¬ isZ r):ld r<r.length∧ge r (ld r)≠0∧∀ j,j<ld r→ge r j=0:=by
 have ex:∃ x∈r,nzI x=true:=by
  refine Classical.byContradiction fun z=>h fun x hx=>Classical.byContradiction fun w=>z ⟨x,hx,?_⟩
  unfold nzI
  rw [decide_eq_false w]
  rfl
 have hl:ld r<r.length:=List.findIdx_lt_length.mpr ex
 refine ⟨hl,?_,fun j hj=>?_⟩
 ·have q:nzI r[ld r]=true:=List.findIdx_getElem (w:=hl)
  unfold ge
  rw [getD_eq_getElem?_getD,getElem?_eq_getElem hl]
  intro z
  have z:r[ld r]=0:=z
  rw [z] at q
  exact absurd q (by decide)
 ·have:=List.not_of_lt_findIdx hj
  unfold nzI at this
  unfold ge
  rw [getD_eq_getElem?_getD,getElem?_eq_getElem (by unfold ld at hl hj;omega)]
  simpa using this
noncomputable def clr (row step:List Int):List Int:=lin (ge step (ld step)) (-ge row (ld step)) row step
noncomputable def lft (row:List Int) (S:List (List Int)):List Int:=S.foldl clr row
structure Lin (ln:List Int→Option (List Int)):Prop where
 no:∀ r,ln r=none↔isZ r
 yes:∀ r l,ln r=some l→∃ g:Int,g≠0∧r=l.map (g * ·)
section
variable (ln:List Int→Option (List Int))
noncomputable def stp (S:List (List Int)) (row:List Int):List (List Int):=match ln (lft row S) with
 | none=>S
 | some l=>S++[l]
noncomputable def Qap (rows:List (List Int)):List (List Int):=rows.foldl (stp ln) []
variable {ln} (hl:Lin ln) {n:Nat}
theorem Q1q {R:List (List Int)}:∀ {S:List (List Int)} {row:List Int},(∀ s∈S,Cl n R s)→Cl n R row→Cl n R (lft row S)
 | [],row,_,h=>h
 | s::S,row,hS,h=>Q1q (S:=S) (fun x hx=>hS x (.tail _ hx)) (Qrb h (hS s (.head _)) _ _)
theorem Qtf {R:List (List Int)}:∀ {S:List (List Int)} {row:List Int},row.length=n→(∀ s∈S,Cl n R s∧¬ isZ s)→Cl n R (lft row S)→Cl n R row
 | [],row,_,_,h=>h
 | s::S,row,hr,hS,h=>by
  obtain ⟨hs,hz⟩:=hS s (.head _)
  have h1:=Qtf (S:=S) (row:=clr row s) (Qco hr hs.1) (fun x hx=>hS x (.tail _ hx)) h
  obtain ⟨l1,l2,_⟩:=Qj8 hz
  refine Q1p l2 ?_
  have h2:=Qrb h1 hs 1 (ge row (ld s))
  have e:lin 1 (ge row (ld s)) (clr row s) s=row.map (ge s (ld s) * ·):=by
   refine List.ext_getElem (by rw [Qco h1.1 hs.1,length_map,hr]) fun i a b=>?_
   have hi:i<n:=by rw [Qco h1.1 hs.1] at a;exact a
   have g:∀ (x:List Int) (h:i<x.length),x[i]=ge x i:=fun x h=>by unfold ge;rw [getD_eq_getElem?_getD,getElem?_eq_getElem h];rfl
   rw [g,List.getElem_map,g,Qhr h1.1 hs.1]
   unfold clr
   rw [Qhr hr hs.1]
   grind
  rwa [e] at h2
include hl
theorem Qww:∀ (rows S0:List (List Int)) (R0:List (List Int)),Lk n rows→Lk n R0→(∀ s∈S0,Cl n R0 s∧¬ isZ s)→(∀ r∈R0,Cl n S0 r) →
  (∀ s∈rows.foldl (stp ln) S0,Cl n (R0++rows) s∧¬ isZ s)∧∀ r∈R0++rows,Cl n (rows.foldl (stp ln) S0) r
 | [],S0,R0,_,_,h1,h2=>by rw [append_nil];exact ⟨h1,h2⟩
 | row::rows,S0,R0,hL,hR,h1,h2=>by
  have hrow:=hL row (.head _)
  have hL':Lk n rows:=fun r hr=>hL r (.tail _ hr)
  have hRr:Lk n (R0++[row]):=fun r hr=>by
   rcases mem_append.mp hr with z | z
   ·exact hR r z
   ·rw [mem_singleton.mp z];exact hrow
  have e:R0++row::rows=(R0++[row])++rows:=by simp
  rw [e,foldl_cons]
  have m1:∀ s∈S0,Cl n (R0++[row]) s:=fun s hs=>(h1 s hs).1.mono fun r hr=>mem_append_left _ hr
  have m2:Cl n (R0++[row]) (lft row S0):=Q1q m1 (Qn6 hRr (by simp))
  refine Qww rows (stp ln S0 row) (R0++[row]) hL' hRr ?_ ?_
  ·intro s hs
   unfold stp at hs
   cases hln:ln (lft row S0) with
   | none=>rw [hln] at hs;exact ⟨m1 s hs,(h1 s hs).2⟩
   | some l =>
    rw [hln] at hs
    rcases mem_append.mp hs with z | z
    ·exact ⟨m1 s z,(h1 s z).2⟩
    ·rw [mem_singleton.mp z]
     obtain ⟨g,g0,eg⟩:=hl.yes _ _ hln
     refine ⟨Q1p g0 (by rw [←eg];exact m2),fun hz=>?_⟩
     have:isZ (lft row S0):=fun x hx=>by
      rw [eg] at hx
      obtain ⟨y,hy,rfl⟩:=mem_map.mp hx
      rw [hz y hy,Int.mul_zero]
     rw [(hl.no _).mpr this] at hln
     cases hln
  ·have hS:Lk n S0:=fun s hs=>(h1 s hs).1.1
   have sub:∀ s∈S0,s∈stp ln S0 row:=fun s hs=>by
    unfold stp
    cases ln (lft row S0) with
    | none=>exact hs
    | some l=>exact mem_append_left _ hs
   have hS':Lk n (stp ln S0 row):=fun s hs=>by
    unfold stp at hs
    cases hln:ln (lft row S0) with
    | none=>rw [hln] at hs;exact hS s hs
    | some l =>
     rw [hln] at hs
     rcases mem_append.mp hs with z | z
     ·exact hS s z
     ·rw [mem_singleton.mp z]
      obtain ⟨g,g0,eg⟩:=hl.yes _ _ hln
      have:=m2.1
      rw [eg,length_map] at this
      exact this
   intro r hr
   rcases mem_append.mp hr with z | z
   ·exact (h2 r z).mono sub
   ·rw [mem_singleton.mp z]
    refine Qtf (S:=S0) hrow (fun s hs=>⟨Qn6 hS' (sub s hs),(h1 s hs).2⟩) ?_
    cases hln:ln (lft row S0) with
    | none =>
     have hz:=(hl.no _).mp hln
     have e0:lft row S0=List.replicate n 0:=List.eq_replicate_iff.mpr ⟨m2.1,hz⟩
     rw [e0]
     exact Qwv
    | some l =>
     obtain ⟨g,g0,eg⟩:=hl.yes _ _ hln
     have lm:l∈stp ln S0 row:=by unfold stp;rw [hln];simp
     rw [eg,←Qj7]
     exact Qrb (Qn6 hS' lm) (Qn6 hS' lm) _ _
end
theorem Q1r (pre post:Tb) (x y:List Int):(((pre++x::y::post).set pre.length ((pre++x::y::post).getD (pre.length+1) [])).set (pre.length+1) ((pre++x::y::post).getD pre.length []))=pre++y::x::post:=by
 have e1:(pre++x::y::post).getD (pre.length+1) []=y:=by
  rw [getD_eq_getElem?_getD,List.getElem?_append_right (by omega)]
  simp
 have e2:(pre++x::y::post).getD pre.length []=x:=by
  rw [getD_eq_getElem?_getD,List.getElem?_append_right (by omega)]
  simp
 rw [e1,e2,List.set_append_right _ _ (by omega),List.set_append_right _ _ (by omega)]
 simp
section
variable {k:Nat} (h1:1≤k) (h4:k≤4)
include h1 h4
theorem Qwx {pre post:Tb} {x y:List Int} (h:Shp k (pre++x::y::post)):Qae k (pre++y::x::post) = -Qae k (pre++x::y::post):=by
 have hl:=h.len
 rw [length_append,length_cons,length_cons] at hl
 have:=Q1n h h1 h4 (x:=pre.length) (y:=pre.length+1) (by omega) (by omega) (by omega)
 rwa [Q1r] at this
theorem Qtg:∀ {l l':Tb},l.Perm l'→∀ pre:Tb,Shp k (pre++l)→Qae k (pre++l)≠0→Qae k (pre++l')≠0:=by
 intro l l' p
 induction p with
 | nil=>exact fun _ _ h=>h
 | cons x p ih =>
  intro pre hs h
  have:=ih (pre++[x]) (by simpa using hs) (by simpa using h)
  simpa using this
 | swap x y l =>
  intro pre hs h
  rw [Qwx h1 h4 hs]
  omega
 | trans p q ih1 ih2 =>
  intro pre hs h
  refine ih2 pre ⟨?_,fun r hr=>?_⟩ (ih1 pre hs h)
  ·rw [length_append,←p.length_eq,←length_append];exact hs.len
  ·rcases mem_append.mp hr with z | z
   ·exact hs.row r (mem_append_left _ z)
   ·exact hs.row r (mem_append_right _ (p.mem_iff.mpr z))
theorem Q1s {u:List Int} {rest:Tb} (h:Shp k (u::u::rest)):Qae k (u::u::rest)=0:=by
 have:=Qwx h1 h4 (pre:=[]) h
 have:Qae k (u::u::rest) = -Qae k (u::u::rest):=this
 omega
omit h1 h4 in
theorem Qth {α:Type} [DecidableEq α]:∀ {l:List α},¬ l.Nodup→∃ x rest,l.Perm (x::x::rest)
 | [],h=>absurd List.nodup_nil h
 | y::t,h=>by
  by_cases c:y∈t
  ·exact ⟨y,t.erase y,List.Perm.cons y (List.perm_cons_erase c)⟩
  ·obtain ⟨x,rest,p⟩:=Qth (l:=t) fun z=>h (nodup_cons.mpr ⟨c,z⟩)
   exact ⟨x,y::rest,(List.Perm.cons y p).trans ((List.Perm.swap x y (x::rest)).trans (List.Perm.cons x (List.Perm.swap x y rest)))⟩
theorem Q1t {l:Tb} (h:Shp k l) (hd:Qae k l≠0):l.Nodup:=Classical.byContradiction fun z=>by
 obtain ⟨x,rest,p⟩:=Qth z
 have hs:Shp k (x::x::rest):=⟨by rw [←p.length_eq];exact h.len,fun r hr=>h.row r (p.mem_iff.mpr hr)⟩
 exact Qtg h1 h4 p [] h hd (Q1s h1 h4 hs)
omit h1 h4 in
theorem Qrc {α:Type} [DecidableEq α]:∀ (L K:List α),L.Nodup→(∀ x∈L,x∈K)→L.length≤K.length
 | [],K,_,_=>Nat.zero_le _
 | x::L,K,nd,hK=>by
  have hx:=hK x (.head _)
  obtain ⟨n1,n2⟩:=nodup_cons.mp nd
  have:=Qrc L (K.erase x) n2 fun y hy=>(List.mem_erase_of_ne (fun e=>n1 (by rw [←e];exact hy))).mpr (hK y (.tail _ hy))
  rw [List.length_erase_of_mem hx] at this
  have:=List.length_pos_of_mem hx
  rw [length_cons]
  omega
theorem Vn.few {R:List (List Int)} (hR:Lk k R) (h:R.length<k):Vn k R:=fun I hl hr=>Classical.byContradiction fun z=>by
 have nd:=Q1t h1 h4 ⟨hl,fun r hrI=>hR r (hr r hrI)⟩ z
 have:=Qrc I R nd hr
 omega
end
theorem Qaa7 (g:Int) (l:List Int) (p:Nat):ge (l.map (g * ·)) p=g*ge l p:=by
 unfold ge
 rw [getD_eq_getElem?_getD,getElem?_map,getD_eq_getElem?_getD]
 cases l[p]? with
 | none=>simp
 | some v=>rfl
section
variable {n:Nat} {ln:List Int→Option (List Int)} (hl:Lin ln)
theorem Qti {p:Nat}:∀ {S:List (List Int)} {x:List Int},x.length=n→Lk n S→(∀ s∈S,ge s p=0)→ge x p=0→ge (lft x S) p=0
 | [],x,_,_,_,h=>h
 | s::S,x,hx,hS,hp,h=>by
  have hs:=hS s (.head _)
  refine Qti (S:=S) (x:=clr x s) (Qco hx hs) (fun y hy=>hS y (.tail _ hy)) (fun y hy=>hp y (.tail _ hy)) ?_
  unfold clr
  rw [Qhr hx hs,h,hp s (.head _)]
  simp
theorem Qtj:∀ {S:List (List Int)} {x:List Int},x.length=n→Lk n S→S.Pairwise (fun s t=>ge t (ld s)=0)→∀ s∈S,ge (lft x S) (ld s)=0
 | s::S,x,hx,hS,hp,s',hs'=>by
  have hs:=hS s (.head _)
  have hS':Lk n S:=fun y hy=>hS y (.tail _ hy)
  obtain ⟨p1,p2⟩:=List.pairwise_cons.mp hp
  show ge (lft (clr x s) S) (ld s')=0
  rcases mem_cons.mp hs' with rfl | z
  ·refine Qti (n:=n) (Qco hx hs) hS' p1 ?_
   unfold clr
   rw [Qhr hx hs]
   grind
  ·exact Qtj (S:=S) (Qco hx hs) hS' p2 s' z
include hl
theorem Qwy:∀ (rows S0:List (List Int)),Lk n rows→Lk n S0→S0.Pairwise (fun s t=>ge t (ld s)=0)→(rows.foldl (stp ln) S0).Pairwise (fun s t=>ge t (ld s)=0)
 | [],S0,_,_,h=>h
 | row::rows,S0,hL,hS,h=>by
  have hrow:=hL row (.head _)
  rw [foldl_cons]
  have ll:(lft row S0).length=n:=by
   have:∀ (S:List (List Int)) (x:List Int),x.length=n→Lk n S→(lft x S).length=n:=by
    intro S
    induction S with
    | nil=>exact fun x hx _=>hx
    | cons s S ih=>exact fun x hx hS=>ih (clr x s) (Qco hx (hS s (.head _))) fun y hy=>hS y (.tail _ hy)
   exact this S0 row hrow hS
  refine Qwy rows (stp ln S0 row) (fun r hr=>hL r (.tail _ hr)) ?_ ?_
  ·intro s hs
   unfold stp at hs
   cases hln:ln (lft row S0) with
   | none=>rw [hln] at hs;exact hS s hs
   | some l =>
    rw [hln] at hs
    rcases mem_append.mp hs with z | z
    ·exact hS s z
    ·rw [mem_singleton.mp z]
     obtain ⟨g,g0,eg⟩:=hl.yes _ _ hln
     rw [eg,length_map] at ll
     exact ll
  ·unfold stp
   cases hln:ln (lft row S0) with
   | none=>exact h
   | some l =>
    obtain ⟨g,g0,eg⟩:=hl.yes _ _ hln
    refine List.pairwise_append.mpr ⟨h,List.pairwise_singleton _ _,fun s hs t ht=>?_⟩
    rw [mem_singleton.mp ht]
    have:=Qtj hrow hS h s hs
    rw [eg,Qaa7] at this
    exact (Int.mul_eq_zero.mp this).resolve_left g0
end
theorem Q5i {J:List Nat} {A:Nat→Nat→Int} (hs:J.Pairwise (· < ·)) (hz:∀ c∈J,∀ d∈J,d<c→A c d=0) (hd:∀ c∈J,A c c≠0) (h1:1≤J.length) (h4:J.length≤4):Qae J.length (J.map fun c=>J.map fun d=>A c d)≠0:=by
 match J,hs,hz,hd,h1,h4 with
 | [a],_,_,hd,_,_ =>
  have:=hd a (by simp)
  simpa [Qae,woc,ge,sg,Qeh] using this
 | [a,b],hs,hz,hd,_,_ =>
  simp only [List.pairwise_cons,mem_cons,not_mem_nil,or_false] at hs
  have z1:=hz b (by simp) a (by simp) (hs.1 b (by simp))
  have d1:=hd a (by simp)
  have d2:=hd b (by simp)
  have e:Qae 2 [[A a a,A a b],[A b a,A b b]]=A a a*A b b:=by simp [Qae,woc,ge,sg,Qeh,z1]
  show Qae 2 [[A a a,A a b],[A b a,A b b]]≠0
  rw [e]
  exact Int.mul_ne_zero d1 d2
 | [a,b,c],hs,hz,hd,_,_ =>
  simp only [List.pairwise_cons,mem_cons,not_mem_nil,or_false] at hs
  have z1:=hz b (by simp) a (by simp) (hs.1 b (by simp))
  have z2:=hz c (by simp) a (by simp) (hs.1 c (by simp))
  have z3:=hz c (by simp) b (by simp) (hs.2.1 c (by simp))
  have d1:=hd a (by simp)
  have d2:=hd b (by simp)
  have d3:=hd c (by simp)
  have e:Qae 3 [[A a a,A a b,A a c],[A b a,A b b,A b c],[A c a,A c b,A c c]]=A a a*(A b b*A c c):=by simp [Qae,woc,ge,sg,Qeh,z1,z2,z3]
  show Qae 3 [[A a a,A a b,A a c],[A b a,A b b,A b c],[A c a,A c b,A c c]]≠0
  rw [e]
  exact Int.mul_ne_zero d1 (Int.mul_ne_zero d2 d3)
 | [a,b,c,d],hs,hz,hd,_,_ =>
  simp only [List.pairwise_cons,mem_cons,not_mem_nil,or_false] at hs
  have z1:=hz b (by simp) a (by simp) (hs.1 b (by simp))
  have z2:=hz c (by simp) a (by simp) (hs.1 c (by simp))
  have z3:=hz d (by simp) a (by simp) (hs.1 d (by simp))
  have z4:=hz c (by simp) b (by simp) (hs.2.1 c (by simp))
  have z5:=hz d (by simp) b (by simp) (hs.2.1 d (by simp))
  have z6:=hz d (by simp) c (by simp) (hs.2.2.1 d (by simp))
  have d1:=hd a (by simp)
  have d2:=hd b (by simp)
  have d3:=hd c (by simp)
  have d4:=hd d (by simp)
  have e:Qae 4 [[A a a,A a b,A a c,A a d],[A b a,A b b,A b c,A b d],[A c a,A c b,A c c,A c d],[A d a,A d b,A d c,A d d]]=A a a*(A b b*(A c c*A d d)):=by simp [Qae,woc,ge,sg,Qeh,z1,z2,z3,z4,z5,z6]
  show Qae 4 [[A a a,A a b,A a c,A a d],[A b a,A b b,A b c,A b d],[A c a,A c b,A c c,A c d],[A d a,A d b,A d c,A d d]]≠0
  rw [e]
  exact Int.mul_ne_zero d1 (Int.mul_ne_zero d2 (Int.mul_ne_zero d3 d4))
noncomputable def mnr (M:Tb) (I J:List Nat):Tb:=I.map fun i=>res J (M.getD i [])
noncomputable def Q5j (n:Nat) (I:List Nat):Prop:=I.Pairwise (· < ·)∧∀ i∈I,i<n
theorem Qhs (n:Nat) (L:List Nat) (nd:L.Nodup) (hL:∀ i∈L,i<n):Q5j n ((List.range n).filter fun c=>L.contains c)∧((List.range n).filter fun c=>L.contains c).Perm L:=by
 refine ⟨⟨List.pairwise_lt_range.sublist List.filter_sublist,fun i hi=>mem_range.mp (mem_filter.mp hi).1⟩,?_⟩
 refine (List.perm_ext_iff_of_nodup (List.nodup_range.sublist List.filter_sublist) nd).mpr fun a=>?_
 rw [mem_filter,mem_range]
 constructor
 ·rintro ⟨_,h⟩
  simpa using h
 ·intro h
  exact ⟨hL a h,by simpa using h⟩
section
variable {n:Nat} {M:Tb} (hM:Shp n M) (h4:n≤4) {ln:List Int→Option (List Int)} (hl:Lin ln)
include hM hl
theorem Qf4:(∀ s∈Qap ln M,Cl n M s∧¬ isZ s)∧(∀ r∈M,Cl n (Qap ln M) r)∧(Qap ln M).Pairwise (fun s t=>ge t (ld s)=0):=by
 obtain ⟨a,b⟩:=Qww hl (n:=n) M [] [] hM.row (fun r hr=>(nomatch hr)) (fun r hr=>(nomatch hr)) (fun r hr=>(nomatch hr))
 exact ⟨a,b,Qwy hl (n:=n) M [] hM.row (fun r hr=>(nomatch hr)) .nil⟩
theorem Ql9 {k:Nat} (hk:(Qap ln M).length<k) (k4:k≤4) {I J:List Nat} (hI:I.length=k) (hJ:J.length=k) (hi:∀ i∈I,i<n):Qae k (mnr M I J)=0:=by
 obtain ⟨a,b,_⟩:=Qf4 hM hl
 have hS:Lk n (Qap ln M):=fun s hs=>(a s hs).1.1
 have v:=Vn.few (by omega) k4 (Qra hJ (Qap ln M)) (by rw [length_map];exact hk)
 have w:=Qvd hS (by omega) k4 hJ v M b
 refine w _ (by unfold mnr;rw [length_map,hI]) fun r hr=>?_
 obtain ⟨i,him,rfl⟩:=mem_map.mp hr
 have:i<M.length:=by rw [hM.len];exact hi i him
 rw [getD_eq_getElem?_getD,getElem?_eq_getElem this]
 exact mem_map_of_mem (getElem_mem this)
theorem Qve:((Qap ln M).map ld).Nodup:=by
 obtain ⟨a,_,c⟩:=Qf4 hM hl
 unfold List.Nodup
 rw [List.pairwise_map]
 refine c.imp_of_mem fun {s t} hs ht h e=>?_
 have:=(Qj8 (a t ht).2).2.1
 rw [←e] at this
 exact this h
theorem Qj9:(Qap ln M).length≤n:=by
 obtain ⟨a,_,_⟩:=Qf4 hM hl
 have:=Qrc ((Qap ln M).map ld) (List.range n) (Qve hM hl) fun x hx=>by
  obtain ⟨s,hs,rfl⟩:=mem_map.mp hx
  have:=(Qj8 (a s hs).2).1
  rw [(a s hs).1.1] at this
  exact mem_range.mpr this
 rwa [length_map,length_range] at this
include h4
theorem Qn7 (h1:1≤(Qap ln M).length):∃ I J,Q5j n I∧Q5j n J∧I.length=(Qap ln M).length∧J.length=(Qap ln M).length∧Qae (Qap ln M).length (mnr M I J)≠0:=by
 obtain ⟨a,b,_⟩:=Qf4 hM hl
 have rl:=Qj9 hM hl
 have nd:=Qve hM hl
 have lt:∀ i∈(Qap ln M).map ld,i<n:=fun x hx=>by
  obtain ⟨s,hs,rfl⟩:=mem_map.mp hx
  have:=(Qj8 (a s hs).2).1
  rwa [(a s hs).1.1] at this
 obtain ⟨rJ,pJ⟩:=Qhs n _ nd lt
 generalize hJ:((List.range n).filter fun c=>((Qap ln M).map ld).contains c)=J at rJ pJ
 have lJ:J.length=(Qap ln M).length:=by rw [pJ.length_eq,length_map]
 have ex:∀ c,∃ s,c∈J→s∈Qap ln M∧ld s=c:=fun c=>by
  by_cases h:c∈J
  ·obtain ⟨s,hs,e⟩:=mem_map.mp (pJ.mem_iff.mp h)
   exact ⟨s,fun _=>⟨hs,e⟩⟩
  ·exact ⟨[],fun z=>absurd z h⟩
 have F0:∃ f:Nat→List Int,∀ c,c∈J→f c∈Qap ln M∧ld (f c)=c:=⟨fun c=>Classical.choose (ex c),fun c=>Classical.choose_spec (ex c)⟩
 obtain ⟨f,hf⟩:=F0
 have td:=Q5i (J:=J) (A:=fun c d=>ge (f c) d) rJ.1 (fun c hc d _ hd=>by
  obtain ⟨m,e⟩:=hf c hc
  exact (Qj8 (a _ m).2).2.2 d (by rw [e];exact hd)) (fun c hc=>by
  obtain ⟨m,e⟩:=hf c hc
  have:=(Qj8 (a _ m).2).2.1
  rwa [e] at this) (by omega) (by omega)
 rw [lJ] at td
 have nv:¬ Vn (Qap ln M).length ((Qap ln M).map (res J)):=fun v=>td (v _ (by rw [length_map,lJ]) fun r hr=>by
  obtain ⟨c,hc,rfl⟩:=mem_map.mp hr
  exact mem_map.mpr ⟨f c,(hf c hc).1,rfl⟩)
 have nm:¬ Vn (Qap ln M).length (M.map (res J)):=fun v=>nv (Qvd hM.row h1 (by omega) lJ v _ fun s hs=>(a s hs).1)
 obtain ⟨L,hLl,hLm,hLd⟩:∃ L:Tb,L.length=(Qap ln M).length∧(∀ r∈L,r∈M.map (res J))∧Qae (Qap ln M).length L≠0:=by
  refine Classical.byContradiction fun z=>nm fun L h1 h2=>Classical.byContradiction fun w=>z ⟨L,h1,h2,w⟩
 have idx:∀ L:Tb,(∀ r∈L,r∈M.map (res J))→∃ I:List Nat,(∀ i∈I,i<n)∧mnr M I J=L:=by
  intro L
  induction L with
  | nil=>exact fun _=>⟨[],fun i hi=>(nomatch hi),rfl⟩
  | cons r L ih =>
   intro h
   obtain ⟨I,i1,i2⟩:=ih fun x hx=>h x (.tail _ hx)
   obtain ⟨m,hm,rfl⟩:=mem_map.mp (h r (.head _))
   obtain ⟨i,hi,rfl⟩:=List.getElem_of_mem hm
   refine ⟨i::I,fun j hj=>?_,?_⟩
   ·rcases mem_cons.mp hj with rfl | z
    ·rw [←hM.len];exact hi
    ·exact i1 j z
   ·show res J (M.getD i [])::mnr M I J=_
    rw [i2,getD_eq_getElem?_getD,getElem?_eq_getElem hi]
    rfl
 obtain ⟨I,iI,rfl⟩:=idx L hLm
 have lI:I.length=(Qap ln M).length:=by unfold mnr at hLl;rwa [length_map] at hLl
 have shp:Shp (Qap ln M).length (mnr M I J):=⟨hLl,fun r hr=>by
  obtain ⟨i,_,rfl⟩:=mem_map.mp hr
  exact Qq9 lJ _⟩
 have ndI:I.Nodup:=by
  have:=Q1t h1 (by omega) shp hLd
  unfold mnr List.Nodup at this
  rw [List.pairwise_map] at this
  exact this.imp fun {x y} h e=>h (by rw [e])
 obtain ⟨rI,pI⟩:=Qhs n I ndI iI
 refine ⟨_,J,rI,rJ,by rw [pI.length_eq,lI],lJ,?_⟩
 exact Qtg h1 (by omega) (pI.symm.map _) [] shp hLd
end
noncomputable def gF (d:Int) (r:List Int):Int:=r.foldl (fun d x=>((Int.gcd d x:Nat):Int)) d
theorem Qvf:∀ (r:List Int) (d:Int),gF d r ∣ d∧∀ x∈r,gF d r ∣ x
 | [],d=>⟨Int.dvd_refl _,fun x h=>by cases h⟩
 | y::r,d=>by
  obtain ⟨h1,h2⟩:=Qvf r ((Int.gcd d y:Nat):Int)
  have e:gF d (y::r)=gF ((Int.gcd d y:Nat):Int) r:=rfl
  rw [e]
  refine ⟨Int.dvd_trans h1 (Int.gcd_dvd_left ..),fun x hx=>?_⟩
  rcases mem_cons.mp hx with rfl | hx
  ·exact Int.dvd_trans h1 (Int.gcd_dvd_right ..)
  ·exact h2 x hx
theorem Q1u {N:Nat}:∀ (r:List Int) (d:Int),d.natAbs<N→(∀ x∈r,x.natAbs<N)→(gF d r).natAbs<N
 | [],d,h,_=>h
 | y::r,d,h,hr=>by
  have e:gF d (y::r)=gF ((Int.gcd d y:Nat):Int) r:=rfl
  rw [e]
  refine Q1u r _ ?_ fun x hx=>hr x (.tail _ hx)
  rw [Int.natAbs_natCast]
  have hy:=hr y (.head _)
  rw [Int.gcd_eq_natAbs_gcd_natAbs]
  by_cases z:y.natAbs=0
  ·rw [z,Nat.gcd_zero_right];exact h
  ·exact Nat.lt_of_le_of_lt (Nat.gcd_le_right _ (by omega)) hy
noncomputable def dvr (r:List Int):Int:=if ge r (ld r)<0 then -gF 0 r else gF 0 r
theorem Qma (r:List Int):∀ x∈r,dvr r ∣ x:=fun x hx=>by
 have h:=(Qvf r 0).2 x hx
 unfold dvr
 split
 ·exact Int.neg_dvd.mpr h
 ·exact h
theorem Qir {r:List Int} {j:Nat} (h:j<r.length):ge r j∈r:=by
 unfold ge
 rw [getD_eq_getElem?_getD,getElem?_eq_getElem h]
 exact getElem_mem h
theorem Qn8 (r:List Int):ld r<r.length↔¬ isZ r:=by
 constructor
 ·intro h z
  have:=List.findIdx_getElem (p:=nzI) (xs:=r) (w:=h)
  have e:=z _ (getElem_mem h)
  unfold ld at e
  rw [e] at this
  exact absurd this (by decide)
 ·exact fun h=>(Qj8 h).1
theorem Qrd {r:List Int} (h:ld r<r.length):dvr r≠0:=fun z=>by
 have h1:=Qma r _ (Qir h)
 rw [z] at h1
 exact (Qj8 ((Qn8 r).mp h)).2.1 (Int.zero_dvd.mp h1)
theorem Qaa8 {N:Nat} (h0:0<N) {r:List Int} (h:∀ x∈r,x.natAbs<N):(dvr r).natAbs<N:=by
 have:=Q1u r 0 (by exact h0) h
 unfold dvr
 split
 ·rw [Int.natAbs_neg];exact this
 ·exact this
noncomputable def lnR (r:List Int):Option (List Int):=if ld r<r.length then some (r.map fun x=>x.fdiv (dvr r)) else none
theorem Qb6:Lin lnR where
 no:=fun r=>by
  unfold lnR
  split
  ·rename_i h
   exact ⟨fun z=>(nomatch z),fun z=>absurd z ((Qn8 r).mp h)⟩
  ·rename_i h
   exact ⟨fun _=>Classical.byContradiction fun z=>h ((Qn8 r).mpr z),fun _=>rfl⟩
 yes:=fun r l e=>by
  unfold lnR at e
  split at e
  ·rename_i h
   cases e
   refine ⟨dvr r,Qrd h,?_⟩
   rw [map_map]
   conv=>lhs;rw [←map_id r]
   apply map_congr_left
   intro x hx
   show x=dvr r*x.fdiv (dvr r)
   exact (Int.mul_fdiv_cancel' (Qma r x hx)).symm
  ·cases e
theorem Qaew {N:Nat} {x g:Int} (hg:g≠0) (hd:g ∣ x) (hx:x.natAbs<N):(x.fdiv g).natAbs<N:=by
 obtain ⟨c,rfl⟩:=hd
 rw [Int.mul_fdiv_cancel_left _ hg]
 rw [Int.natAbs_mul] at hx
 have:1*c.natAbs≤g.natAbs*c.natAbs:=Nat.mul_le_mul_right _ (by omega)
 omega
theorem Q1v {N:Nat} {r l:List Int} (h:∀ x∈r,x.natAbs<N) (e:lnR r=some l):l.length=r.length∧∀ x∈l,x.natAbs<N:=by
 unfold lnR at e
 split at e
 ·rename_i z
  cases e
  refine ⟨length_map ..,fun x hx=>?_⟩
  obtain ⟨y,hy,rfl⟩:=mem_map.mp hx
  exact Qaew (Qrd z) (Qma r y hy) (h y hy)
 ·cases e
theorem Q1w (M:Tb) (r:List Int):(rb M r).length=M.length:=by unfold rb;rw [length_map,length_range]
theorem Qda {n:Nat} {A M:Tb} (hA:Shp n A) (h:Shp n M):Shp n (tms A M):=by
 refine ⟨by unfold tms;rw [length_map,hA.len],fun r hr=>?_⟩
 unfold tms at hr
 obtain ⟨x,_,rfl⟩:=mem_map.mp hr
 rw [Q1w,h.len]
theorem Qka {n:Nat} {f:Nat→Int} {j:Nat} (h:j<n):ge ((List.range n).map f) j=f j:=by
 unfold ge
 rw [getD_eq_getElem?_getD,getElem?_map,List.getElem?_range h]
 rfl
theorem Qwz (M:Tb) (r:List Int) {k:Nat} (hk:k<M.length):ge (rb M r) k=Qbb r (col M k):=Qka hk
theorem Qw0 {r s:List Int} {n:Nat} (hr:r.length=n) (hs:s.length=n) (h:∀ j,j<n→ge r j=ge s j):r=s:=by
 refine List.ext_getElem (by rw [hr,hs]) fun i a b=>?_
 have g:∀ (x:List Int) (h:i<x.length),x[i]=ge x i:=fun x h=>by unfold ge;rw [getD_eq_getElem?_getD,getElem?_eq_getElem h];rfl
 rw [g,g,h i (by omega)]
noncomputable def Sm (n:Nat) (f:Nat→Int):Int:=((List.range n).map f).sum
theorem Qdb (n:Nat) (f:Nat→Int):Sm (n+1) f=Sm n f+f n:=by
 unfold Sm
 rw [List.range_succ,map_append,List.sum_append]
 simp
theorem Qb7 {n:Nat} {f g:Nat→Int} (h:∀ i,i<n→f i=g i):Sm n f=Sm n g:=by
 unfold Sm
 rw [map_congr_left fun i hi=>h i (mem_range.mp hi)]
theorem Qre (f g:Nat→Int):∀ n,Sm n (fun i=>f i+g i)=Sm n f+Sm n g
 | 0=>rfl
 | n+1=>by
  rw [Qdb,Qdb,Qdb,Qre f g n]
  omega
theorem Qmb (f:Nat→Int) (c:Int):∀ n,Sm n f*c=Sm n fun i=>f i*c
 | 0=>by show (0:Int)*c=0;rw [Int.zero_mul]
 | n+1=>by rw [Qdb,Qdb,Int.add_mul,Qmb f c n]
theorem Qkb (f:Nat→Int) (c:Int):∀ n,c*Sm n f=Sm n fun i=>c*f i
 | 0=>by show c*(0:Int)=0;rw [Int.mul_zero]
 | n+1=>by rw [Qdb,Qdb,Int.mul_add,Qkb f c n]
theorem Qmc:∀ n,Sm n (fun _=>0)=0
 | 0=>rfl
 | n+1=>by rw [Qdb,Qmc n];rfl
theorem Qw1 (f:Nat→Nat→Int) (m:Nat):∀ n,Sm n (fun i=>Sm m (fun j=>f i j))=Sm m (fun j=>Sm n (fun i=>f i j))
 | 0=>(Qmc m).symm
 | n+1=>by
  rw [Qdb,Qw1 f m n,←Qre]
  exact Qb7 fun j _=>(Qdb n fun i=>f i j).symm
theorem Qi9 (M:Tb) (j l:Nat):ge (col M j) l=ge (M.getD l []) j:=by
 unfold col
 conv=>lhs;unfold ge
 rw [getD_eq_getElem?_getD,getD_eq_getElem?_getD,getElem?_map]
 cases M[l]? <;> rfl
theorem Qf5 {n:Nat} {M:Tb} (h:Shp n M) {l:Nat} (hl:l<n):(M.getD l []).length=n:=by
 have hl':l<M.length:=by rw [h.len];exact hl
 rw [getD_eq_getElem?_getD,getElem?_eq_getElem hl',Option.getD_some]
 exact h.row _ (getElem_mem hl')
theorem Qn9 {n:Nat} {A M:Tb} (h:Shp n A) {l:Nat} (hl:l<n):(tms A M).getD l []=rb M (A.getD l []):=by
 have hl':l<A.length:=by rw [h.len];exact hl
 unfold tms
 rw [getD_eq_getElem?_getD,getD_eq_getElem?_getD,getElem?_map,getElem?_eq_getElem hl']
 rfl
theorem Qja {n:Nat} {r:List Int} (h:r.length=n) (M:Tb) (j:Nat):Qbb r (col M j)=Sm n fun l=>ge r l*ge (M.getD l []) j:=by
 unfold Qbb
 rw [h]
 exact Qb7 fun l _=>by rw [Qi9]
theorem Q1x {n:Nat} {B C:Tb} (hB:Shp n B) (hC:Shp n C) {r:List Int} (hr:r.length=n):rb C (rb B r)=rb (tms B C) r:=by
 have lt:=(Qda hB hC).len
 conv=>lhs;unfold rb
 conv=>rhs;unfold rb
 rw [hC.len,lt]
 refine map_congr_left fun j hj=>?_
 have hj:=mem_range.mp hj
 show Qbb (rb B r) (col C j)=Qbb r (col (tms B C) j)
 rw [Qja (n:=n) (by rw [Q1w,hB.len]),Qja hr]
 have e1:(Sm n fun k=>ge (rb B r) k*ge (C.getD k []) j)=Sm n fun k=>Sm n fun l=>ge r l*ge (B.getD l []) k*ge (C.getD k []) j:=Qb7 fun k hk=>by
  rw [Qwz B r (by rw [hB.len];exact hk),Qja hr,Qmb]
 have e2:(Sm n fun l=>ge r l*ge ((tms B C).getD l []) j)=Sm n fun l=>Sm n fun k=>ge r l*ge (B.getD l []) k*ge (C.getD k []) j:=Qb7 fun l hl=>by
  rw [Qn9 hB hl,Qwz C _ (by rw [hC.len];exact hj),Qja (Qf5 hB hl),Qkb]
  exact Qb7 fun k _=>(Int.mul_assoc _ _ _).symm
 rw [e1,e2,Qw1]
theorem Qp4 {n:Nat} {A B C:Tb} (hA:Shp n A) (hB:Shp n B) (hC:Shp n C):tms (tms A B) C=tms A (tms B C):=by
 unfold tms
 rw [map_map]
 refine map_congr_left fun r hr=>?_
 show rb C (rb B r)=_
 exact Q1x hB hC (hA.row r hr)
noncomputable def tr (M:Tb):Tb:=(List.range M.length).map (col M)
theorem Qdh {n:Nat} {M:Tb} (h:Shp n M):Shp n (tr M):=by
 unfold tr
 refine ⟨by rw [length_map,length_range,h.len],fun r hr=>?_⟩
 obtain ⟨j,_,rfl⟩:=mem_map.mp hr
 unfold col
 rw [length_map,h.len]
theorem Qib {n:Nat} {M:Tb} (h:Shp n M) {i:Nat} (hi:i<n):(tr M).getD i []=col M i:=by
 unfold tr
 rw [getD_eq_getElem?_getD,getElem?_map,List.getElem?_range (by rw [h.len];exact hi)]
 rfl
theorem Qaa9 {n:Nat} {M:Tb} (h:Shp n M) (h1:1≤n) (h4:n≤4):Qae n (tr M)=Qae n M:=by
 refine Qk9 (P:=fun n M=>Qae n (tr M)=Qae n M) ?_ ?_ ?_ ?_ h h1 h4 <;> intros <;>
  simp [tr,col,Qae,woc,ge,sg,Qeh,List.range,List.range.loop] <;> grind
theorem Q7h {n:Nat} {M:Tb} (h:Shp n M) (h1:1≤n) (h4:n≤4):tr (tr M)=M:=by
 refine Qk9 (P:=fun n M=>tr (tr M)=M) ?_ ?_ ?_ ?_ h h1 h4 <;> intros <;>
  simp [tr,col,ge,List.range,List.range.loop]
theorem Qrf {n:Nat} {A B:Tb} (hA:Shp n A) (hB:Shp n B) (h:∀ i j,i<n→j<n→ge (A.getD i []) j=ge (B.getD i []) j):A=B:=by
 refine List.ext_getElem (by rw [hA.len,hB.len]) fun i a b=>?_
 have g:∀ (x:Tb) (h:i<x.length),x[i]=x.getD i []:=fun x h=>by rw [getD_eq_getElem?_getD,getElem?_eq_getElem h];rfl
 have hi:i<n:=by rw [←hA.len];exact a
 rw [g A a,g B b]
 exact Qw0 (Qf5 hA hi) (Qf5 hB hi) fun j hj=>h i j hi hj
theorem Q1y {n:Nat} {A B:Tb} (hA:Shp n A) (hB:Shp n B):tr (tms A B)=tms (tr B) (tr A):=by
 have hAB:=Qda hA hB
 refine Qrf (Qdh hAB) (Qda (Qdh hB) (Qdh hA)) fun i j hi hj=>?_
 rw [Qib hAB hi,Qi9,Qn9 hA hj,Qwz B _ (by rw [hB.len];exact hi),Qn9 (Qdh hB) hi,Qwz (tr A) _ (by rw [(Qdh hA).len];exact hj),Qja (Qf5 hA hj),Qja (Qf5 (Qdh hB) hi)]
 refine Qb7 fun k hk=>?_
 rw [Qib hB hi,Qib hA hk,Qi9,Qi9,Int.mul_comm]
noncomputable def rk (M:Tb):Nat:=(Qap lnR M).length
theorem Qoa {n:Nat} (M:Tb) {I J:List Nat} {i:Nat} (hi:i<I.length):(mnr M I J).getD i []=res J (M.getD (I.getD i 0) []):=by
 unfold mnr
 rw [getD_eq_getElem?_getD,getElem?_map,getElem?_eq_getElem hi,getD_eq_getElem?_getD (l:=I),getElem?_eq_getElem hi]
 rfl
theorem Qvg (r:List Int) {J:List Nat} {j:Nat} (hj:j<J.length):ge (res J r) j=ge r (J.getD j 0):=by
 unfold res
 conv=>lhs;unfold ge
 rw [getD_eq_getElem?_getD,getElem?_map,getElem?_eq_getElem hj,getD_eq_getElem?_getD (l:=J),getElem?_eq_getElem hj]
 rfl
theorem Qkc {k:Nat} (M:Tb) {I J:List Nat} (hI:I.length=k) (hJ:J.length=k):Shp k (mnr M I J):=by
 refine ⟨by unfold mnr;rw [length_map,hI],fun r hr=>?_⟩
 unfold mnr at hr
 obtain ⟨i,_,rfl⟩:=mem_map.mp hr
 exact Qq9 hJ _
theorem Qaba {n k:Nat} {M:Tb} (h:Shp n M) {I J:List Nat} (hI:I.length=k) (hJ:J.length=k) (hi:∀ i∈I,i<n):mnr (tr M) I J=tr (mnr M J I):=by
 refine Qrf (n:=k) (Qkc (tr M) hI hJ) (Qdh (Qkc M hJ hI)) fun i j h1 h2=>?_
 have hd:I.getD i 0<n:=by
  rw [getD_eq_getElem?_getD,getElem?_eq_getElem (show i<I.length by omega)]
  exact hi _ (getElem_mem _)
 rw [Qoa (n:=n) (tr M) (by omega),Qvg _ (by omega),Qib h hd,Qi9,Qib (Qkc M hJ hI) h1,Qi9,Qoa (n:=n) M (by omega),Qvg _ (by omega)]
theorem Qtk {n:Nat} {M:Tb} (h:Shp n M) (h4:n≤4):rk M≤rk (tr M):=by
 refine Classical.byContradiction fun z=>?_
 have z:(Qap lnR (tr M)).length<(Qap lnR M).length:=Nat.lt_of_not_le z
 have rl:(Qap lnR M).length≤n:=Qj9 h Qb6
 obtain ⟨I,J,rI,rJ,lI,lJ,hd⟩:=Qn7 h h4 Qb6 (by omega)
 refine hd ?_
 have e:=Ql9 (Qdh h) Qb6 z (by omega) lJ lI rJ.2
 rw [Qaba h lJ lI rJ.2,Qaa9 (Qkc M lI lJ) (by omega) (by omega)] at e
 exact e
theorem Qw2 {n:Nat} {M:Tb} (h:Shp n M) (h1:1≤n) (h4:n≤4):rk (tr M)=rk M:=by
 have a:=Qtk h h4
 have b:=Qtk (Qdh h) h4
 rw [Q7h h h1 h4] at b
 omega
theorem Qrg {M:Tb} {i:Nat} (h:i<M.length):M.getD i []∈M:=by
 rw [getD_eq_getElem?_getD,getElem?_eq_getElem h]
 exact getElem_mem h
theorem Qaex {n:Nat} {B:Tb} (hB:Shp n B) {r:List Int} (hr:r.length=n):Cl n B (rb B r):=by
 have key:∀ m,m≤n→Cl n B ((List.range n).map fun j=>Sm m fun k=>ge r k*ge (B.getD k []) j):=by
  intro m
  induction m with
  | zero =>
   intro _
   have e:((List.range n).map fun j=>Sm 0 fun k=>ge r k*ge (B.getD k []) j)=List.replicate n 0:=by
    refine List.eq_replicate_iff.mpr ⟨by rw [length_map,length_range],fun x hx=>?_⟩
    obtain ⟨j,_,rfl⟩:=mem_map.mp hx
    rfl
   rw [e]
   exact Qwv
  | succ m ih =>
   intro hm
   have c1:=ih (by omega)
   have c2:=Qn6 hB.row (x:=B.getD m []) (Qrg (by rw [hB.len];omega))
   have c3:=Qrb c1 c2 1 (ge r m)
   have e:lin 1 (ge r m) ((List.range n).map fun j=>Sm m fun k=>ge r k*ge (B.getD k []) j) (B.getD m [])=(List.range n).map fun j=>Sm (m+1) fun k=>ge r k*ge (B.getD k []) j:=by
    refine Qw0 c3.1 (by rw [length_map,length_range]) fun j hj=>?_
    rw [Qhr c1.1 c2.1,Qka hj,Qka hj,Qdb,Int.one_mul]
   rw [e] at c3
   exact c3
 have:=key n (Nat.le_refl n)
 have e:rb B r=(List.range n).map fun j=>Sm n fun k=>ge r k*ge (B.getD k []) j:=by
  unfold rb
  rw [hB.len]
  exact map_congr_left fun j _=>Qja hr B j
 rw [e]
 exact this
theorem Qtl {n:Nat} {A B:Tb} (hA:Shp n A) (hB:Shp n B) (h4:n≤4):rk (tms A B)≤rk B:=by
 refine Classical.byContradiction fun z=>?_
 have z:(Qap lnR B).length<(Qap lnR (tms A B)).length:=Nat.lt_of_not_le z
 have hAB:=Qda hA hB
 have rl:(Qap lnR (tms A B)).length≤n:=Qj9 hAB Qb6
 obtain ⟨I,J,rI,rJ,lI,lJ,hd⟩:=Qn7 hAB h4 Qb6 (by omega)
 refine hd ?_
 have hV:Vn (Qap lnR (tms A B)).length (B.map (res J)):=fun K hl hr=>by
  have ex:∀ r∈K,∃ i,i<n∧res J (B.getD i [])=r:=fun r hrK=>by
   obtain ⟨s,hs,rfl⟩:=mem_map.mp (hr r hrK)
   obtain ⟨i,hi,rfl⟩:=List.mem_iff_getElem.mp hs
   exact ⟨i,by rw [←hB.len];exact hi,by rw [getD_eq_getElem?_getD,getElem?_eq_getElem hi];rfl⟩
  have exK:∀ K:Tb,(∀ r∈K,∃ i,i<n∧res J (B.getD i [])=r)→∃ I':List Nat,I'.length=K.length∧(∀ i∈I',i<n)∧mnr B I' J=K:=fun K=>by
   induction K with
   | nil=>exact fun _=>⟨[],rfl,fun i hi=>(nomatch hi),rfl⟩
   | cons r K ih =>
    intro h
    obtain ⟨i,hi,e⟩:=h r (.head _)
    obtain ⟨I',l',h',e'⟩:=ih fun r hr=>h r (.tail _ hr)
    refine ⟨i::I',by rw [length_cons,length_cons,l'],fun j hj=>?_,by unfold mnr at e' ⊢;rw [map_cons,e',e]⟩
    rcases mem_cons.mp hj with rfl | hj
    ·exact hi
    ·exact h' j hj
  obtain ⟨I',l',h',rfl⟩:=exK K ex
  exact Ql9 hB Qb6 z (by omega) (by omega) lJ h'
 have w:=Qvd hB.row (by omega) (by omega) lJ hV (tms A B) fun x hx=>by
  unfold tms at hx
  obtain ⟨r,hr,rfl⟩:=mem_map.mp hx
  exact Qaex hB (hA.row r hr)
 refine w _ (by unfold mnr;rw [length_map,lI]) fun r hr=>?_
 unfold mnr at hr
 obtain ⟨i,hi,rfl⟩:=mem_map.mp hr
 exact mem_map_of_mem (Qrg (by rw [hAB.len];exact rI.2 i hi))
theorem Q1z {n:Nat} {A B:Tb} (hA:Shp n A) (hB:Shp n B) (h1:1≤n) (h4:n≤4):rk (tms A B)≤rk A:=by
 rw [←Qw2 (Qda hA hB) h1 h4,Q1y hA hB,←Qw2 hA h1 h4]
 exact Qtl (Qdh hB) (Qdh hA) h4
noncomputable def Nou (M:Tb):Prop:=∀ r∈M,∀ x∈r,(x:Int)=0
theorem det1 (a:Int):Qae 1 [[a]]=a:=by simp [Qae,woc,ge,sg,Qeh]
theorem Q5k {n:Nat} {M:Tb} (h:Shp n M) (h1:1≤n):rk M=0↔Nou M:=by
 constructor
 ·intro z r hr x hx
  have z:(Qap lnR M).length<1:=by have z:(Qap lnR M).length=0:=z;omega
  obtain ⟨i,hi,rfl⟩:=List.mem_iff_getElem.mp hr
  obtain ⟨j,hj,rfl⟩:=List.mem_iff_getElem.mp hx
  have e:=Ql9 h Qb6 z (by omega) (I:=[i]) (J:=[j]) rfl rfl (fun k hk=>by rw [mem_singleton.mp hk,←h.len];exact hi)
  have e2:mnr M [i] [j]=[[ge (M.getD i []) j]]:=rfl
  rw [e2,det1] at e
  rw [getD_eq_getElem?_getD,getElem?_eq_getElem hi] at e
  unfold ge at e
  rw [getD_eq_getElem?_getD] at e
  have e:(M[i][j]?).getD 0=0:=e
  rw [getElem?_eq_getElem hj] at e
  exact e
 ·intro z
  obtain ⟨a,_,_⟩:=Qf4 h Qb6
  have e:Qap lnR M=[]:=by
   cases hs:Qap lnR M with
   | nil=>rfl
   | cons s S =>
    exfalso
    obtain ⟨c,nz⟩:=a s (by rw [hs];exact .head _)
    refine nz fun x hx=>?_
    obtain ⟨j,hj,rfl⟩:=List.mem_iff_getElem.mp hx
    have hV:Vn 1 (M.map (res [j])):=fun I hl hr=>by
     match I,hl with
     | [r],_ =>
      obtain ⟨t,ht,rfl⟩:=mem_map.mp (hr r (.head _))
      have e:res [j] t=[ge t j]:=rfl
      rw [e,det1]
      unfold ge
      rw [getD_eq_getElem?_getD]
      cases et:t[j]? with
      | none=>rfl
      | some v=>exact z t ht v (mem_of_getElem? et)
    have v:=c.2 1 [j] M (by decide) (by decide) rfl h.row (fun r hr=>hr) hV
    have d:=v [res [j] s] rfl fun r hr=>by rw [mem_singleton.mp hr,map_cons];exact .head _
    have e:res [j] s=[ge s j]:=rfl
    rw [e,det1] at d
    unfold ge at d
    rw [getD_eq_getElem?_getD,getElem?_eq_getElem hj] at d
    exact d
  show (Qap lnR M).length=0
  rw [e]
  rfl
theorem Qtm {n:Nat} {I:List Nat} (h:Q5j n I) (hl:I.length=n):I=List.range n:=by
 have pw:=List.pairwise_iff_getElem.mp h.1
 have lo:∀ (k:Nat) (hk:k<I.length),k≤I[k]:=by
  intro k
  induction k with
  | zero=>intro _;omega
  | succ k ih =>
   intro hk
   have a:=ih (by omega)
   have b:=pw k (k+1) (by omega) hk (by omega)
   omega
 have up:∀ (d k:Nat) (hk:k+d<I.length),I[k]+d≤I[k+d]:=by
  intro d
  induction d with
  | zero=>intro k hk;exact Nat.le_refl _
  | succ d ih =>
   intro k hk
   have a:=ih k (by omega)
   have b:=pw (k+d) (k+(d+1)) (by omega) hk (by omega)
   omega
 refine List.ext_getElem (by rw [length_range,hl]) fun k a b=>?_
 rw [List.getElem_range]
 have h1:=lo k a
 have h2:=up (n-1-k) k (by omega)
 have h3:=h.2 _ (getElem_mem (show k+(n-1-k)<I.length by omega))
 omega
theorem Qw3 {n:Nat} {M:Tb} (h:Shp n M):mnr M (List.range n) (List.range n)=M:=by
 refine Qrf (n:=n) (Qkc M length_range length_range) h fun i j hi hj=>?_
 have g:∀ k,k<n→(List.range n).getD k 0=k:=fun k hk=>by rw [getD_eq_getElem?_getD,List.getElem?_range hk];rfl
 rw [Qoa (n:=n) M (by rw [length_range];exact hi),Qvg _ (by rw [length_range];exact hj),g i hi,g j hj]
theorem Q7i {n:Nat} {M:Tb} (h:Shp n M):rk M≤n:=Qj9 h Qb6
theorem Q5l {n:Nat} {M:Tb} (h:Shp n M) (h1:1≤n) (h4:n≤4):rk M=n↔Qae n M≠0:=by
 constructor
 ·intro z
  have z:(Qap lnR M).length=n:=z
  obtain ⟨I,J,rI,rJ,lI,lJ,hd⟩:=Qn7 h h4 Qb6 (by omega)
  rw [z] at lI lJ hd
  rw [Qtm rI lI,Qtm rJ lJ,Qw3 h] at hd
  exact hd
 ·intro z
  refine Classical.byContradiction fun w=>z ?_
  have l:=Q7i h
  have l2:(Qap lnR M).length<n:=(show rk M<n by omega)
  have e:=Ql9 h Qb6 l2 h4 (I:=List.range n) (J:=List.range n) length_range length_range fun i hi=>mem_range.mp hi
  rw [Qw3 h] at e
  exact e
theorem Qg5 {n:Nat} {r:List Int} (h:r.length=n) (c:List Int):Qbb r c=Sm n fun k=>ge r k*ge c k:=by unfold Qbb;rw [h];rfl
theorem Q10 {n:Nat} {r c:List Int} (hr:r.length=n) (hc:c.length=n):Qbb r c=Qbb c r:=by
 rw [Qg5 hr,Qg5 hc]
 exact Qb7 fun k _=>Int.mul_comm _ _
theorem Qabc (n l:Nat) (c:Int) (h:l<n):Sm n (fun k=>if k=l then c else 0)=c:=by
 induction n with
 | zero=>omega
 | succ n ih =>
  rw [Qdb]
  by_cases z:l=n
  ·subst z
   rw [if_pos rfl,Qb7 (g:=fun _=>0) fun k hk=>if_neg (by omega),Qmc,Int.zero_add]
  ·rw [if_neg (by omega),ih (by omega),Int.add_zero]
noncomputable def lsT (nb s:List Int):List Int:=(nb.map fun x=>x*ge s (ld s)).set (ld s) (-Qbb s nb)
theorem Qrh (nb s:List Int):(lsT nb s).length=nb.length:=by unfold lsT;rw [length_set,length_map]
theorem Qri {nb s:List Int} (hl:ld s<nb.length) (j:Nat):ge (lsT nb s) j=if j=ld s then -Qbb s nb else ge nb j*ge s (ld s):=by
 unfold lsT ge
 rw [getD_eq_getElem?_getD,List.getElem?_set]
 by_cases z:ld s=j
 ·subst z
  rw [if_pos rfl,if_pos rfl,if_pos (by rw [length_map];exact hl)]
  rfl
 ·rw [if_neg z,if_neg (Ne.symm z),getElem?_map,getD_eq_getElem?_getD (l:=nb)]
  cases nb[j]? with
  | none=>show (0:Int)=0*_;rw [Int.zero_mul]
  | some v=>rfl
noncomputable def unl (n at_:Nat):List Int:=(List.range n).map fun k=>if k=at_ then 1 else 0
structure Lo (n at_:Nat) (P:List (List Int)) (nb:List Int):Prop where
 len:nb.length=n
 nz:ge nb at_≠0
 oth:∀ j,j≠at_→j∉P.map ld→ge nb j=0
 orth:∀ s∈P,Qbb s nb=0
structure StO (n at_:Nat) (s:List Int):Prop where
 len:s.length=n
 lt:ld s<n
 nz:ge s (ld s)≠0
 low:∀ j,j<ld s→ge s j=0
 ne:ld s≠at_
theorem Lo.step {n at_:Nat} {P:List (List Int)} {nb s:List Int} (h:Lo n at_ P nb) (hs:StO n at_ s) (hP:∀ p∈P,StO n at_ p∧ld s<ld p):Lo n at_ (P++[s]) (lsT nb s):=by
 have hl:ld s<nb.length:=by rw [h.len];exact hs.lt
 have z0:ge nb (ld s)=0:=h.oth _ hs.ne fun z=>by
  obtain ⟨p,hp,e⟩:=mem_map.mp z
  have:=(hP p hp).2
  omega
 refine ⟨by rw [Qrh,h.len],?_,fun j hj hn=>?_,fun p hp=>?_⟩
 ·rw [Qri hl,if_neg (Ne.symm hs.ne)]
  exact Int.mul_ne_zero h.nz hs.nz
 ·rw [map_append,mem_append,not_or] at hn
  rw [Qri hl,if_neg (fun z=>hn.2 (by rw [z];simp)),h.oth j hj hn.1,Int.zero_mul]
 ·rcases mem_append.mp hp with hp | hp
  ·obtain ⟨a,b⟩:=hP p hp
   have o:=h.orth p hp
   rw [Qg5 a.len] at o ⊢
   have e:Sm n (fun k=>ge p k*ge (lsT nb s) k)=Sm n (fun k=>ge p k*ge nb k*ge s (ld s)):=Qb7 fun k _=>by
    rw [Qri hl]
    by_cases z:k=ld s
    ·subst z
     rw [a.low _ b,Int.zero_mul,Int.zero_mul,Int.zero_mul]
    ·rw [if_neg z,Int.mul_assoc]
   rw [e,←Qmb,o,Int.zero_mul]
  ·rw [mem_singleton.mp hp]
   rw [Qg5 hs.len]
   have e:Sm n (fun k=>ge s k*ge (lsT nb s) k)=Sm n (fun k=>ge s k*ge nb k*ge s (ld s)+if k=ld s then ge s (ld s) * -Qbb s nb else 0):=Qb7 fun k _=>by
    rw [Qri hl]
    by_cases z:k=ld s
    ·subst z
     rw [if_pos rfl,if_pos rfl,z0,Int.mul_zero,Int.zero_mul,Int.zero_add]
    ·rw [if_neg z,if_neg z,Int.mul_assoc,Int.add_zero]
   rw [e,Qre,←Qmb,Qabc n (ld s) _ hs.lt,←Qg5 hs.len nb,Int.mul_comm,Int.mul_neg,Int.add_right_neg]
theorem Qmd (n at_:Nat):(unl n at_).length=n:=by unfold unl;rw [length_map,length_range]
theorem Q11 {n at_:Nat} (h:at_<n):Lo n at_ [] (unl n at_):=by
 refine ⟨Qmd n at_,?_,fun j hj _=>?_,fun s hs=>by cases hs⟩
 ·unfold unl;rw [Qka h,if_pos rfl];decide
 ·by_cases z:j<n
  ·unfold unl;rw [Qka z,if_neg hj]
  ·unfold ge;rw [getD_eq_getElem?_getD,getElem?_eq_none (by rw [Qmd];omega)];rfl
theorem Q12 {n at_:Nat}:∀ (T P:List (List Int)) (nb:List Int),Lo n at_ P nb→(∀ p∈P,StO n at_ p)→(∀ s∈T,StO n at_ s)→(∀ p∈P,∀ s∈T,ld s<ld p)→T.Pairwise (fun a b=>ld b<ld a)→Lo n at_ (P++T) (T.foldl lsT nb)
 | [],P,nb,h,_,_,_,_=>by rw [append_nil];exact h
 | s::T,P,nb,h,hP,hT,hPT,hpw=>by
  have h1:=h.step (hT s (.head _)) fun p hp=>⟨hP p hp,hPT p hp s (.head _)⟩
  have h2:=Q12 T (P++[s]) (lsT nb s) h1 (fun p hp=>by
   rcases mem_append.mp hp with z | z
   ·exact hP p z
   ·rw [mem_singleton.mp z];exact hT s (.head _)) (fun t ht=>hT t (.tail _ ht)) (fun p hp t ht=>by
   rcases mem_append.mp hp with z | z
   ·exact hPT p z t (.tail _ ht)
   ·rw [mem_singleton.mp z];exact (List.pairwise_cons.mp hpw).1 t ht) (List.pairwise_cons.mp hpw).2
  rw [append_assoc] at h2
  exact h2
theorem Q5m {n:Nat} {a b:Int} {u v:List Int} (hu:u.length=n) (hv:v.length=n) (x:List Int):Qbb (lin a b u v) x=a*Qbb u x+b*Qbb v x:=by
 rw [Qg5 (Qco hu hv),Qg5 hu,Qg5 hv,Qkb,Qkb,←Qre]
 refine Qb7 fun k _=>?_
 rw [Qhr hu hv,Int.add_mul,Int.mul_assoc,Int.mul_assoc]
theorem Qw4 {n:Nat} {x:List Int}:∀ (S:List (List Int)) (r:List Int),r.length=n→(∀ s∈S,s.length=n∧ge s (ld s)≠0∧Qbb s x=0)→∃ c:Int,c≠0∧Qbb (lft r S) x=c*Qbb r x
 | [],r,_,_=>⟨1,by decide,by rw [Int.one_mul];rfl⟩
 | s::S,r,hr,hS=>by
  obtain ⟨a,b,c⟩:=hS s (.head _)
  obtain ⟨d,d0,e⟩:=Qw4 (x:=x) S (clr r s) (Qco hr a) fun t ht=>hS t (.tail _ ht)
  refine ⟨d*ge s (ld s),Int.mul_ne_zero d0 b,?_⟩
  show Qbb (lft (clr r s) S) x=_
  rw [e]
  unfold clr
  rw [Q5m hr a,c,Int.mul_zero,Int.add_zero,Int.mul_assoc]
theorem Q5n (S:List (List Int)) (r:List Int):∀ s∈S,s∈stp lnR S r:=fun s hs=>by
 unfold stp
 cases lnR (lft r S) with
 | none=>exact hs
 | some l=>exact mem_append_left _ hs
theorem Qob:∀ (rows S:List (List Int)),∀ s∈S,s∈rows.foldl (stp lnR) S
 | [],_,s,hs=>hs
 | r::rows,S,s,hs=>Qob rows _ s (Q5n S r s hs)
theorem Q13 {r:List Int} (h:isZ r) (x:List Int):Qbb r x=0:=by
 rw [Qg5 rfl,Qb7 (g:=fun _=>0) fun k hk=>?_,Qmc]
 have:ge r k=0:=by
  unfold ge
  rw [getD_eq_getElem?_getD,getElem?_eq_getElem hk]
  exact h _ (getElem_mem hk)
 rw [this,Int.zero_mul]
theorem Qtn {g:Int} (l x:List Int):Qbb (l.map (g * ·)) x=g*Qbb l x:=by
 rw [Qg5 (n:=l.length) (by rw [length_map]),Qg5 rfl,Qkb]
 refine Qb7 fun k _=>?_
 have e:ge (l.map (g * ·)) k=g*ge l k:=by
  unfold ge
  rw [getD_eq_getElem?_getD,getD_eq_getElem?_getD,getElem?_map]
  cases l[k]? with
  | none=>show (0:Int)=g*0;rw [Int.mul_zero]
  | some v=>rfl
 rw [e,Int.mul_assoc]
theorem Qp5 {n:Nat} {x:List Int}:∀ (rows S:List (List Int)),(∀ r∈rows,r.length=n)→(∀ s∈rows.foldl (stp lnR) S,s.length=n∧ge s (ld s)≠0∧Qbb s x=0)→∀ r∈rows,Qbb r x=0
 | [],_,_,_,r,hr=>by cases hr
 | r::rows,S,hrow,hS,t,ht=>by
  have h2:=Qp5 (x:=x) rows (stp lnR S r) (fun u hu=>hrow u (.tail _ hu)) hS
  rcases mem_cons.mp ht with rfl | ht
  ·obtain ⟨c,c0,e⟩:=Qw4 (x:=x) S t (hrow t (.head _)) fun s hs=>hS s (Qob (t::rows) S s hs)
   have z:Qbb (lft t S) x=0:=by
    cases hl:lnR (lft t S) with
    | none=>exact Q13 ((Qb6.no _).mp hl) x
    | some l =>
     obtain ⟨g,_,eg⟩:=Qb6.yes _ _ hl
     have hm:l∈(t::rows).foldl (stp lnR) S:=by
      rw [foldl_cons]
      refine Qob rows _ l ?_
      unfold stp
      rw [hl]
      simp
     rw [eg,Qtn,(hS l hm).2.2,Int.mul_zero]
   rw [z] at e
   rcases Int.mul_eq_zero.mp e.symm with z | z
   ·exact absurd z c0
   ·exact z
  ·exact h2 t ht
theorem Q14 {d:Int}:∀ (r:List Int) (e:Int),d ∣ e→(∀ x∈r,d ∣ x)→d ∣ gF e r
 | [],e,h,_=>h
 | y::r,e,h,hr=>Q14 r _ (Int.dvd_coe_gcd h (hr y (.head _))) fun x hx=>hr x (.tail _ hx)
theorem Q15:∀ (r:List Int) (e:Int),0≤e→0≤gF e r
 | [],_,h=>h
 | y::r,e,_=>Q15 r _ (Int.natCast_nonneg _)
theorem Qoc {α:Type} {p q:α→Bool}:∀ {l:List α},(∀ x∈l,p x=q x)→l.findIdx p=l.findIdx q
 | [],_=>rfl
 | x::l,h=>by rw [List.findIdx_cons,List.findIdx_cons,h x (.head _),Qoc fun y hy=>h y (.tail _ hy)]
theorem Q5o {r l:List Int} (e:lnR r=some l):lnR l=some l:=by
 unfold lnR at e
 by_cases hz:ld r<r.length
 ·rw [if_pos hz] at e
  have e:(r.map fun x=>x.fdiv (dvr r))=l:=Option.some.inj e
  have dn:=Qrd hz
  have dd:=Qma r
  have mul:∀ x∈r,dvr r*x.fdiv (dvr r)=x:=fun x hx=>by
   rw [Int.mul_comm]
   exact Int.fdiv_mul_cancel (dd x hx)
  have hl:l.length=r.length:=by rw [←e,length_map]
  have gel:∀ j,j<r.length→ge r j=dvr r*ge l j:=fun j hj=>by
   have h1:ge l j=(ge r j).fdiv (dvr r):=by
    rw [←e]
    unfold ge
    rw [getD_eq_getElem?_getD,getElem?_map,getD_eq_getElem?_getD,getElem?_eq_getElem hj]
    rfl
   rw [h1,mul _ (Qir hj)]
  have ldl:ld l=ld r:=by
   rw [←e]
   unfold ld
   rw [List.findIdx_map]
   refine Qoc fun x hx=>?_
   show nzI (x.fdiv (dvr r))=nzI x
   unfold nzI
   have:=mul x hx
   by_cases z:x=0
   ·rw [z,Int.zero_fdiv]
   ·rw [decide_eq_false z,decide_eq_false (fun w=>z (by rw [w,Int.mul_zero] at this;exact this.symm))]
  have g0:=Q15 l 0 (Int.le_refl 0)
  have gd:gF 0 l ∣ 1:=by
   have h1:gF 0 r*gF 0 l ∣ gF 0 r:=Q14 r 0 (Int.dvd_zero _) fun x hx=>by
    obtain ⟨_,h2⟩:=Qvf l 0
    have hx2:x.fdiv (dvr r)∈l:=by rw [←e];exact mem_map_of_mem hx
    obtain ⟨q,hq⟩:=h2 _ hx2
    have m:=mul x hx
    rw [hq] at m
    unfold dvr at m
    split at m
    ·exact ⟨-q,by rw [←m,Int.mul_neg,Int.neg_mul,Int.mul_assoc]⟩
    ·exact ⟨q,by rw [←m,Int.mul_assoc]⟩
   have gn:gF 0 r≠0:=fun z=>dn (by unfold dvr;rw [z];split <;> rfl)
   obtain ⟨q,hq⟩:=h1
   refine ⟨q,?_⟩
   rw [Int.mul_assoc] at hq
   have hq:gF 0 r*1=gF 0 r*(gF 0 l*q):=by rw [Int.mul_one];exact hq
   exact Int.eq_of_mul_eq_mul_left gn hq
  have g1:gF 0 l=1:=by
   obtain ⟨q,hq⟩:=gd
   exact Int.eq_one_of_mul_eq_one_right g0 hq.symm
  have pos:¬ ge l (ld l)<0:=by
   rw [ldl]
   have h1:=gel (ld r) hz
   have gr:=Q15 r 0 (Int.le_refl 0)
   intro neg
   unfold dvr at h1 dn
   split at h1
   ·rename_i hneg
    rw [if_pos hneg] at dn
    have:0 ≤ -gF 0 r*ge l (ld r):=by
     have:=Int.mul_nonneg_of_nonpos_of_nonpos (show -gF 0 r≤0 by omega) (show ge l (ld r)≤0 by omega)
     exact this
    omega
   ·rename_i hneg
    rw [if_neg hneg] at dn
    have:gF 0 r*ge l (ld r)<0:=Int.mul_neg_of_pos_of_neg (by omega) neg
    omega
  unfold lnR
  rw [if_pos (by rw [ldl,hl];exact hz)]
  have d1:dvr l=1:=by unfold dvr;rw [if_neg pos,g1]
  rw [d1]
  congr 1
  conv=>rhs;rw [←map_id l]
  exact map_congr_left fun x _=>by show x.fdiv 1=x;exact Int.fdiv_one x
 ·rw [if_neg hz] at e
  cases e
open PySem L2
noncomputable abbrev cfn (k:Nat):CF:=evF (Qju ds) k
noncomputable abbrev Qf (r:List Int):T:=.tup (r.map .int)
noncomputable abbrev Qm (M:Tb):T:=.tup (M.map Qf)
noncomputable abbrev Qbc (Ms:List Tb):T:=.lst (Ms.map Qm)
noncomputable def Bt (b:Nat) (M:Tb):Prop:=∀ r∈M,∀ x∈r,(x:Int).natAbs<2^b
theorem Bt.mono {b c:Nat} {M:Tb} (h:Bt b M) (hc:b≤c):Bt c M:=fun r hr x hx=>Nat.lt_of_lt_of_le (h r hr x hx) (Nat.pow_le_pow_right (by decide) hc)
structure Sq (n:Nat) (M:Tb):Prop where
 len:M.length=n
 row:∀ r∈M,r.length=n
 bd:Bt 119 M
theorem Sq.shp {n:Nat} {M:Tb} (h:Sq n M):Shp n M:=⟨h.len,h.row⟩
theorem Qvh {x k:Nat} (h:x<2^k) (hk:k≤9000) (h0:0<k):x.log2<9000:=by
 by_cases z:x=0
 ·rw [z];decide
 ·exact Nat.lt_of_lt_of_le ((Nat.log2_lt z).mpr h) hk
theorem Qic {i j:Int} {a b:Nat} (hi:i.natAbs<2^a) (hj:j.natAbs<2^b) (ha:a≤8999) (hb:b≤8999):Qbu i j=true:=by
 have h1:=Qvh (Nat.lt_of_lt_of_le hi (Nat.pow_le_pow_right (by decide) (Nat.le_succ a))) (by omega) (by omega)
 have h2:=Qvh (Nat.lt_of_lt_of_le hj (Nat.pow_le_pow_right (by decide) (Nat.le_succ b))) (by omega) (by omega)
 unfold Qbu
 rw [decide_eq_true h1,decide_eq_true h2]
 simp
theorem Q5p {i j:Int} (h:i.natAbs≤1):Qbu i j=true:=by
 unfold Qbu
 rw [decide_eq_true (show i.natAbs<2^64 by omega)]
 rfl
theorem Qht {b:Nat} {c:List Int} (h:∀ x∈c,(x:Int).natAbs<2^b) (k:Nat):(ge c k).natAbs<2^b:=by
 unfold ge
 rw [getD_eq_getElem?_getD]
 cases e:c[k]? with
 | none=>exact Nat.pow_pos (by decide)
 | some v=>exact h v (mem_of_getElem? e)
theorem Q16 (k:Nat) (r:List Int) (hr:r.length≤1000):cfn (k+2) 1 [.fz (Qf r),.fz (.int r.length)]=.ok (.fz (.bl true)) [.non,.non]:=by
 have hcomp:evE (cfn (k+1)) (.comp (.seq (.var 0)) [none] (.nm 0) .nil (.call 0 (.cons (.var 0) .nil))) [.fz (Qf r),.fz (.int r.length)]=.ok (.ow (.lst ((r.map T.int).map fun _=>T.bl true))) [.fz (Qf r),.fz (.int r.length)] :=
  Qa2 (rest:=[]) rfl rfl rfl rfl (fun x hx=>by
   obtain ⟨i,_,rfl⟩:=mem_map.mp hx
   exact ⟨.fz (.bl true),rfl,rfl⟩) (by rw [length_map];omega)
 show Qbg (cfn (k+1)) ⟨2,2,Qny⟩ _=_
 rw [Qaw rfl]
 show Qbr _ (exS _ Qny [.fz (Qf r),.fz (.int r.length)])=_
 simp only [Qad,Qbf,Qnk,Qhg,Qwn,Qo,Q3,Qa,Qz,Q1b,Qsp,cont,Qnp,Qin,Bool.not_false,Bool.and_true,Qgf,if_true,Q4,yBl,Qlw,Bool.not_true,yOr,Qa8,Qbj,Ql,yC1,Qu,yC2,yBi,Qbh,Qaa,Out.opt,ub2,length_map,Qa6,Qc,Qa5,Qa4,Qa3,uc2,Option.map,Qbl,decide_true,yB,Qal,yIf,Qbz,Qbd,Qax,hcomp,ub3,Qjw,Qnq,Qby,Qaf,Qau,Qar,Qas,Q2]
theorem Qla (k:Nat) {n:Nat} {M:Tb} (h:Shp n M) (h1:1≤n) (h4:n≤4):cfn (k+3) 2 [.fz (Qm M)]=.ok (.fz (.bl true)) [.non]:=by
 have hl:=h.len
 have hcomp:evE (cfn (k+2)) (.comp (.seq (.var 0)) [none,some 0] (.nm 0) .nil (.call 1 (.cons (.var 0) (.cons (.bi .len (.cons (.var 1) .nil)) .nil)))) [.fz (Qm M)]=.ok (.ow (.lst ((M.map Qf).map fun _=>T.bl true))) [.fz (Qm M)] :=
  Qa2 (rest:=[.fz (Qm M)]) rfl rfl rfl rfl (fun x hx=>by
   obtain ⟨r,hr,rfl⟩:=mem_map.mp hx
   have hrl:=h.row r hr
   have q:=Q16 k r (by omega)
   rw [show ((r.length:Nat):Int)=(M.length:Nat) by omega] at q
   refine ⟨.fz (.bl true),?_,rfl⟩
   simp only [Q0,Ql,Qo,Q3,Qa,Qz,yC1,Qbj,Qc,Qu,yC2,yBi,Qbh,Qaa,cont,Out.opt,ub2,length_map,Qr,Qs,Qy,Qt,Q7,Qx,q,Qao,Qi,Qv,L2.Qj,Option.map,if_true]) (by rw [length_map];omega)
 show Qbg (cfn (k+2)) ⟨1,1,Qkt⟩ _=_
 rw [Qaw rfl]
 show Qbr _ (exS _ Qkt [.fz (Qm M)])=_
 have c1:¬ ((M.length:Int)<1):=by omega
 have c2:¬ (4<(M.length:Int)):=by omega
 simp only [Qad,Qbf,Qnk,Qhg,Qwn,Qo,Q3,Qa,Qz,Q1b,Qsp,cont,Qnp,Qin,Bool.not_false,Bool.and_true,Qgf,if_true,Q4,yBl,Qlw,Bool.not_true,yOr,Qa8,Qbj,Ql,yC1,Qu,yC2,yBi,Qbh,Qaa,Out.opt,ub2,length_map,Qa6,Qbe,Qa5,Qa4,Qa3,uc3,c1,decide_false,uc5,c2,yB,Qal,yIf,Qbz,Qbd,Qax,hcomp,ub3,Option.map,Qjw,Qnq,Qby,Qaf,Qau,Qar,Qas,Q2]
theorem Qce (k:Nat) {n:Nat} {M:Tb} (h:Shp n M) (h1:1≤n) (h4:n≤4):cfn (k+4) 9 [.fz (Qm M)]=.ok (.fz .non) [.non]:=by
 have e1:=Qla k h h1 h4
 show Qbg (cfn (k+3)) ⟨1,1,Qgt⟩ _=_
 rw [Qaw rfl]
 show Qbr _ (exS _ Qgt [.fz (Qm M)])=_
 simp only [Qbf,Qhg,Q0,Ql,Qo,Q3,Qa,Qz,yC1,Qu,yC2,Qr,Qs,Qy,Qt,Q7,Qx,e1,Qao,Qi,Qv,L2.Qj,Option.map,if_true,Q4,yBl,Qlw,Bool.not_true,Qal,yIf,Qbz,Quq,Qas,Q2]
theorem intL_mp:∀ (xs:List Int),Qf9 (xs.map T.int)=some xs
 | []=>rfl
 | x::xs=>by
  rw [map_cons]
  unfold Qf9
  rw [intL_mp xs]
theorem Qe3 {r:List Int} {j:Nat} (h:j<r.length):atI (r.map T.int) (j:Int)=some (.int (ge r j)):=by
 refine Qhw ?_
 rw [getElem?_map,getElem?_eq_getElem h]
 show some (T.int _)=some (T.int _)
 congr 2
 unfold ge
 rw [getD_eq_getElem?_getD,getElem?_eq_getElem h,Option.getD_some]
noncomputable def jOf:T→Nat
 | .int i=>i.toNat
 | _=>0
noncomputable def iOf:T→List Int
 | .tup ts=>ts.map fun t=>match t with | .int i=>i | _=>0
 | _=>[]
theorem Qd9 (r:List Int):iOf (Qf r)=r:=by
 show (r.map T.int).map _=r
 rw [map_map]
 conv=>rhs;rw [←map_id r]
 rfl
theorem Qei (j:Nat):jOf (.int (0+(j:Int)))=j:=by
 show (0+(j:Int)).toNat=j
 rw [Int.zero_add,Int.toNat_natCast]
theorem Qjb {f:Nat→T} (n:Nat):((Qag 0 n).map fun x=>f (jOf x))=(List.range n).map f:=by
 unfold Qag
 rw [map_map]
 apply map_congr_left
 intro j _
 show f (jOf (.int (0+(j:Int))))=f j
 rw [Qei]
noncomputable def Seq (M:Tb) (t:T):Prop:=t=.tup (M.map Qf)∨t=.lst (M.map Qf)
theorem Qod (xs:List T) (k:Nat):Qel xs none (some (k:Int))=xs.take k:=by
 unfold Qel
 rw [HT.sIx_none,HT.sIx_nat,drop_zero,Nat.sub_zero]
 by_cases h:k≤xs.length
 ·rw [Nat.min_eq_left h]
 ·rw [Nat.min_eq_right (by omega),List.take_length,take_of_length_le (by omega)]
theorem Q17 (xs:List T) (i:Nat):Qel xs (some ((i:Int)+1)) none=xs.drop (i+1):=by
 unfold Qel
 rw [show ((i:Int)+1)=((i+1:Nat):Int) by omega,HT.sIx_none,HT.sIx_nat]
 by_cases h:i+1≤xs.length
 ·rw [Nat.min_eq_left h,take_of_length_le (by rw [length_drop];omega)]
 ·rw [Nat.min_eq_right (by omega),List.drop_eq_nil_of_le (Nat.le_refl _),List.drop_eq_nil_of_le (by omega),List.take_nil]
theorem cut1 (x:T) (xs:List T):Qel (x::xs) (some 1) none=xs:=by
 unfold Qel HT.sIx
 simp
theorem Seq.walk {M:Tb} {t:T} (h:Seq M t) {cf:CF} {a:Slot}:evW cf (.seq (.var 0)) [.fz t,a]=.ok (M.map Qf,none) [.fz t,a]:=by
 rcases h with rfl | rfl <;> rfl
theorem Q5q {r:List Int} {j:Nat} (hr:r.length≤1000):opB .add (.tup (Qel (r.map T.int) none (some (j:Int)))) (.tup (Qel (r.map T.int) (some ((j:Int)+1)) none))=some (.fz (Qf (r.take j++r.drop (j+1)))):=by
 rw [Qod,Q17,←map_take,←List.map_drop]
 show (if _ then _ else _)=_
 rw [if_pos (by rw [length_map,length_map,length_take,length_drop];omega),←map_append]
noncomputable def wocT (j:Nat):T→T
 | .tup ts=>Qf (((iOf (.tup ts)).take j)++((iOf (.tup ts)).drop (j+1)))
 | t=>t
theorem Q7j (k:Nat) {M:Tb} {t:T} (ht:Seq M t) (hz:M.length≤1000) (hr:∀ r∈M,r.length≤1000) (j:Nat):cfn (k+1) 31 [.fz t,.fz (.int j)]=.ok (.ow (.lst ((woc M j).map Qf))) [.non,.non]:=by
 have hcomp:evE (cfn k) (.comp (.seq (.var 0)) [none,some 1] (.nm 0) .nil (.bin .add (.slc (.var 0) .nil (.cons (.var 1) .nil)) (.slc (.var 0) (.cons (.bin .add (.var 1) (.int 1)) .nil) .nil))) [.fz t,.fz (.int j)]=.ok (.ow (.lst ((M.map Qf).map (wocT j)))) [.fz t,.fz (.int j)] :=
  Qa2 (rest:=[.fz (.int j)]) ht.walk rfl rfl rfl (fun x hx=>by
   obtain ⟨r,hm,rfl⟩:=mem_map.mp hx
   have o:=Q5q (j:=j) (hr r hm)
   refine ⟨.fz (Qf (r.take j++r.drop (j+1))),?_,?_⟩
   ·simp only [Qcv,Qpy,Qo,Q3,Qa,Qz,Quo,Qu,Qun,Qnm,Qjl,Ql,Qc,yC1,yC2,Qum,Qnl,Qul,cont,Out.opt,ui4,Qcl,Qbe,Qck,Qcj,uo1,o]
   ·show some (Qf (r.take j++r.drop (j+1)))=some (Qf ((iOf (Qf r)).take j++(iOf (Qf r)).drop (j+1)))
    rw [Qd9]) (by rw [length_map];omega)
 have em:(M.map Qf).map (wocT j)=(woc M j).map Qf:=by
  unfold woc
  rw [map_map,map_map]
  apply map_congr_left
  intro r _
  show Qf ((iOf (Qf r)).take j++(iOf (Qf r)).drop (j+1))=Qf (r.take j++r.drop (j+1))
  rw [Qd9]
 rw [em] at hcomp
 show Qbg (cfn k) ⟨2,2,Qd1⟩ _=_
 rw [Qaw rfl]
 show Qbr _ (exS _ Qd1 [.fz t,.fz (.int j)])=_
 simp only [Qax,hcomp,Qal,Qby,Qaf,Qau,Qar,Qas,Q2,Option.map]
theorem Q18 {m:Nat} {r0:List Int} {Ms:Tb} (h:Sq (m+1) (r0::Ms)) {j:Nat} (hj:j<m+1):Sq m (woc Ms j):=by
 have hl:=h.len
 rw [length_cons] at hl
 unfold woc
 refine ⟨by rw [length_map];omega,fun r hr=>?_,fun r hr x hx=>?_⟩
 ·obtain ⟨s,hs,rfl⟩:=mem_map.mp hr
  have:=h.row s (mem_cons_of_mem _ hs)
  rw [length_append,length_take,length_drop]
  omega
 ·obtain ⟨s,hs,rfl⟩:=mem_map.mp hr
  refine h.bd s (mem_cons_of_mem _ hs) x ?_
  rcases mem_append.mp hx with z | z
  ·exact mem_of_mem_take z
  ·exact List.mem_of_mem_drop z
theorem Q7k:∀ m,m≤7→fb (2^119) m≤2^(122*m)
 | 0,_=>Nat.le_refl _
 | m+1,h=>by
  rw [fb,show 122*(m+1)=3+(119+122*m) by omega,Nat.pow_add,Nat.pow_add]
  exact Nat.mul_le_mul (by show m+1≤2^3;omega) (Nat.mul_le_mul_left _ (Q7k m (by omega)))
theorem Qvi {m:Nat} {M:Tb} (hm:m≤7) (h:Sq m M):(Qae m M).natAbs<2^(122*m+1) :=
 Nat.lt_of_le_of_lt (Nat.le_trans (Q1o m M h.shp fun r hr x hx=>Nat.le_of_lt (h.bd r hr x hx)) (Q7k m hm)) (Nat.pow_lt_pow_right (by decide) (by omega))
theorem Qvj:∀ j:Nat,(sg j).natAbs=1
 | 0=>rfl
 | j+1=>by show (-sg j).natAbs=1;rw [Int.natAbs_neg,Qvj j]
noncomputable abbrev Q5r:S:=(.seq (.setF 1 (.bin .add (.var 1) (.bin .mul (.bin .mul (.var 2) (.ix (.ix (.var 0) (.int 0)) (.var 3))) (.call 32 (.cons (.call 31 (.cons (.slc (.var 0) (.cons (.int 1) .nil) .nil) (.cons (.var 3) .nil))) .nil)))))
 (.setF 2 (.neg (.var 2))))
theorem Seq.len {M:Tb} {t:T} (h:Seq M t):Qg6 .len [t]=some (.fz (.int M.length)):=by
 rcases h with rfl | rfl
 ·show some (PV.fz (.int (M.map Qf).length))=_;rw [length_map]
 ·show some (PV.fz (.int (M.map Qf).length))=_;rw [length_map]
theorem Q7l:∀ (m k:Nat) (M:Tb) (t:T),m≤7→Seq M t→Sq m M→cfn (k+m+2) 32 [.fz t]=.ok (.fz (.int (Qae m M))) [.non]
 | 0,k,M,t,hm,ht,h=>by
  have e:=ht.len
  rw [h.len] at e
  have e:Qg6 .len [t]=some (.fz (.int 0)):=e
  show Qbg (cfn (k+0+1)) ⟨1,4,Qb5⟩ _=_
  rw [Qaw rfl]
  show Qbr _ (exS _ Qb5 [.fz t,.un,.un,.un])=_
  have eb:evE (cfn (k+0+1)) (.bi .len (.cons (.var 0) .nil)) [.fz t,.un,.un,.un]=.ok (.fz (.int 0)) [.fz t,.un,.un,.un]:=by
   rcases ht with rfl | rfl <;> simp only [Qbj,Ql,Qo,Q3,Qa,Qz,yC1,Qu,yC2,yBi,Qbh,Qaa,cont,Out.opt,e]
  simp only [Qad,Qbf,Qa8,eb,Qz,Qa6,Qbe,Qa5,Qa4,cont,Qa3,uc1,Qbl,decide_true,Q4,yBl,Qal,yIf,Qax,Qby,Q46,Qaf,Qau,Qar,Qas,Q2,Option.map,Qae]
 | m+1,k,[],t,hm,ht,h=>by have:=h.len;cases this
 | m+1,k,r0::Ms,t,hm,ht,h=>by
  have hl:=h.len
  have hl':Ms.length=m:=by rw [length_cons] at hl;omega
  have e:=ht.len
  rw [hl] at e
  have c0:¬ (((m+1:Nat):Int)=0):=by omega
  have c:m+1≤100000:=by omega
  have hr0:=h.row r0 mem_cons_self
  obtain ⟨ρ',ef,s3,_,rfl⟩:=Qfu (fun j ρ=>∃ s3,Qcu s3=true∧ρ=[.fz t,.fz (.int (Qeh (fun j=>sg j*ge r0 j*Qae m (woc Ms j)) j)),.fz (.int (sg j)),s3]) (tg:=.nm 3) (b:=exS (cfn (k+m+2)) Q5r) (xs:=Qag 0 (m+1)) (n:=0) (ρ:=[.fz t,.fz (.int 0),.fz (.int 1),.un]) ⟨.un,rfl,rfl⟩ (by
   rintro j x ρ hx ⟨s3,o3,rfl⟩
   have hj:j<m+1:=by have:=(List.getElem?_eq_some_iff.mp hx).1;rwa [Qaq] at this
   rw [Qkq hj] at hx
   cases hx
   rw [Nat.zero_add,Int.zero_add]
   refine ⟨[.fz t,.fz (.int (Qeh (fun j=>sg j*ge r0 j*Qae m (woc Ms j)) j)),.fz (.int (sg j)),.fz (.int j)],_,(by cases s3 <;> first | rfl | cases o3),.inl ?_,.fz (.int j),rfl,rfl⟩
   have a1:=Qe3 (r:=r0) (j:=j) (by omega)
   have ew:=Q7j (k+m+1) (M:=Ms) (t:=.tup (Ms.map Qf)) (.inl rfl) (by omega) (fun r hr=>by have:=h.row r (mem_cons_of_mem _ hr);omega) j
   have ew2:=Q7j (k+m+1) (M:=Ms) (t:=.lst (Ms.map Qf)) (.inr rfl) (by omega) (fun r hr=>by have:=h.row r (mem_cons_of_mem _ hr);omega) j
   have ed:=Q7l m k (woc Ms j) (.lst ((woc Ms j).map Qf)) (by omega) (.inr rfl) (Q18 h hj)
   have m1:Qbu (sg j) (ge r0 j)=true:=Q5p (by rw [Qvj];decide)
   have m2:Qbu (sg j*ge r0 j) (Qae m (woc Ms j))=true:=Qic (a:=119) (b:=122*m+1) (by rw [Int.natAbs_mul,Qvj,Nat.one_mul];exact Qht (h.bd r0 mem_cons_self) j) (Qvi (by omega) (Q18 h hj)) (by decide) (by omega)
   have a0:atI ((r0::Ms).map Qf) 0=some (Qf r0):=by rw [map_cons];exact Q5a
   have c1:Qel ((r0::Ms).map Qf) (some 1) none=Ms.map Qf:=by rw [map_cons];exact cut1 _ _
   show _=SO.nx [.fz t,.fz (.int (Qeh (fun j=>sg j*ge r0 j*Qae m (woc Ms j)) j+sg j*ge r0 j*Qae m (woc Ms j))),.fz (.int (-sg j)),.fz (.int j)]
   generalize Qeh (fun j=>sg j*ge r0 j*Qae m (woc Ms j)) j=ps
   rcases ht with rfl | rfl
   ·generalize (r0::Ms).map Qf=L at a0 c1
    simp only [Qad,Qa0,Qcv,Qo,Q3,Qc,Qa,Qz,Qcl,Qge,Qfy,Qbe,Qfx,Qfw,cont,Qfv,ui2,a0,a1,Qck,Qcj,Out.opt,uo5,m1,if_true,Q0,Ql,Qpy,Quo,yC1,Qu,yC2,Qun,Qnm,Qjl,Qum,Qnl,Qul,ui4,c1,Qr,Qs,Qy,Qt,Q7,Qx,ew,Qao,Qi,Qv,L2.Qj,Option.map,ed,m2,uo1,Qal,Qb0,Qba,frz,Qah,Qbk,length_cons,length_nil,Nat.reduceAdd,Nat.reduceLT,List.set,Qbd,Qso,Qyf]
   ·have sl:Q35 (.lst ((r0::Ms).map Qf)) (some 1) none=some (.ow (.lst (Ms.map Qf))):=by rw [←c1];rfl
    generalize (r0::Ms).map Qf=L at a0 sl
    simp only [Qad,Qa0,Qcv,Qo,Q3,Qc,Qa,Qz,Qcl,Qge,Qfy,Qbe,Qfx,Qfw,cont,Qfv,ui1,a0,ui2,a1,Qck,Qcj,Out.opt,uo5,m1,if_true,Q0,Ql,Qpy,Quo,yC1,Qu,yC2,Qun,Qnm,Qjl,Qum,Qnl,Qul,sl,Qr,Qs,Qy,Qt,Q7,Qx,ew2,Qao,Qi,Qv,L2.Qj,Option.map,ed,m2,uo1,Qal,Qb0,Qba,frz,Qah,Qbk,length_cons,length_nil,Nat.reduceAdd,Nat.reduceLT,List.set,Qbd,Qso,Qyf])
  rw [Qaq,Nat.zero_add] at ef
  have eb:∀ a b c,evE (cfn (k+m+2)) (.bi .len (.cons (.var 0) .nil)) [.fz t,a,b,c]=.ok (.fz (.int ((m+1:Nat):Int))) [.fz t,a,b,c]:=by
   intro a b c
   rcases ht with rfl | rfl <;> simp only [Qbj,Ql,Qo,Q3,Qa,Qz,yC1,Qu,yC2,yBi,Qbh,Qaa,cont,Out.opt,e]
  show Qbg (cfn (k+m+2)) ⟨1,4,Qb5⟩ _=_
  rw [Qaw rfl]
  show Qbr _ (exS _ Qb5 [.fz t,.un,.un,.un])=_
  have ed:Qae (m+1) (r0::Ms)=Qeh (fun j=>sg j*ge r0 j*Qae m (woc Ms j)) (m+1):=rfl
  rw [ed]
  simp only [Qad,Qbf,Qa8,eb,Qz,Qa6,Qbe,Qa5,Qa4,cont,Qa3,uc1,Qbl,c0,decide_false,Q4,yBl,Qal,yIf,Qbz,Qbd,Qa0,Qb0,Qba,frz,Qah,Qbk,length_cons,length_nil,Nat.reduceAdd,Nat.reduceLT,Qc,Qa,List.set,if_true,Qfz,Qdc,Qiz c,Qjv,ef,Qdg,Qax,Qo,Q3,Qby,Qaf,Qau,Qar,Qas,Q2,Option.map]
open PySem L2
theorem Q5s {a b:Int} (h:b≠0):opB .mod (.int a) (.int b)=some (.fz (.int (a.fmod b))):=by
 show opN .mod a b=_
 unfold opN
 dsimp only
 by_cases c:0<b
 ·rw [if_pos c,Int.fmod_eq_emod_of_nonneg a (by omega)]
 ·rw [if_neg c,if_pos (by omega)]
theorem Q5t {a b:Int} (h:b≠0) (hb:b.natAbs<2^4000):opB .fdv (.int a) (.int b)=some (.fz (.int (a.fdiv b))):=by
 show opN .fdv a b=_
 unfold opN
 dsimp only
 by_cases c:0<b∧b.natAbs<2^64
 ·rw [if_pos c,Int.fdiv_eq_ediv_of_nonneg a (by omega)]
 ·have hc:b≠0∧b.natAbs.log2<9000:=⟨h,Qvh hb (by decide) (by decide)⟩
  rw [if_neg c,if_pos hc]
noncomputable def Eu (G:Nat) (i:Nat) (a b:Int):Prop:=a.gcd b=G∧a.natAbs<2^4000∧b.natAbs<2^4000∧(i=8002∨((0≤a∧0≤b∨a≤0∧b≤0)∧b.natAbs≤a.natAbs∧a.natAbs*b.natAbs<2^i))
theorem Q19 (a:Int) {b:Int} (h:b≠0):((0≤b∧0≤a.fmod b)∨(b≤0∧a.fmod b≤0))∧(a.fmod b).natAbs<b.natAbs:=by
 by_cases c:0<b
 ·rw [Int.fmod_eq_emod_of_nonneg a (by omega)]
  have m0:=Int.emod_nonneg a h
  have m1:=Int.emod_lt_of_pos a c
  exact ⟨.inl ⟨by omega,m0⟩,by omega⟩
 ·have e:=Int.neg_fmod_neg (-a) (-b)
  rw [Int.neg_neg,Int.neg_neg,Int.fmod_eq_emod_of_nonneg (-a) (show 0 ≤ -b by omega)] at e
  have m0:=Int.emod_nonneg (-a) (show -b≠0 by omega)
  have m1:=Int.emod_lt_of_pos (-a) (show 0 < -b by omega)
  rw [e]
  exact ⟨.inr ⟨by omega,by omega⟩,by omega⟩
theorem Q2a {a b:Int} (h:0≤a∧0≤b∨a≤0∧b≤0):(a.fmod b).natAbs=a.natAbs%b.natAbs:=by
 rcases h with ⟨ha,hb⟩ | ⟨ha,hb⟩
 ·obtain ⟨m,rfl⟩:=Int.eq_ofNat_of_zero_le ha
  obtain ⟨n,rfl⟩:=Int.eq_ofNat_of_zero_le hb
  rw [Int.fmod_eq_emod_of_nonneg _ hb,←Int.natCast_emod,Int.natAbs_natCast,Int.natAbs_natCast,Int.natAbs_natCast]
 ·obtain ⟨m,hm⟩:=Int.eq_ofNat_of_zero_le (show 0 ≤ -a by omega)
  obtain ⟨n,hn⟩:=Int.eq_ofNat_of_zero_le (show 0 ≤ -b by omega)
  have e:=Int.neg_fmod_neg (-a) (-b)
  rw [Int.neg_neg,Int.neg_neg] at e
  rw [e,hm,hn,Int.fmod_eq_emod_of_nonneg _ (by omega),←Int.natCast_emod,Int.natAbs_neg,Int.natAbs_natCast]
  have h1:a.natAbs=m:=by omega
  have h2:b.natAbs=n:=by omega
  rw [h1,h2]
theorem Qabd {A B i:Nat} (b1:0<B) (ba:B≤A) (hab:A*B<2^i):∃ i',i=i'+1∧B*(A%B)<2^i':=by
 have hm:=Nat.mod_lt A b1
 have hq:1≤A / B:=(Nat.le_div_iff_mul_le b1).mpr (by omega)
 have hd:=Nat.mod_add_div A B
 have h1:B*1≤B*(A / B):=Nat.mul_le_mul_left _ hq
 have h2:2*(A%B)≤A:=by omega
 have h4:B*(2*(A%B))≤B*A:=Nat.mul_le_mul_left _ h2
 have h5:B*A=A*B:=Nat.mul_comm _ _
 have h6:B*(2*(A%B))=2*(B*(A%B)):=by rw [←Nat.mul_assoc,Nat.mul_comm B 2,Nat.mul_assoc]
 cases i with
 | zero =>
  have:1*1≤A*B:=Nat.mul_le_mul (by omega) b1
  have h3:(2:Nat)^0=1:=rfl
  omega
 | succ i =>
  refine ⟨i,rfl,?_⟩
  have h7:(2:Nat)^(i+1)=2^i*2:=Nat.pow_succ 2 i
  omega
theorem Q2b {a b:Int} (ha:a.natAbs<2^4000) (hb:b.natAbs<2^4000):Eu (a.gcd b) 8002 a b:=⟨rfl,ha,hb,.inl rfl⟩
theorem Qae0 {G i:Nat} {a b:Int} (h:Eu G i a b) (hb:b≠0):∃ i',i=i'+1∧Eu G i' b (a.fmod b):=by
 obtain ⟨e,za,zb,h⟩:=h
 obtain ⟨s,l⟩:=Q19 a hb
 have eg:b.gcd (a.fmod b)=G:=by rw [Int.fmod_def,Int.gcd_sub_mul_left_right,Int.gcd_comm,e]
 have b1:0<b.natAbs:=by omega
 rcases h with rfl | ⟨sg,ba,hab⟩
 ·refine ⟨8001,rfl,eg,zb,by omega,.inr ⟨s,by omega,?_⟩⟩
  have h1:b.natAbs*(a.fmod b).natAbs≤b.natAbs*b.natAbs:=Nat.mul_le_mul_left _ (by omega)
  have h2:b.natAbs*b.natAbs<2^4000*2^4000:=Nat.mul_lt_mul'' zb zb
  have h3:(2:Nat)^4000*2^4000<2^8001:=by rw [←Nat.pow_add];exact Nat.pow_lt_pow_right (by decide) (by decide)
  omega
 ·obtain ⟨i',ei,hi⟩:=Qabd b1 ba hab
  rw [←Q2a sg] at hi
  exact ⟨i',ei,eg,zb,by omega,.inr ⟨s,by omega,hi⟩⟩
theorem Qabe {G i:Nat} {a:Int} (h:Eu G i a 0):a.natAbs=G:=by
 have:=h.1
 rwa [Int.gcd_zero_right] at this
theorem Qhu {tg:Tg} {b:En→SO} {x:T} {xs:List T} {ρ ρ1 ρ2:En} (h:Qeb tg x ρ=some ρ1) (hb:b ρ1=.nx ρ2):Qc0 tg b (x::xs) ρ=Qc0 tg b xs ρ2:=by
 rw [Qc0]
 simp only [h,hb]
theorem Q2c {tg:Tg} {b:En→SO} {x:T} {xs:List T} {ρ ρ1 ρ2:En} {v:PV} (h:Qeb tg x ρ=some ρ1) (hb:b ρ1=.rt v ρ2):Qc0 tg b (x::xs) ρ=.rt v ρ2:=by
 rw [Qc0]
 simp only [h,hb]
noncomputable abbrev Qrj:E:=.cmp .ne (.var 1) (.int 0)
noncomputable abbrev Qw5:S:=.seq (.setF 2 (.bin .mod (.var 0) (.var 1))) (.seq (.setF 0 (.var 1)) (.setF 1 (.var 2)))
theorem Q2d (G:Int):Qg6 .abs [.int G]=some (.fz (.int (G.natAbs:Int))):=by
 show some (PV.fz (.int (if G<0 then -G else G)))=_
 congr 3
 split <;> omega
theorem Q2e (k:Nat) {a b:Int} (ha:a.natAbs<2^4000) (hb:b.natAbs<2^4000):cfn (k+1) 23 [.fz (.int a),.fz (.int b)]=.ok (.fz (.int (a.gcd b:Nat))) [.non,.non]:=by
 obtain ⟨ρ',e,a',s1,s2,g0,rfl⟩:=Qwp (c:=fun ρ=>Qay (evE (cfn k) Qrj ρ)) (b:=exS (cfn k) Qw5)
  (Z:=fun ρ=>∃ (a':Int) (s1 s2:Slot),a'.natAbs=a.gcd b∧ρ=[.fz (.int a'),s1,s2])
  (fun i ρ=>∃ (x y:Int) (s2:Slot),Qcu s2=true∧Eu (a.gcd b) i x y∧ρ=[.fz (.int x),.fz (.int y),s2]) (by
  rintro i ρ ⟨x,y,s2,o2,h,rfl⟩
  have et:Qay (evE (cfn k) Qrj [.fz (.int x),.fz (.int y),s2])=.ok (!decide (y=0)) [.fz (.int x),.fz (.int y),s2]:=by
   simp only [Qa8,Qo,Q3,Qc,Qa,Qz,Qa6,Qbe,Qa5,Qa4,cont,Qa3,uc2,Option.map,Qbl,Q4,yBl]
  by_cases hy:y=0
  ·left
   subst hy
   exact ⟨[.fz (.int x),.fz (.int 0),s2],by show Qay _=_;rw [et];rfl,x,.fz (.int 0),s2,Qabe h,rfl⟩
  ·right
   obtain ⟨i',ei,h'⟩:=Qae0 h hy
   have om:=Q5s (a:=x) hy
   refine ⟨i',[.fz (.int x),.fz (.int y),s2],[.fz (.int y),.fz (.int (x.fmod y)),.fz (.int (x.fmod y))],ei,?_,?_,y,x.fmod y,_,rfl,h',rfl⟩
   ·show Qay _=_
    rw [et,decide_eq_false hy]
    rfl
   ·have es:exS (cfn k) (.setF 2 (.bin .mod (.var 0) (.var 1))) [.fz (.int x),.fz (.int y),s2]=.nx [.fz (.int x),.fz (.int y),.fz (.int (x.fmod y))]:=by
     have e':evE (cfn k) (.bin .mod (.var 0) (.var 1)) [.fz (.int x),.fz (.int y),s2]=.ok (.fz (.int (x.fmod y))) [.fz (.int x),.fz (.int y),s2]:=by
      simp only [Qcv,Qo,Q3,Qa,Qz,Qcl,Qc,Qck,Qcj,cont,Out.opt,om]
     rw [Qa0,e']
     cases s2 <;> first | rfl | (cases o2;done)
    rw [Qad,es,Qbd]
    simp only [Qad,Qa0,Qo,Q3,Qc,Qa,Qal,Qb0,Qba,frz,Qah,Qbk,length_cons,length_nil,Nat.reduceAdd,Nat.reduceLT,List.set,if_true,Qbd])
  8002 1000000 [.fz (.int a),.fz (.int b),.un] (by decide) ⟨a,b,.un,rfl,Q2b ha hb,rfl⟩
 have ew:exS (cfn k) (.whl Qrj Qw5) [.fz (.int a),.fz (.int b),.un]=.nx [.fz (.int a'),s1,s2]:=by
  rw [exS,e]
  rfl
 have ab:=Q2d a'
 rw [g0] at ab
 show Qbg (cfn k) ⟨2,3,Qdy⟩ _=_
 rw [Qaw rfl]
 show Qbr _ (exS _ Qdy [.fz (.int a),.fz (.int b),.un])=_
 simp only [Qad,ew,Qbd,Qax,Qbj,Ql,Qo,Q3,Qa,Qz,yC1,Qu,yC2,yBi,Qbh,Qaa,cont,Out.opt,ab,Qal,Qby,Qaf,Qau,Qar,Qas,Q2,Option.map]
noncomputable abbrev Qme:S:=.ite (.cmp .ne (.ix (.var 0) (.var 1)) (.int 0)) (.ret (.var 1)) .nil
theorem Q5u (i:Int) (m:Nat):Qag i (m+1)=.int i::Qag (i+1) m:=by
 unfold Qag
 rw [List.range_succ_eq_map,map_cons,map_map]
 congr 1
 ·show T.int (i+((0:Nat):Int))=_
  congr 1
  omega
 ·apply map_congr_left
  intro j _
  show T.int (i+((j+1:Nat):Int))=T.int (i+1+(j:Int))
  congr 1
  omega
theorem Qw6 (cf:CF) (r:List Int):∀ (m i:Nat) (s:Slot),i+m=r.length→Qcu s=true→∃ s',Qc0 (.nm 1) (exS cf Qme) (Qag (i:Int) m) [.fz (Qf r),s]=if (r.drop i).findIdx nzI<m then .rt (.fz (.int ((i+(r.drop i).findIdx nzI:Nat):Int))) [.fz (Qf r),s'] else .nx [.fz (Qf r),s']
 | 0,i,s,_,_=>⟨s,by rw [if_neg (Nat.not_lt_zero _)];rfl⟩
 | m+1,i,s,hi,hs=>by
  have hl:i<r.length:=by omega
  have hg:ge r i=r[i]:=by
   unfold ge
   rw [getD_eq_getElem?_getD,getElem?_eq_getElem hl]
   rfl
  have ea:=Qe3 hl
  have ed:r.drop i=ge r i::r.drop (i+1):=by rw [hg];exact List.drop_eq_getElem_cons hl
  have st:Qeb (.nm 1) (.int (i:Int)) [.fz (Qf r),s]=some [.fz (Qf r),.fz (.int (i:Int))]:=by
   cases s <;> first | rfl | (cases hs;done)
  rw [Q5u,ed,List.findIdx_cons]
  by_cases h0:ge r i=0
  ·have n0:nzI (ge r i)=false:=by unfold nzI;rw [decide_eq_true h0];rfl
   rw [h0] at ea
   have b0:exS cf Qme [.fz (Qf r),.fz (.int (i:Int))]=.nx [.fz (Qf r),.fz (.int (i:Int))]:=by simp only [Qbf,Qa8,Qge,Qo,Q3,Qa,Qz,Qfy,Qc,Qfx,Qfw,cont,Qfv,ui2,ea,Qa6,Qbe,Qa5,Qa4,Qa3,uc2,Option.map,Qbl,decide_true,Bool.not_true,Q4,yBl,Qal,yIf,Qbz]
   rw [Qhu st b0,n0]
   obtain ⟨s',e⟩:=Qw6 cf r m (i+1) (.fz (.int (i:Int))) (by omega) rfl
   refine ⟨s',?_⟩
   have e':((i+1:Nat):Int)=(i:Int)+1:=by omega
   rw [e'] at e
   rw [e,cond_false]
   by_cases z:(r.drop (i+1)).findIdx nzI<m
   ·rw [if_pos z,if_pos (by omega),Nat.add_right_comm,Nat.add_assoc]
   ·rw [if_neg z,if_neg (by omega)]
  ·have n0:nzI (ge r i)=true:=by unfold nzI;rw [decide_eq_false h0];rfl
   have b0:exS cf Qme [.fz (Qf r),.fz (.int (i:Int))]=.rt (.fz (.int (i:Int))) [.fz (Qf r),.fz (.int (i:Int))]:=by simp only [Qbf,Qa8,Qge,Qo,Q3,Qa,Qz,Qfy,Qc,Qfx,Qfw,cont,Qfv,ui2,ea,Qa6,Qbe,Qa5,Qa4,Qa3,uc2,Option.map,Qbl,h0,decide_false,Bool.not_false,Q4,yBl,Qal,yIf,Qax,Qby]
   rw [Q2c st b0,n0]
   exact ⟨_,by rw [cond_true,if_pos (by omega),Nat.add_zero]⟩
noncomputable def ldT (r:List Int):T:=if ld r<r.length then .int (ld r:Int) else .non
theorem Qoe (k:Nat) {r:List Int} (hr:r.length≤1000):cfn (k+1) 24 [.fz (Qf r)]=.ok (.fz (ldT r)) [.non]:=by
 obtain ⟨s',e⟩:=Qw6 (cfn k) r r.length 0 .un (by omega) rfl
 rw [drop_zero] at e
 have hc:r.length≤100000:=by omega
 have rn:∀ ρ,Qsr (.fz (.int (r.length:Int))) ρ=.ok (Qag 0 r.length,none) ρ:=fun ρ=>Qiz hc
 have e':Qc0 (.nm 1) (exS (cfn k) Qme) (Qag 0 r.length) [.fz (Qf r),.un]=_:=e
 show Qbg (cfn k) ⟨1,2,Qkv⟩ _=_
 rw [Qaw rfl]
 show Qbr _ (exS _ Qkv [.fz (Qf r),.un])=_
 unfold ldT
 by_cases z:ld r<r.length
 ·have z':r.findIdx nzI<r.length:=z
  rw [if_pos z',Nat.zero_add] at e'
  rw [if_pos z]
  simp only [Qad,Qfz,Qdc,Qbj,Ql,Qo,Q3,Qa,Qz,yC1,Qu,yC2,yBi,Qbh,Qaa,cont,Out.opt,ub2,length_map,rn,Qal,Qjv,e',Q48,Q46,Qaf,Qau,Qar,Qas,Q2,Option.map]
  rfl
 ·have z':¬ r.findIdx nzI<r.length:=z
  rw [if_neg z'] at e'
  rw [if_neg z]
  simp only [Qad,Qfz,Qdc,Qbj,Ql,Qo,Q3,Qa,Qz,yC1,Qu,yC2,yBi,Qbh,Qaa,cont,Out.opt,ub2,length_map,rn,Qal,Qjv,e',Qdg,Qbd,Qax,Qlk,Qby,Qaf,Qau,Qar,Qas,Q2,Option.map]
open PySem L2
noncomputable abbrev Qw7:S:=.setF 2 (.call 23 (.cons (.var 2) (.cons (.var 3) .nil)))
noncomputable def lnT:Option (List Int)→T
 | none=>.non
 | some l=>Qf l
theorem Qw8 (k:Nat) (r:List Int) (l:Int):∀ (xs:List Int) (d:Int) (s3:Slot),d.natAbs<2^4000→(∀ x∈xs,x.natAbs<2^4000)→Qcu s3=true→∃ s3',Qc0 (.nm 3) (exS (cfn (k+1)) Qw7) (xs.map T.int) [.fz (Qf r),.fz (.int l),.fz (.int d),s3]=.nx [.fz (Qf r),.fz (.int l),.fz (.int (gF d xs)),s3']
 | [],d,s3,_,_,_=>⟨s3,rfl⟩
 | x::xs,d,s3,hd,hx,hs=>by
  have hx0:=hx x (.head _)
  have e1:=Q2e k hd hx0
  have st:Qeb (.nm 3) (.int x) [.fz (Qf r),.fz (.int l),.fz (.int d),s3]=some [.fz (Qf r),.fz (.int l),.fz (.int d),.fz (.int x)]:=by
   cases s3 <;> first | rfl | (cases hs;done)
  have b0:exS (cfn (k+1)) Qw7 [.fz (Qf r),.fz (.int l),.fz (.int d),.fz (.int x)]=.nx [.fz (Qf r),.fz (.int l),.fz (.int ((Int.gcd d x:Nat):Int)),.fz (.int x)]:=by simp only [Qa0,Q0,Ql,Qo,Q3,Qc,Qa,Qz,yC1,Qu,yC2,Qr,Qs,Qy,Qt,Q7,Qx,e1,Qao,Qi,Qv,L2.Qj,Option.map,if_true,Qal,Qb0,Qba,frz,Qah,Qbk,length_cons,length_nil,Nat.reduceAdd,Nat.reduceLT,List.set]
  have g1:(((Int.gcd d x:Nat):Int)).natAbs<2^4000:=Q1u (N:=2^4000) [x] d hd fun y hy=>by rw [mem_singleton.mp hy];exact hx0
  rw [map_cons,Qhu st b0]
  exact Qw8 k r l xs _ _ g1 (fun y hy=>hx y (.tail _ hy)) rfl
noncomputable abbrev Q2f:E:=.bin .fdv (.var 0) (.var 1)
theorem Q5v {cf:CF} {ρ:En} {js:List (Option Nat)} {r:List Int} {s:Int} {e:E} (hr:r.length≤1000) (hw:evW cf (.seq e) ρ=.ok (r.map T.int,none) ρ) (hj:Qcp js ρ=[.un,.fz (.int s)]) (hp:Qbx js=true) (s0:s≠0) (sb:s.natAbs<2^4000):evE cf (.comp (.seq e) js (.nm 0) .nil Q2f) ρ=.ok (.ow (.lst ((r.map fun x=>x.fdiv s).map T.int))) ρ:=by
 have q:=Qa2 (cf:=cf) (w:=.seq e) (js:=js) (e:=Q2f) (ρ:=ρ) (rest:=[.fz (.int s)]) (xs:=r.map T.int) (f:=fun t=>match t with | .int v=>T.int (v.fdiv s) | t=>t) hw hj rfl hp (fun t ht=>by
  obtain ⟨v,hv,rfl⟩:=mem_map.mp ht
  have o:∀ v:Int,opB .fdv (.int v) (.int s)=_:=fun v=>Q5t s0 sb
  refine ⟨.fz (.int (v.fdiv s)),?_,rfl⟩
  simp only [Qcv,Qo,Q3,Qa,Qz,Qcl,Qc,Qck,Qcj,cont,Out.opt,o]) (by rw [length_map];omega)
 rw [q,map_map,map_map]
 rfl
theorem Qlb (k:Nat) {r:List Int} (hr:r.length≤1000) (hb:∀ x∈r,x.natAbs<2^4000):cfn (k+2) 25 [.fz (Qf r)]=.ok (.fz (lnT (lnR r))) [.non]:=by
 have e1:=Qoe k hr
 show Qbg (cfn (k+1)) ⟨1,4,Qkw⟩ _=_
 rw [Qaw rfl]
 show Qbr _ (exS _ Qkw [.fz (Qf r),.un,.un,.un])=_
 by_cases z:ld r<r.length
 ·have en:lnR r=some (r.map fun x=>x.fdiv (dvr r)):=if_pos z
  have el:cfn (k+1) 24 [.fz (Qf r)]=.ok (.fz (.int (ld r:Int))) [.non]:=by rw [e1];unfold ldT;rw [if_pos z]
  have hv:=Qe3 z
  obtain ⟨s3,ef⟩:=Qw8 k r (ld r:Int) r 0 .un (by decide) hb rfl
  have es:exS (cfn (k+1)) (.ite (.cmp .lt (.ix (.var 0) (.var 1)) (.int 0)) (.setF 2 (.neg (.var 2))) .nil) [.fz (Qf r),.fz (.int (ld r:Int)),.fz (.int (gF 0 r)),s3]=.nx [.fz (Qf r),.fz (.int (ld r:Int)),.fz (.int (dvr r)),s3]:=by
   unfold dvr
   by_cases cv:ge r (ld r)<0
   ·rw [if_pos cv]
    simp only [Qbf,Qa8,Qge,Qo,Q3,Qa,Qz,Qfy,Qc,Qfx,Qfw,cont,Qfv,ui2,hv,Qa6,Qbe,Qa5,Qa4,Qa3,uc3,cv,decide_true,Q4,yBl,Qal,yIf,Qa0,Qso,Qyf,Qb0,Qba,frz,Qah,Qbk,length_cons,length_nil,Nat.reduceAdd,Nat.reduceLT,List.set,if_true]
   ·rw [if_neg cv]
    simp only [Qbf,Qa8,Qge,Qo,Q3,Qa,Qz,Qfy,Qc,Qfx,Qfw,cont,Qfv,ui2,hv,Qa6,Qbe,Qa5,Qa4,Qa3,uc3,cv,decide_false,Q4,yBl,Qal,yIf,Qbz]
  have ec:=Q5v (cf:=cfn (k+1)) (e:=.var 0) (ρ:=[.fz (Qf r),.fz (.int (ld r:Int)),.fz (.int (dvr r)),s3]) (js:=[none,some 2]) (s:=dvr r) hr rfl rfl rfl (Qrd z) (Qaa8 (by decide) hb)
  simp only [Qad,Qa0,Q0,Ql,Qo,Q3,Qa,Qz,yC1,Qu,yC2,Qr,Qs,Qy,Qt,Q7,Qx,el,Qao,Qi,Qv,L2.Qj,Option.map,if_true,Qal,Qb0,Qba,frz,Qah,Qbk,length_cons,length_nil,Nat.reduceAdd,Nat.reduceLT,Qc,List.set,Qbd,Qbf,Qa8,Qa6,Qlk,Qa5,Qa4,cont,Qa3,uc7,Qew,Q4,yBl,yIf,Qbz,Qbe,Qfz,Qnn,Qsq,Qlm,Qll,Qej,Qlv,Qjv,ef,Qdg,es,Qax,Qbj,ec,yBi,Qbh,Qaa,Out.opt,ub9,Qby,Qaf,Qau,Qar,Qas,Q2,lnT,en]
 ·have en:lnR r=none:=if_neg z
  have el:cfn (k+1) 24 [.fz (Qf r)]=.ok (.fz .non) [.non]:=by rw [e1];unfold ldT;rw [if_neg z]
  simp only [Qad,Qa0,Q0,Ql,Qo,Q3,Qa,Qz,yC1,Qu,yC2,Qr,Qs,Qy,Qt,Q7,Qx,el,Qao,Qi,Qv,L2.Qj,Option.map,if_true,Qal,Qb0,Qba,frz,Qah,Qbk,length_cons,length_nil,Nat.reduceAdd,Nat.reduceLT,Qc,List.set,Qbd,Qbf,Qa8,Qa6,Qlk,Qa5,Qa4,cont,Qa3,uc7,Qew,Q4,yBl,yIf,Qax,Qby,Q46,Qaf,Qau,Qar,Qas,Q2,lnT,en]
open PySem L2
noncomputable abbrev Qabf:E:=.bin .sub (.bin .mul (.ix (.var 1) (.var 0)) (.ix (.var 2) (.var 3))) (.bin .mul (.ix (.var 2) (.var 0)) (.ix (.var 1) (.var 3)))
theorem Qw9 {i j:Int} (hi:i.natAbs<2^480) (hj:j.natAbs<2^480):Qbu i j=true:=Qic hi hj (by decide) (by decide)
theorem Qabg {r:List Int} {n:Nat} (h:r.length=n):r=(List.range n).map (ge r):=by
 apply List.ext_getElem
 ·rw [length_map,length_range,h]
 ·intro j h1 h2
  rw [List.getElem_map,List.getElem_range]
  unfold ge
  rw [getD_eq_getElem?_getD,getElem?_eq_getElem h1]
  rfl
theorem Qxa {r s:List Int} {n:Nat} (hr:r.length=n) (hs:s.length=n):clr r s=(List.range n).map fun j=>ge r j*ge s (ld s)-ge s j*ge r (ld s):=by
 have hl:(clr r s).length=n:=Qco hr hs
 rw [Qabg hl]
 apply map_congr_left
 intro j _
 unfold clr
 rw [Qhr hr hs,Int.neg_mul,Int.mul_comm (ge s (ld s)),Int.mul_comm (ge r (ld s)),←Int.sub_eq_add_neg]
theorem Qyx (k:Nat) {r s:List Int} {n:Nat} (hr:r.length=n) (hs:s.length=n) (hn:n≤1000) (z:ld s<s.length) (br:∀ x∈r,x.natAbs<2^480) (bs:∀ x∈s,x.natAbs<2^480):cfn (k+2) 27 [.fz (Qf r),.fz (Qf s)]=.ok (.fz (Qf (clr r s))) [.non,.non]:=by
 have e1:cfn (k+1) 24 [.fz (Qf s)]=.ok (.fz (.int (ld s:Int))) [.non]:=by
  rw [Qoe k (by omega)];unfold ldT;rw [if_pos z]
 have hc:r.length≤100000:=by omega
 have rn:∀ ρ,Qsr (.fz (.int (r.length:Int))) ρ=.ok (Qag 0 r.length,none) ρ:=fun ρ=>Qiz hc
 have al:=Qe3 z
 have am:atI (r.map T.int) (ld s:Int)=some (.int (ge r (ld s))):=Qe3 (by omega)
 have gl:=bs _ (Qir z)
 have gm:=br _ (Qir (r:=r) (j:=ld s) (by omega))
 have hw:evW (cfn (k+1)) (.rng1 (.bi .len (.cons (.var 0) .nil))) [.fz (Qf r),.fz (Qf s),.fz (.int (ld s:Int))]=.ok (Qag 0 r.length,none) [.fz (Qf r),.fz (Qf s),.fz (.int (ld s:Int))]:=by
  simp only [Qdc,Qbj,Ql,Qo,Q3,Qa,Qz,yC1,Qu,yC2,yBi,Qbh,Qaa,cont,Out.opt,ub2,length_map,rn]
 have ec:=Qa2 (cf:=cfn (k+1)) (w:=.rng1 (.bi .len (.cons (.var 0) .nil))) (js:=[none,some 0,some 1,some 2]) (e:=Qabf) (ρ:=[.fz (Qf r),.fz (Qf s),.fz (.int (ld s:Int))]) (rest:=[.fz (Qf r),.fz (Qf s),.fz (.int (ld s:Int))]) (xs:=Qag 0 r.length) (f:=fun t=>.int (ge r (jOf t)*ge s (ld s)-ge s (jOf t)*ge r (ld s))) hw rfl rfl rfl (fun t ht=>by
  obtain ⟨j,hj,rfl⟩:=mem_map.mp ht
  have hj':=mem_range.mp hj
  have a1:atI (r.map T.int) (j:Int)=some (.int (ge r j)):=Qe3 hj'
  have a2:atI (s.map T.int) (j:Int)=some (.int (ge s j)):=Qe3 (by omega)
  have m1:=Qw9 (br _ (Qir hj')) gl
  have m2:=Qw9 (bs _ (Qir (r:=s) (j:=j) (by omega))) gm
  refine ⟨.fz (.int (ge r j*ge s (ld s)-ge s j*ge r (ld s))),?_,by show some _=some _;rw [Qei]⟩
  simp only [Int.zero_add,Qcv,Qge,Qo,Q3,Qc,Qa,Qz,Qfy,Qfx,Qfw,cont,Qfv,ui2,a1,Qcl,al,Qck,Qcj,Out.opt,uo5,m1,if_true,a2,am,m2,uo4]) (by rw [Qaq];omega)
 have eu:=Qjb (f:=fun j=>T.int (ge r j*ge s (ld s)-ge s j*ge r (ld s))) r.length
 have ew:(Qf (clr r s))=.tup ((Qag 0 r.length).map fun t=>.int (ge r (jOf t)*ge s (ld s)-ge s (jOf t)*ge r (ld s))):=by
  rw [eu,Qxa hr hs,hr]
  show T.tup (((List.range n).map _).map T.int)=_
  rw [map_map]
  rfl
 rw [ew]
 show Qbg (cfn (k+1)) ⟨2,3,Qkx⟩ _=_
 rw [Qaw rfl]
 show Qbr _ (exS _ Qkx [.fz (Qf r),.fz (Qf s),.un])=_
 simp only [Qad,Qa0,Q0,Ql,Qo,Q3,Qc,Qa,Qz,yC1,Qu,yC2,Qr,Qs,Qy,Qt,Q7,Qx,e1,Qao,Qi,Qv,L2.Qj,Option.map,if_true,Qal,Qb0,Qba,frz,Qah,Qbk,length_cons,length_nil,Nat.reduceAdd,Nat.reduceLT,List.set,Qbd,Qax,Qbj,ec,yBi,Qbh,Qaa,cont,Out.opt,ub9,Qby,Qaf,Qau,Qar,Qas,Q2]
noncomputable def LOk:List Int→List (List Int)→Prop
 | _,[]=>True
 | r,s::S=>(∀ x∈r,x.natAbs<2^480)∧(∀ x∈s,x.natAbs<2^480)∧LOk (clr r s) S
noncomputable abbrev Qxb:S:=.setF 0 (.call 27 (.cons (.var 0) (.cons (.var 2) .nil)))
theorem Qxc (k:Nat) {n:Nat} (hn:n≤1000) (a:Slot):∀ (S:List (List Int)) (r:List Int) (s2:Slot),r.length=n→(∀ s∈S,s.length=n∧ld s<s.length)→LOk r S→Qcu s2=true→∃ s2',Qc0 (.nm 2) (exS (cfn (k+2)) Qxb) (S.map Qf) [.fz (Qf r),a,s2]=.nx [.fz (Qf (lft r S)),a,s2']
 | [],r,s2,_,_,_,_=>⟨s2,rfl⟩
 | s::S,r,s2,hr,hS,ok,o2=>by
  obtain ⟨h1,h2⟩:=hS s (.head _)
  have e1:=Qyx k hr h1 hn h2 ok.1 ok.2.1
  have st:Qeb (.nm 2) (Qf s) [.fz (Qf r),a,s2]=some [.fz (Qf r),a,.fz (Qf s)]:=by
   cases s2 <;> first | rfl | (cases o2;done)
  have b0:exS (cfn (k+2)) Qxb [.fz (Qf r),a,.fz (Qf s)]=.nx [.fz (Qf (clr r s)),a,.fz (Qf s)]:=by simp only [Qa0,Q0,Ql,Qo,Q3,Qa,Qz,yC1,Qc,Qu,yC2,Qr,Qs,Qy,Qt,Q7,Qx,e1,Qao,Qi,Qv,L2.Qj,Option.map,if_true,Qal,Qb0,Qba,frz,Qah,Qbk,length_cons,length_nil,Nat.reduceAdd,Nat.reduceLT,List.set]
  rw [map_cons,Qhu st b0]
  exact Qxc k hn a S (clr r s) _ (Qco hr h1) (fun t ht=>hS t (.tail _ ht)) ok.2.2 rfl
theorem Qabh (k:Nat) {n:Nat} (hn:n≤1000) {S:List (List Int)} {r:List Int} (hr:r.length=n) (hS:∀ s∈S,s.length=n∧ld s<s.length) (ok:LOk r S):cfn (k+3) 28 [.fz (Qf r),.fz (.lst (S.map Qf))]=.ok (.fz (Qf (lft r S))) [.non,.non]:=by
 obtain ⟨s2,e⟩:=Qxc k hn (.fz (.lst (S.map Qf))) S r .un hr hS ok rfl
 show Qbg (cfn (k+2)) ⟨2,3,Qkz⟩ _=_
 rw [Qaw rfl]
 show Qbr _ (exS _ Qkz [.fz (Qf r),.fz (.lst (S.map Qf)),.un])=_
 simp only [Qad,Qfz,Qnn,Qo,Q3,Qc,Qa,Qz,Qsq,Qlm,cont,Qll,Qej,Qlv,Qal,Qjv,e,Qdg,Qbd,Qax,Qby,Qaf,Qau,Qar,Qas,Q2,Option.map]
end My
set_option exponentiation.threshold 5000
namespace My
open PySem L2
noncomputable abbrev st_set:S:=.setF 3 (.call 25 (.cons (.call 28 (.cons (.var 2) (.cons (.var 1) .nil))) .nil))
noncomputable abbrev Q2g:S:=.ite (.cmp .isnn (.var 3) .non) (.app 1 (.var 3)) .nil
theorem Q2h {cf:CF} {i:Nat} {b:S} {ρ:En} {ts:List T} (hs:Qb ρ i=.ow (.lst ts)) (hk:(ρ.set i .un).all Qko=true):exS cf (.look i b) ρ=lkO i ρ (exS cf b ((ρ.set i (.fz (.lst ts))).map lkS)):=by
 rw [exS,hs]
 simp only [if_pos hk]
theorem Qto (r:List Int):(r.map T.int).all flaT=true:=by
 rw [List.all_map]
 exact all_eq_true.mpr fun _ _=>rfl
theorem Q2i (r:List Int):lkS (.fz (Qf r))=.fz (Qf r):=by
 show (if (!(r.map T.int).all flaT)=true then Slot.fx (Qf r) else .fz (Qf r))=_
 rw [Qto]
 rfl
theorem Q2j (r:List Int):Qor (Qf r)=true:=Qto r
theorem Qae1 (o:Option (List Int)):Qor (lnT o)=true:=by
 cases o with
 | none=>rfl
 | some l=>exact Q2j l
theorem Qae2 (o:Option (List Int)):lkS (.fz (lnT o))=.fz (lnT o):=by
 cases o with
 | none=>rfl
 | some l=>exact Q2i l
theorem Qabi (o:Option (List Int)):Qko (.fz (lnT o))=true:=by
 cases o <;> rfl
theorem Q5w (k:Nat) {R:List T} {L:List (List Int)} (hL:L.length≤10) {x u:List Int} (hu:u.length≤1000) (hv:∀ y∈u,y.natAbs<2^4000) (h:cfn (k+3) 28 [.fz (Qf x),.fz (.lst (L.map Qf))]=.ok (.fz (Qf u)) [.non,.non]) {s3:Slot} (o3:s3=.un∨∃ o,s3=.fz (lnT o)) :
  exS (cfn (k+3)) (.seq (.look 1 st_set) Q2g) [.fz (.tup R),.ow (.lst (L.map Qf)),.fz (Qf x),s3]=.nx [.fz (.tup R),.ow (.lst ((L++(lnR u).toList).map Qf)),.fz (Qf x),.fz (lnT (lnR u))]:=by
 have e1:=Qlb (k+1) hu hv
 have w1:exS (cfn (k+3)) (.look 1 st_set) [.fz (.tup R),.ow (.lst (L.map Qf)),.fz (Qf x),s3]=.nx [.fz (.tup R),.ow (.lst (L.map Qf)),.fz (Qf x),.fz (lnT (lnR u))]:=by
  generalize L.map Qf=LL at h ⊢
  obtain ⟨R',hR1,hR2⟩:∃ R':Slot,lkS (.fz (.tup R))=R'∧lkB (.fz (.tup R)) R'=.fz (.tup R):=by
   refine ⟨_,rfl,?_⟩
   show lkB (.fz (.tup R)) (if (!R.all flaT)=true then .fx (.tup R) else .fz (.tup R))=_
   cases hr:R.all flaT with
   | true=>show (if R.all flaT=true then Slot.fz (.tup R) else .un)=_;rw [if_pos hr]
   | false=>rfl
  have e:∀ s:Slot,Qcu s=true→exS (cfn (k+3)) st_set [R',.fx (.lst LL),.fz (Qf x),s]=.nx [R',.fx (.lst LL),.fz (Qf x),.fz (lnT (lnR u))]:=fun s os=>by
   (cases s <;> cases os) <;> simp only [Qa0,Q0,Ql,Qo,Q3,Qc,Qa,Qz,yC1,Qu,yC2,Qr,Qs,Qy,Qt,Q7,Qx,h,Qao,Qi,Qv,L2.Qj,Option.map,if_true,e1,Qal,Qb0,Qba,frz,Qah,Qbk,length_cons,length_nil,Nat.reduceAdd,Nat.reduceLT,List.set]
  have hf:=Qae1 (lnR u)
  have hx:=Q2j x
  have fin:∀ s:Slot,Qcu s=true→lkO 1 [.fz (.tup R),.ow (.lst LL),.fz (Qf x),s] (.nx [R',.fx (.lst LL),.fz (Qf x),.fz (lnT (lnR u))])=.nx [.fz (.tup R),.ow (.lst LL),.fz (Qf x),.fz (lnT (lnR u))]:=fun s os=>by
   (cases s <;> cases os) <;> (show SO.nx [lkB (.fz (.tup R)) R',.ow (.lst LL),if Qor (Qf x)=true then .fz (Qf x) else .un,if Qor (lnT (lnR u))=true then .fz (lnT (lnR u)) else .un]=_;rw [if_pos hf,if_pos hx,hR2])
  have go:∀ s:Slot,Qcu s=true→Qko s=true→lkS s=s→exS (cfn (k+3)) (.look 1 st_set) [.fz (.tup R),.ow (.lst LL),.fz (Qf x),s]=.nx [.fz (.tup R),.ow (.lst LL),.fz (Qf x),.fz (lnT (lnR u))]:=fun s os ok ks=>by
   rw [Q2h (ts:=LL) rfl (by show (true&&(true&&(true&&(Qko s&&true))))=true;rw [ok];rfl)]
   show lkO 1 _ (exS (cfn (k+3)) st_set [lkS (.fz (.tup R)),.fx (.lst LL),lkS (.fz (Qf x)),lkS s])=_
   rw [ks,hR1,Q2i,e s os,fin s os]
  rcases o3 with rfl | ⟨o,rfl⟩
  ·exact go _ rfl rfl rfl
  ·exact go _ rfl (Qabi o) (Qae2 o)
 rw [Qad,w1,Qbd]
 cases ho:lnR u with
 | none =>
  rw [Option.toList_none,append_nil]
  generalize L.map Qf=LL
  simp only [lnT,Qbf,Qa8,Qo,Q3,Qc,Qa,Qz,Qa6,Qlk,Qa5,Qa4,cont,Qa3,uc8,Qew,Bool.not_true,Q4,yBl,Qal,yIf,Qbz]
 | some l =>
  have z:L.length<100000:=by omega
  have ea:L.map Qf++[lnT (some l)]=(L++[l]).map Qf:=by rw [map_append];rfl
  have ne:lnT (some l)=Qf l:=rfl
  rw [Option.toList_some]
  simp only [ne,Qbf,Qa8,Qo,Q3,Qc,Qa,Qz,Qa6,Qlk,Qa5,Qa4,cont,Qa3,uc8,Qew,Bool.not_false,Q4,yBl,Qal,yIf,Qno,Slot.mut,Qup,Qp0,frz,Qpz,length_map,z,List.set,if_true]
  rw [←ea,ne]
noncomputable def ex (i:Nat):Nat:=120*2^i-1
theorem Q5x (i:Nat):ex (i+1)=2*ex i+1:=by
 unfold ex
 have:0<2^i:=Nat.two_pow_pos i
 rw [Nat.pow_succ]
 omega
theorem Qabj {r s:List Int} {n i:Nat} (hr:r.length=n) (hs:s.length=n) (z:ld s<s.length) (br:∀ x∈r,x.natAbs<2^ex i) (bs:∀ x∈s,x.natAbs<2^ex i):∀ x∈clr r s,x.natAbs<2^ex (i+1):=fun x hx=>by
 rw [Qxa hr hs] at hx
 obtain ⟨j,hj,rfl⟩:=mem_map.mp hx
 have hj':=mem_range.mp hj
 have a1:=br _ (Qir (r:=r) (j:=j) (by omega))
 have a2:=br _ (Qir (r:=r) (j:=ld s) (by omega))
 have a3:=bs _ (Qir (r:=s) (j:=j) (by omega))
 have a4:=bs _ (Qir (r:=s) (j:=ld s) (by omega))
 have m1:(ge r j*ge s (ld s)).natAbs<2^ex i*2^ex i:=by rw [Int.natAbs_mul];exact Nat.mul_lt_mul'' a1 a4
 have m2:(ge s j*ge r (ld s)).natAbs<2^ex i*2^ex i:=by rw [Int.natAbs_mul];exact Nat.mul_lt_mul'' a3 a2
 have e:2^ex (i+1)=2*(2^ex i*2^ex i):=by rw [Q5x,Nat.pow_succ,Nat.two_mul,Nat.pow_add,Nat.mul_comm]
 rw [e]
 omega
noncomputable def BdS:Nat→List (List Int)→Prop
 | _,[]=>True
 | i,s::S=>(∀ x∈s,x.natAbs<2^ex i)∧BdS (i+1) S
theorem BdS.snoc {l:List Int}:∀ {S:List (List Int)} {i:Nat},BdS i S→(∀ x∈l,x.natAbs<2^ex (i+S.length))→BdS i (S++[l])
 | [],i,_,h=>⟨h,trivial⟩
 | s::S,i,hS,h=>⟨hS.1,hS.2.snoc (by rw [length_cons] at h;rw [show i+1+S.length=i+(S.length+1) by omega];exact h)⟩
theorem Qabk {i:Nat} (h:i≤2):2^ex i≤2^480:=Nat.pow_le_pow_right (by decide) (by
 rcases (show i=0∨i=1∨i=2 by omega) with rfl | rfl | rfl <;> decide)
theorem Qabl {i:Nat} (h:i≤3):2^ex i≤2^4000:=Nat.pow_le_pow_right (by decide) (by
 rcases (show i=0∨i=1∨i=2∨i=3 by omega) with rfl | rfl | rfl | rfl <;> decide)
theorem Qvk {n:Nat}:∀ {S:List (List Int)} {i:Nat} {r:List Int},r.length=n→(∀ s∈S,s.length=n∧ld s<s.length)→(∀ x∈r,x.natAbs<2^ex i)→BdS i S→i+S.length≤3→LOk r S∧(lft r S).length=n∧∀ x∈lft r S,x.natAbs<2^ex (i+S.length)
 | [],i,r,hr,_,b,_,_=>⟨trivial,hr,b⟩
 | s::S,i,r,hr,hS,b,bS,h=>by
  obtain ⟨h1,h2⟩:=hS s (.head _)
  rw [length_cons] at h ⊢
  have c:=Qabj hr h1 h2 b bS.1
  obtain ⟨q1,q2,q3⟩:=Qvk (S:=S) (i:=i+1) (r:=clr r s) (Qco hr h1) (fun t ht=>hS t (.tail _ ht)) c bS.2 (by omega)
  have z:=Qabk (show i≤2 by omega)
  refine ⟨⟨fun x hx=>Nat.lt_of_lt_of_le (b x hx) z,fun x hx=>Nat.lt_of_lt_of_le (bS.1 x hx) z,q1⟩,q2,?_⟩
  rw [show i+(S.length+1)=i+1+S.length by omega]
  exact q3
end My
set_option exponentiation.threshold 1000
namespace My
open PySem L2
theorem Qxd {u l:List Int} (e:lnR u=some l):l.length=u.length∧ld l<l.length:=by
 have hz:¬ isZ u:=fun z=>by
  rw [(Qb6.no u).mpr z] at e;cases e
 obtain ⟨g,_,hg⟩:=Qb6.yes u l e
 refine ⟨by rw [hg,length_map],(Qn8 l).mpr fun z=>hz fun x hx=>?_⟩
 rw [hg] at hx
 obtain ⟨y,hy,rfl⟩:=mem_map.mp hx
 rw [z y hy,Int.mul_zero]
noncomputable abbrev Qmf:S:=.seq (.look 1 st_set) Q2g
theorem Qrk (k:Nat) (R:List T) {n:Nat} (hn:n≤1000):∀ (rows S:List (List Int)) (s2 s3:Slot),(∀ r∈rows,r.length=n∧∀ x∈r,x.natAbs<2^ex 0)→S.length+rows.length≤4→(∀ s∈S,s.length=n∧ld s<s.length)→BdS 0 S→Qcu s2=true→(s3=.un∨∃ o,s3=.fz (lnT o)) →
  ∃ s2' s3',Qc0 (.nm 2) (exS (cfn (k+3)) Qmf) (rows.map Qf) [.fz (.tup R),.ow (.lst (S.map Qf)),s2,s3]=.nx [.fz (.tup R),.ow (.lst ((rows.foldl (stp lnR) S).map Qf)),s2',s3']
 | [],S,s2,s3,_,_,_,_,_,_=>⟨s2,s3,rfl⟩
 | r::rows,S,s2,s3,hr,hl,hS,bS,o2,o3=>by
  obtain ⟨h1,h2⟩:=hr r (.head _)
  rw [length_cons] at hl
  obtain ⟨q1,q2,q3⟩:=Qvk (i:=0) h1 hS h2 bS (by omega)
  rw [Nat.zero_add] at q3
  have z:=Qabl (show S.length≤3 by omega)
  have t:=Q5w k (R:=R) (L:=S) (by omega) (x:=r) (u:=lft r S) (by omega) (fun y hy=>Nat.lt_of_lt_of_le (q3 y hy) z) (Qabh k hn h1 hS q1) o3
  have st:Qeb (.nm 2) (Qf r) [.fz (.tup R),.ow (.lst (S.map Qf)),s2,s3]=some [.fz (.tup R),.ow (.lst (S.map Qf)),.fz (Qf r),s3]:=by
   cases s2 <;> first | rfl | (cases o2;done)
  rw [map_cons,Qhu st t,foldl_cons]
  have es:stp lnR S r=S++(lnR (lft r S)).toList:=by
   unfold stp
   cases lnR (lft r S) with
   | none=>rw [Option.toList_none,append_nil]
   | some l=>rfl
  rw [es]
  have hr':∀ r∈rows,r.length=n∧∀ x∈r,x.natAbs<2^ex 0:=fun t ht=>hr t (.tail _ ht)
  cases ho:lnR (lft r S) with
  | none =>
   rw [Option.toList_none,append_nil]
   exact Qrk k R hn rows S _ _ hr' (by omega) hS bS rfl (.inr ⟨_,rfl⟩)
  | some l =>
   rw [Option.toList_some]
   obtain ⟨l1,l2⟩:=Qxd ho
   refine Qrk k R hn rows (S++[l]) _ _ hr' (by rw [length_append,length_singleton];omega) (fun s hs=>?_) (bS.snoc (by rw [Nat.zero_add];exact (Q1v q3 ho).2)) rfl (.inr ⟨_,rfl⟩)
   rcases mem_append.mp hs with z | z
   ·exact hS s z
   ·rw [mem_singleton.mp z];exact ⟨l1.trans q2,l2⟩
theorem Qxe (k:Nat) {n:Nat} {M:Tb} (h4:M.length≤4) (hM:∀ r∈M,r.length=n∧∀ x∈r,x.natAbs<2^ex 0) (hn:n≤1000):cfn (k+4) 29 [.fz (Qm M)]=.ok (.ow (.lst ((Qap lnR M).map Qf))) [.non]:=by
 have z0:(0:Nat)≤100000:=by decide
 obtain ⟨s2,s3,e⟩:=Qrk k (M.map Qf) hn M [] .un .un hM (by rw [length_nil];omega) (fun s hs=>by cases hs) trivial rfl (.inl rfl)
 rw [map_nil] at e
 have e':Qc0 (.nm 2) (exS (cfn (k+3)) Qmf) (M.map Qf) [.fz (Qm M),.ow (.lst []),.un,.un]=.nx [.fz (Qm M),.ow (.lst ((Qap lnR M).map Qf)),s2,s3]:=e
 show Qbg (cfn (k+3)) ⟨1,4,Qn3⟩ _=_
 rw [Qaw rfl]
 show Qbr _ (exS _ (.seq (.set 1 (.lst .nil)) (.seq (.for_ (.seq (.var 0)) (.nm 2) Qmf) (.ret (.var 1)))) [.fz (Qm M),.un,.un,.un])=_
 generalize Qmf=B0 at e' ⊢
 generalize (Qap lnR M).map Qf=LL at e' ⊢
 simp only [Qad,Qlo,Qnj,Qu,Qz,Qsn,Qfj,length_nil,z0,if_true,Qal,Qoq,Qah,Qbk,length_cons,Nat.reduceAdd,Nat.reduceLT,Qc,Qa,List.set,Qbd,Qfz,Qnn,Qo,Q3,Qsq,Qlm,cont,Qll,Qej,Qlv,Qjv,e',Qdg,Qax,Qby,Qaf,Qau,Qar,Qas,Q2,Option.map]
theorem Qrl {n:Nat}:∀ (rows S:List (List Int)),(∀ r∈rows,r.length=n∧∀ x∈r,x.natAbs<2^ex 0)→S.length+rows.length≤4→(∀ s∈S,s.length=n∧ld s<s.length)→BdS 0 S→(∀ s∈rows.foldl (stp lnR) S,s.length=n∧ld s<s.length)∧BdS 0 (rows.foldl (stp lnR) S)∧(rows.foldl (stp lnR) S).length≤4
 | [],S,_,h4,hS,bS=>⟨hS,bS,by simpa using h4⟩
 | r::rows,S,hr,hl,hS,bS=>by
  obtain ⟨h1,h2⟩:=hr r (.head _)
  rw [length_cons] at hl
  obtain ⟨q1,q2,q3⟩:=Qvk (i:=0) h1 hS h2 bS (by omega)
  rw [Nat.zero_add] at q3
  have es:stp lnR S r=S++(lnR (lft r S)).toList:=by
   unfold stp
   cases lnR (lft r S) with
   | none=>rw [Option.toList_none,append_nil]
   | some l=>rfl
  have hr':∀ r∈rows,r.length=n∧∀ x∈r,x.natAbs<2^ex 0:=fun t ht=>hr t (.tail _ ht)
  rw [foldl_cons,es]
  cases ho:lnR (lft r S) with
  | none =>
   rw [Option.toList_none,append_nil]
   exact Qrl rows S hr' (by omega) hS bS
  | some l =>
   rw [Option.toList_some]
   obtain ⟨l1,l2⟩:=Qxd ho
   refine Qrl rows (S++[l]) hr' (by rw [length_append,length_singleton];omega) (fun s hs=>?_) (bS.snoc (by rw [Nat.zero_add];exact (Q1v q3 ho).2))
   rcases mem_append.mp hs with z | z
   ·exact hS s z
   ·rw [mem_singleton.mp z];exact ⟨l1.trans q2,l2⟩
theorem BdS.all:∀ {S:List (List Int)} {i:Nat},BdS i S→i+S.length≤4→∀ s∈S,∀ x∈s,x.natAbs<2^959
 | s::S,i,h,hl,t,ht,x,hx=>by
  rw [length_cons] at hl
  rcases mem_cons.mp ht with rfl | ht
  ·refine Nat.lt_of_lt_of_le (h.1 x hx) (Nat.pow_le_pow_right (by decide) ?_)
   rcases (show i=0∨i=1∨i=2∨i=3 by omega) with rfl | rfl | rfl | rfl <;> decide
  ·exact h.2.all (by omega) t ht x hx
theorem Qyy {n:Nat} {M:Tb} (h4:M.length≤4) (hM:∀ r∈M,r.length=n∧∀ x∈r,x.natAbs<2^ex 0):∀ s∈Qap lnR M,s.length=n∧ld s<s.length∧∀ x∈s,x.natAbs<2^959:=fun s hs=>by
 obtain ⟨a,b,c⟩:=Qrl M [] hM (by simpa using h4) (fun s hs=>by cases hs) trivial
 exact ⟨(a s hs).1,(a s hs).2,b.all (by rw [Nat.zero_add];exact c) s hs⟩
open PySem L2
theorem Sq.small {n:Nat} {M:Tb} (h:Sq n M):∀ r∈M,r.length=n∧∀ x∈r,x.natAbs<2^ex 0:=fun r hr=>⟨h.row r hr,fun x hx=>h.bd r hr x hx⟩
theorem Qof (k:Nat) {n:Nat} {M:Tb} (h:Sq n M) (h1:1≤n) (h4:n≤4):cfn (k+5) 30 [.fz (Qm M)]=.ok (.fz (.int ((Qap lnR M).length:Nat))) [.non]:=by
 have e1:=Qce k h.shp h1 h4
 have e2:=Qxe k (n:=n) (M:=M) (by rw [h.len];exact h4) h.small (by omega)
 show Qbg (cfn (k+4)) ⟨1,1,Qu3⟩ _=_
 rw [Qaw rfl]
 show Qbr _ (exS _ Qu3 [.fz (Qm M)])=_
 simp only [Qad,Qiy,Q0,Ql,Qo,Q3,Qa,Qz,yC1,Qu,yC2,Qr,Qs,Qy,Qt,Q7,Qx,e1,Qao,Qi,Qv,L2.Qj,Option.map,if_true,Qal,Qln,Qbd,Qax,Qbj,e2,yBi,Qbh,Qaa,cont,Out.opt,ub1,length_map,Qby,Qaf,Qau,Qar,Qas,Q2]
theorem Qea (k:Nat) {n:Nat} {M:Tb} (h:Sq n M) (h1:1≤n) (h4:n≤4):cfn (k+10) 33 [.fz (Qm M)]=.ok (.fz (.int (Qae n M))) [.non]:=by
 have e1:=Qce (k+5) h.shp h1 h4
 have e2:=Q7l n (k+(7-n)) M (Qm M) (by omega) (by first | exact .inl rfl | exact .inr rfl | constructor) h
 rw [show k+(7-n)+n+2=k+9 by omega] at e2
 show Qbg (cfn (k+9)) ⟨1,1,Qfp⟩ _=_
 rw [Qaw rfl]
 show Qbr _ (exS _ Qfp [.fz (Qm M)])=_
 simp only [Qad,Qiy,Q0,Ql,Qo,Q3,Qa,Qz,yC1,Qu,yC2,Qr,Qs,Qy,Qt,Q7,Qx,e1,Qao,Qi,Qv,L2.Qj,Option.map,if_true,Qal,Qln,Qbd,Qax,e2,Qby,Qaf,Qau,Qar,Qas,Q2]
open PySem L2
noncomputable def Qe4 (q:T):Prop:=∃ n f:Int,0≤n∧q=.lst [.int n,.int f]
theorem Qgx (k:Nat) {m:Int} (h0:0<m) (h1:m.natAbs<2^64) {q:T} (hq:Qe4 q):∃ r q',0≤r∧r<m∧Qe4 q'∧cfn (k+1) 37 [.ml q,.fz (.int m)]=.ok (.fz (.int r)) [q',.non]:=by
 obtain ⟨n,f,hn,rfl⟩:=hq
 have h1':m.natAbs<18446744073709551616:=h1
 have h32:(32:Int).natAbs<18446744073709551616:=by decide
 by_cases hf:f=1
 ·refine ⟨n%m,.lst [.int (n / m),.int f],Int.emod_nonneg _ (by omega),Int.emod_lt_of_pos _ h0,⟨_,_,Int.ediv_nonneg hn (by omega),rfl⟩,?_⟩
  show Qbg (cfn k) ⟨2,5,Qe2⟩ _=_
  rw [Qaw rfl]
  show Qbr _ (exS _ Qe2 [.ml (.lst [.int n,.int f]),.fz (.int m),.un,.un,.un])=_
  subst hf
  simp only [Qad,Qbf,Qa8,Qge,Qo,Q3,Qa,Qz,Qfy,Qbe,Qfx,Qfw,cont,Slot.prv,Qfv,ui1,at_1,Qa6,Qa5,Qa4,Qa3,uc1,Qbl,decide_true,Q4,yBl,Qal,yIf,Q7d,Qbj,Ql,Q5a,yC1,Qc,Qu,yC2,yBi,Qbh,Qaa,Out.opt,ub7,h0,Nat.reducePow,h1',and_self,if_true,yUnp,Qah,Qcz,Qbk,length_cons,length_nil,Nat.reduceAdd,Nat.reduceLT,List.set,Qbd,Qwo,Qyg,Qst,frz,Slot.mut,Qp1,Qss,Q7f,Qax,Qby,Q46,Qaf,Qau,Qar,Qas,Q2,Option.map]
 ·refine ⟨(((((n%2147483647+40503)*69621%2147483629)*((n%2147483647+40503)*69621%2147483629)+7817)%2147483587)*48271+11)%2147483629 / 32%m,
   .lst [.int ((((((n%2147483647+40503)*69621%2147483629)*((n%2147483647+40503)*69621%2147483629)+7817)%2147483587)*48271+11)%2147483629),.int f],Int.emod_nonneg _ (by omega),Int.emod_lt_of_pos _ h0,⟨_,_,Int.emod_nonneg _ (by decide),rfl⟩,?_⟩
  show Qbg (cfn k) ⟨2,5,Qe2⟩ _=_
  rw [Qaw rfl]
  show Qbr _ (exS _ Qe2 [.ml (.lst [.int n,.int f]),.fz (.int m),.un,.un,.un])=_
  have b1:Qbu (n%2147483647+40503) 69621=true:=by unfold Qbu;simp
  have m1:0≤(n%2147483647+40503)*69621%2147483629:=Int.emod_nonneg _ (by decide)
  have m2:(n%2147483647+40503)*69621%2147483629<2147483629:=Int.emod_lt_of_pos _ (by decide)
  generalize hs:(n%2147483647+40503)*69621%2147483629=st at m1 m2 ⊢
  have b2:Qbu st st=true:=by
   unfold Qbu
   simp only [Bool.or_eq_true,decide_eq_true_eq]
   exact .inl (by omega)
  have b3:∀ z,Qbu z 48271=true:=fun z=>by unfold Qbu;simp
  simp only [Qad,Qbf,Qa8,Qge,Qo,Q3,Qa,Qz,Qfy,Qbe,Qfx,Qfw,cont,Slot.prv,Qfv,ui1,at_1,Qa6,Qa5,Qa4,Qa3,uc1,Qbl,hf,decide_false,Q4,yBl,Qal,yIf,Qbz,Qbd,Qa0,Qcv,Q5a,Qcl,Qck,Qcj,Out.opt,uo8,Int.reduceLT,if_false,if_true,uo1,uo5,b1,hs,Qb0,Qba,frz,Qah,Qbk,length_cons,length_nil,Nat.reduceAdd,Nat.reduceLT,Qc,List.set,b2,Qwo,b3,Qyg,Qst,Slot.mut,Qp1,Qss,Q7f,Qax,uo7,Nat.reducePow,h32,and_self,h0,Qby,Qaf,Qau,Qar,Qas,Q2,Option.map]
theorem Qae3 (k:Nat) (c:Int):∃ q,Qe4 q∧cfn (k+1) 36 [.fz (.int c)]=.ok (.ow q) [.non]:=by
 refine ⟨.lst [.int (if 0-c>c then 0-c else c),.int (if decide (10^18≤(if 0-c>c then 0-c else c))=true then 1 else 0)],⟨_,_,?_,rfl⟩,?_⟩
 ·split <;> omega
 ·have p1:(18:Int).natAbs≤1000000:=by decide
  have p2:(10:Int).natAbs<18446744073709551616:=by decide
  show Qbg (cfn k) ⟨1,2,Qk2⟩ _=_
  rw [Qaw rfl]
  show Qbr _ (exS _ Qk2 [.fz (.int c),.un])=_
  have z2:(2:Nat)≤100000:=by decide
  simp only [Qad,Qa0,Qbj,Ql,Qo,Q3,Qa,Qz,yC1,Qcv,Qbe,Qcl,Qck,Qcj,cont,Out.opt,uo4,Qu,yC2,yBi,Qbh,Qaa,ub6,Qal,Qb0,Qba,frz,Qah,Qbk,length_cons,length_nil,Nat.reduceAdd,Nat.reduceLT,Qc,List.set,if_true,Qbd,Qax,Qnj,Qa8,Qa6,uo9,Int.reduceLE,p1,Nat.reducePow,p2,and_self,Int.reduceToNat,Int.reducePow,Qa5,Qa4,Qa3,uc6,ub8,Qsn,Qfj,z2,Qby,Qaf,Qau,Qar,Qas,Q2,Option.map]
open PySem L2
structure Sb (n:Nat) (M:Tb):Prop where
 shp:Shp n M
 bt:Bt 37 M
structure Tabs (n:Nat) (Ms:List Tb):Prop where
 n1:1≤n
 n4:n≤4
 m1:1≤Ms.length
 m4:Ms.length≤4
 sq:∀ M∈Ms,Sb n M
theorem Qp6 {cf:CF} {g:Slot}:∀ (rows:Tb) (acc:List Int) (s:Slot),Qcu s=true→acc.length+rows.flatten.length≤1000→∃ s',Qc0 (.nm 2) (exS cf (.ext 1 (.var 2))) (rows.map Qf) [g,.ow (.lst (acc.map .int)),s]=.nx [g,.ow (.lst ((acc++rows.flatten).map .int)),s']
 | [],acc,s,_,_=>⟨s,by simp [Qc0]⟩
 | r::rows,acc,s,hs,hz=>by
  rw [List.flatten_cons,length_append] at hz
  obtain ⟨s',e⟩:=Qp6 (cf:=cf) (g:=g) rows (acc++r) (.fz (Qf r)) rfl (by rw [length_append];omega)
  refine ⟨s',?_⟩
  have e0:Qeb (.nm 2) (Qf r) [g,.ow (.lst (acc.map .int)),s]=some [g,.ow (.lst (acc.map .int)),.fz (Qf r)]:=by
   cases s <;> first | rfl | cases hs
  rw [map_cons]
  unfold Qc0
  rw [e0]
  have z:acc.length+r.length≤100000:=by omega
  simp only [Qaax,Slot.mut,Qc,Qa,Qo,Q3,Qal,yExt,Q7e,length_map,z,List.set,if_true]
  rw [←map_append,e,List.flatten_cons,append_assoc]
theorem Qkd (k:Nat) (M:Tb) (hz:M.flatten.length≤1000):cfn (k+1) 3 [.fz (Qm M)]=.ok (.ow (.lst (M.flatten.map .int))) [.non]:=by
 obtain ⟨s',e⟩:=Qp6 (cf:=cfn k) (g:=.fz (Qm M)) M [] .un rfl (by simpa using hz)
 rw [map_nil,List.nil_append] at e
 show Qbg (cfn k) ⟨1,3,Qgo⟩ _=_
 rw [Qaw rfl]
 show Qbr _ (exS _ Qgo [.fz (Qm M),.un,.un])=_
 simp only [Qad,Qlo,Qnj,Qu,Qz,Qsn,Qfj,length_nil,Nat.reduceLeDiff,if_true,Qal,Qoq,Qah,Qbk,length_cons,Nat.reduceAdd,Nat.reduceLT,Qc,Qa,List.set,Qbd,Qfz,Qnn,Qo,Q3,Qsq,Qlm,cont,Qll,Qej,Qlv,Qjv,e,Qdg,Qax,Qby,Qaf,Qau,Qar,Qas,Q2,Option.map]
theorem Qtp {n:Nat}:∀ {M:Tb},(∀ r∈M,r.length=n)→M.flatten.length=M.length*n
 | [],_=>by simp
 | r::M,h=>by
  rw [List.flatten_cons,length_append,h r mem_cons_self,Qtp (fun x hx=>h x (mem_cons_of_mem _ hx)),length_cons,Nat.add_mul,Nat.one_mul,Nat.add_comm]
theorem Shp.flat {n:Nat} {M:Tb} (h:Shp n M) (h4:n≤4):M.flatten.length≤1000:=by
 rw [Qtp h.row,h.len]
 have:n*n≤4*4:=Nat.mul_le_mul h4 h4
 omega
theorem Qke (k:Nat) {n:Nat} {M:Tb} (h:Sb n M) (h4:n≤4):cfn (k+2) 4 [.fz (Qm M)]=.ok (.fz (.bl true)) [.non]:=by
 have e:=Qkd k M (h.shp.flat h4)
 have p10:(12:Int).natAbs≤1000000:=by decide
 have p11:(10:Int).natAbs<18446744073709551616:=by decide
 have hcomp:evE (cfn (k+1)) (.comp (.seq (.call 3 (.cons (.var 0) .nil))) [none] (.nm 0) .nil (.cmp .lt (.bi .abs (.cons (.var 0) .nil)) (.bin .pow (.int 10) (.int 12)))) [.fz (Qm M)]=.ok (.ow (.lst ((M.flatten.map T.int).map fun _=>T.bl true))) [.fz (Qm M)] :=
  Qa2 (rest:=[]) (by simp only [Qnn,Q0,Ql,Qo,Q3,Qa,Qz,yC1,Qu,yC2,Qr,Qs,Qy,Qt,Q7,Qx,e,Qao,Qi,Qv,L2.Qj,Option.map,if_true,Qsq,Qlm,cont,Qll,Qej,Qlv]) rfl rfl rfl (fun x hx=>by
   obtain ⟨i,hi,rfl⟩:=mem_map.mp hx
   obtain ⟨r,hr,hir⟩:=List.mem_flatten.mp hi
   have b:i.natAbs<2^37:=h.bt r hr i hir
   have ab:=Q2d i
   have c:(i.natAbs:Int)<1000000000000:=by omega
   refine ⟨.fz (.bl true),?_,rfl⟩
   simp only [Qa8,Qbj,Ql,Qo,Q3,Qa,Qz,yC1,Qu,yC2,yBi,Qbh,Qaa,cont,Out.opt,ab,Qa6,Qcv,Qbe,Qcl,Qck,Qcj,uo9,Int.reduceLE,p10,Nat.reducePow,p11,and_self,Int.reduceToNat,Int.reducePow,if_true,Qa5,Qa4,Qa3,uc3,c,decide_true]) (by rw [length_map];have:=h.shp.flat h4;omega)
 show Qbg (cfn (k+1)) ⟨1,1,Qgp⟩ _=_
 rw [Qaw rfl]
 show Qbr _ (exS _ Qgp [.fz (Qm M)])=_
 simp only [Qax,Qbj,Ql,hcomp,Qz,yC1,Qu,yC2,yBi,Qbh,Qaa,cont,Out.opt,ub3,Option.map,Qjw,Qnq,Qal,Qby,Qaf,Qau,Qar,Qas,Q2]
theorem Qvl (k:Nat) {n:Nat} {M:Tb} (h:Sb n M) (h1:1≤n) (h4:n≤4):cfn (k+4) 12 [.fz (Qm M)]=.ok (.fz (.bl true)) [.non]:=by
 have e1:=Qla k h.shp h1 h4
 have e2:=Qke (k+1) h h4
 show Qbg (cfn (k+3)) ⟨1,1,Qi6⟩ _=_
 rw [Qaw rfl]
 show Qbr _ (exS _ Qi6 [.fz (Qm M)])=_
 simp only [Qax,Qpx,Q0,Ql,Qo,Q3,Qa,Qz,yC1,Qu,yC2,Qr,Qs,Qy,Qt,Q7,Qx,e1,Qao,Qi,Qv,L2.Qj,Option.map,if_true,Q4,yBl,Quk,e2,yB,Qal,Qby,Qaf,Qau,Qar,Qas,Q2]
theorem Qmg {n:Nat} {Ms:List Tb} (h:Tabs n Ms) {i:Nat} (hi:i<Ms.length):atI (Ms.map Qm) (i:Int)=some (Qm Ms[i])∧Sb n Ms[i] :=
 ⟨Qhw (by rw [getElem?_map,getElem?_eq_getElem hi];rfl),h.sq _ (getElem_mem hi)⟩
noncomputable abbrev Qrm:S:=.ite (.or (.not (.call 2 (.cons (.ix (.var 0) (.var 2)) .nil))) (.cmp .ne (.bi .len (.cons (.ix (.var 0) (.var 2)) .nil)) (.bi .len (.cons (.ix (.var 0) (.int 0)) .nil)))) (.ret (.var 2)) .nil
noncomputable abbrev Qrn:S:=.ite (.and (.var 1) (.not (.call 4 (.cons (.ix (.var 0) (.var 2)) .nil)))) (.ret (.var 2)) .nil
theorem Qtq (k:Nat) {n:Nat} {Ms:List Tb} (h:Tabs n Ms) {b:Bool} {i:Nat} (hi:i<Ms.length):exS (cfn (k+3)) Qrm [.fz (Qbc Ms),.fz (.bl b),.fz (.int i)]=.nx [.fz (Qbc Ms),.fz (.bl b),.fz (.int i)]:=by
 obtain ⟨a1,q1⟩:=Qmg h hi
 obtain ⟨a0,q0⟩:=Qmg h (show 0<Ms.length by omega)
 have a0':atI (Ms.map Qm) 0=some (Qm Ms[0]):=a0
 have g:=Qla k q1.shp h.n1 h.n4
 have l1:=q1.shp.len
 have l0:=q0.shp.len
 simp only [Qbf,Qnk,Qhg,Q0,Ql,Qge,Qo,Q3,Qa,Qz,Qfy,Qc,Qfx,Qfw,cont,Qfv,ui1,a1,yC1,Qu,yC2,Qr,Qs,Qy,Qt,Q7,Qx,g,Qao,Qi,Qv,L2.Qj,Option.map,if_true,Q4,yBl,Qlw,Bool.not_true,yOr,Qa8,Qbj,yBi,Qbh,Qaa,Out.opt,ub2,length_map,l1,Qa6,Qbe,a0',l0,Qa5,Qa4,Qa3,uc2,Qbl,decide_true,yB,Qal,yIf,Qbz]
theorem Qtr (k:Nat) {n:Nat} {Ms:List Tb} (h:Tabs n Ms) {b:Bool} {i:Nat} (hi:i<Ms.length):exS (cfn (k+3)) Qrn [.fz (Qbc Ms),.fz (.bl b),.fz (.int i)]=.nx [.fz (Qbc Ms),.fz (.bl b),.fz (.int i)]:=by
 obtain ⟨a1,q1⟩:=Qmg h hi
 have e:=Qke (k+1) q1 h.n4
 cases b with
 | false=>simp only [Qbf,Qpx,Qo,Q3,Qc,Qa,Q4,Qz,yBl,Quk,Qal,yIf,Qbz]
 | true=>simp only [Qbf,Qpx,Qo,Q3,Qc,Qa,Q4,Qz,yBl,Quk,Qhg,Q0,Ql,Qge,Qfy,Qfx,Qfw,cont,Qfv,ui1,a1,yC1,Qu,yC2,Qr,Qs,Qy,Qt,Q7,Qx,e,Qao,Qi,Qv,L2.Qj,Option.map,if_true,Qlw,Bool.not_true,yB,Qal,yIf,Qbz]
theorem Qvm (k:Nat) {n:Nat} {Ms:List Tb} (h:Tabs n Ms) {b:Bool}:∃ s,Qc0 (.nm 2) (exS (cfn (k+3)) (.seq Qrm Qrn)) (Qag 0 Ms.length) [.fz (Qbc Ms),.fz (.bl b),.un]=.nx [.fz (Qbc Ms),.fz (.bl b),s]:=by
 obtain ⟨ρ',e,s,_,rfl⟩:=Qfu (fun _ ρ=>∃ s,Qcu s=true∧ρ=[.fz (Qbc Ms),.fz (.bl b),s]) (tg:=.nm 2) (b:=exS (cfn (k+3)) (.seq Qrm Qrn)) (xs:=Qag 0 Ms.length) (n:=0) (ρ:=[.fz (Qbc Ms),.fz (.bl b),.un]) ⟨.un,rfl,rfl⟩ (by
  rintro i x ρ hx ⟨s,hs,rfl⟩
  have hi:i<Ms.length:=by have:=(List.getElem?_eq_some_iff.mp hx).1;rwa [Qaq] at this
  rw [Qkq hi] at hx
  cases hx
  rw [Int.zero_add]
  refine ⟨[.fz (Qbc Ms),.fz (.bl b),.fz (.int i)],[.fz (Qbc Ms),.fz (.bl b),.fz (.int i)],(by cases s <;> first | rfl | cases hs),.inl ?_,.fz (.int i),rfl,rfl⟩
  rw [Qad,Qtq k h hi,Qbd,Qtr k h hi])
 exact ⟨s,e⟩
theorem Qog (k:Nat) {n:Nat} {Ms:List Tb} (h:Tabs n Ms) {b:Bool}:cfn (k+4) 5 [.fz (Qbc Ms),.fz (.bl b)]=.ok (.fz .non) [.non,.non]:=by
 have h1:=h.m1
 have h4:=h.m4
 obtain ⟨s,e⟩:=Qvm k h (b:=b)
 show Qbg (cfn (k+3)) ⟨2,3,Qi1⟩ _=_
 rw [Qaw rfl]
 show Qbr _ (exS _ Qi1 [.fz (Qbc Ms),.fz (.bl b),.un])=_
 have c1:¬ ((Ms.length:Int)<1):=by omega
 have c2:¬ (4<(Ms.length:Int)):=by omega
 have c3:Ms.length≤100000:=by omega
 simp only [Qad,Qbf,Qnk,Qhg,Qwn,Qo,Q3,Qa,Qz,Q1b,Qsp,cont,Q47,Qin,Bool.not_false,Bool.and_true,Qsu,if_true,Q4,yBl,Qlw,Bool.not_true,yOr,Qa8,Qbj,Ql,yC1,Qu,yC2,yBi,Qbh,Qaa,Out.opt,ub1,length_map,Qa6,Qbe,Qa5,Qa4,Qa3,uc3,c1,decide_false,uc5,c2,yB,Qal,yIf,Qbz,Qbd,Qfz,Qdc,Qiz c3,Qjv,e,Qdg,Qax,Qlk,Qby,Qaf,Qau,Qar,Qas,Q2,Option.map]
theorem Qo3 (k:Nat) {n:Nat} {Ms:List Tb} (h:Tabs n Ms):cfn (k+5) 10 [.fz (Qbc Ms)]=.ok (.fz .non) [.non]:=by
 have e:=Qog k h (b:=false)
 show Qbg (cfn (k+4)) ⟨1,2,Qfn⟩ _=_
 rw [Qaw rfl]
 show Qbr _ (exS _ Qfn [.fz (Qbc Ms),.un])=_
 simp only [Qad,Qa0,Q0,Ql,Qo,Q3,Qa,Qz,yC1,x_bl,Qu,yC2,Qr,Qs,Qy,Qt,Q7,Qx,e,Qao,Qi,Qv,L2.Qj,Option.map,if_true,Qal,Qb0,Qba,frz,Qah,Qbk,length_cons,length_nil,Nat.reduceAdd,Nat.reduceLT,Qc,List.set,Qbd,Qbf,Qa8,Qa6,Qlk,Qa5,Qa4,cont,Qa3,uc8,Qew,Bool.not_true,Q4,yBl,yIf,Qbz,Quq,Qas,Q2]
theorem Qoh (k:Nat) {n:Nat} {Ms:List Tb} (h:Tabs n Ms):cfn (k+5) 13 [.fz (Qbc Ms)]=.ok (.fz .non) [.non]:=by
 have e:=Qog k h (b:=true)
 show Qbg (cfn (k+4)) ⟨1,1,Qe0⟩ _=_
 rw [Qaw rfl]
 show Qbr _ (exS _ Qe0 [.fz (Qbc Ms)])=_
 simp only [Qax,Q0,Ql,Qo,Q3,Qa,Qz,yC1,x_bl,Qu,yC2,Qr,Qs,Qy,Qt,Q7,Qx,e,Qao,Qi,Qv,L2.Qj,Option.map,if_true,Qal,Qby,Qaf,Qau,Qar,Qas,Q2]
noncomputable def InR (n:Nat) (ps:List Int):Prop:=∀ p∈ps,0≤p∧p<(n:Int)
theorem Qvn (k:Nat) {i:Int} {n:Nat} (h0:0≤i) (h1:i<(n:Int)):cfn (k+2) 6 [.fz (.int i),.fz (.int n)]=.ok (.fz (.bl true)) [.non,.non]:=by
 have e:cfn (k+1) 0 [.fz (.int i)]=.ok (.fz (.bl true)) [.non]:=rfl
 show Qbg (cfn (k+1)) ⟨2,2,Qi2⟩ _=_
 rw [Qaw rfl]
 show Qbr _ (exS _ Qi2 [.fz (.int i),.fz (.int n)])=_
 simp only [Qax,Qpx,Q0,Ql,Qo,Q3,Qa,Qz,yC1,Qu,yC2,Qr,Qs,Qy,Qt,Q7,Qx,e,Qao,Qi,Qv,L2.Qj,Option.map,if_true,Q4,yBl,Quk,Qa8,Qa6,Qbe,Qa5,Qa4,cont,Qa3,uc6,h0,decide_true,Qc,uc3,h1,yB,Qal,Qby,Qaf,Qau,Qar,Qas,Q2]
theorem Qro (k:Nat) {n:Nat} {ps:List Int} (h:InR n ps) (hz:ps.length≤1000):cfn (k+3) 7 [.fz (Qf ps),.fz (.int n)]=.ok (.fz (.bl true)) [.non,.non]:=by
 have hcomp:evE (cfn (k+2)) (.comp (.seq (.var 0)) [none,some 1] (.nm 0) .nil (.call 6 (.cons (.var 0) (.cons (.var 1) .nil)))) [.fz (Qf ps),.fz (.int n)]=.ok (.ow (.lst ((ps.map T.int).map fun _=>T.bl true))) [.fz (Qf ps),.fz (.int n)] :=
  Qa2 (rest:=[.fz (.int n)]) rfl rfl rfl rfl (fun x hx=>by
   obtain ⟨p,hp,rfl⟩:=mem_map.mp hx
   have q:=Qvn k (h p hp).1 (h p hp).2
   refine ⟨.fz (.bl true),?_,rfl⟩
   simp only [Q0,Ql,Qo,Q3,Qa,Qz,yC1,Qc,Qu,yC2,Qr,Qs,Qy,Qt,Q7,Qx,q,Qao,Qi,Qv,L2.Qj,Option.map,if_true]) (by rw [length_map];omega)
 show Qbg (cfn (k+2)) ⟨2,2,Qgr⟩ _=_
 rw [Qaw rfl]
 show Qbr _ (exS _ Qgr [.fz (Qf ps),.fz (.int n)])=_
 simp only [Qax,Qpx,Qwn,Qo,Q3,Qa,Qz,Q1b,Qsp,cont,Qnp,Qin,Bool.not_false,Bool.and_true,Qgf,if_true,Q4,yBl,Quk,Qbj,Ql,hcomp,yC1,Qu,yC2,yBi,Qbh,Qaa,Out.opt,ub3,Option.map,Qjw,Qnq,yB,Qal,Qby,Qaf,Qau,Qar,Qas,Q2]
theorem Q2k (k:Nat) {n:Nat} {ps:List Int} (h:InR n ps) (h1:1≤ps.length) (h2:ps.length≤200):cfn (k+4) 8 [.fz (Qf ps),.fz (.int n)]=.ok (.fz (.bl true)) [.non,.non]:=by
 have e:=Qro k h (by omega)
 have c1:(1:Int)≤(ps.length:Int):=by omega
 have c2:(ps.length:Int)≤200:=by omega
 show Qbg (cfn (k+3)) ⟨2,2,Qn0⟩ _=_
 rw [Qaw rfl]
 show Qbr _ (exS _ Qn0 [.fz (Qf ps),.fz (.int n)])=_
 simp only [Qax,Qpx,Q0,Ql,Qo,Q3,Qa,Qz,yC1,Qc,Qu,yC2,Qr,Qs,Qy,Qt,Q7,Qx,e,Qao,Qi,Qv,L2.Qj,Option.map,if_true,Q4,yBl,Quk,Qa8,Qbj,yBi,Qbh,Qaa,cont,Out.opt,ub2,length_map,Qa6,Qbe,Qa5,Qa4,Qa3,uc6,c1,decide_true,uc4,c2,yB,Qal,Qby,Qaf,Qau,Qar,Qas,Q2]
theorem Qvo (k:Nat) {n:Nat} {ps:List Int} (h:InR n ps) (h1:1≤ps.length) (h2:ps.length≤200):cfn (k+5) 11 [.fz (Qf ps),.fz (.int n)]=.ok (.fz .non) [.non,.non]:=by
 have e1:=Q2k k h h1 h2
 show Qbg (cfn (k+4)) ⟨2,2,Qi4⟩ _=_
 rw [Qaw rfl]
 show Qbr _ (exS _ Qi4 [.fz (Qf ps),.fz (.int n)])=_
 simp only [Qbf,Qhg,Q0,Ql,Qo,Q3,Qa,Qz,yC1,Qc,Qu,yC2,Qr,Qs,Qy,Qt,Q7,Qx,e1,Qao,Qi,Qv,L2.Qj,Option.map,if_true,Q4,yBl,Qlw,Bool.not_true,Qal,yIf,Qbz,Quq,Qas,Q2]
theorem Qxf (M:Tb) (j:Nat):(col M j).length=M.length:=by unfold col;rw [length_map]
theorem Qts (k:Nat) {n:Nat} {M:Tb} (h:Shp n M) (h4:n≤4) {j:Nat} (hj:j<n):cfn (k+1) 14 [.fz (Qm M),.fz (.int j)]=.ok (.fz (Qf (col M j))) [.non,.non]:=by
 have hl:=h.len
 have hcomp:evE (cfn k) (.comp (.seq (.var 0)) [none,some 1] (.nm 0) .nil (.ix (.var 0) (.var 1))) [.fz (Qm M),.fz (.int j)]=.ok (.ow (.lst ((M.map Qf).map fun x=>T.int (ge (iOf x) j)))) [.fz (Qm M),.fz (.int j)] :=
  Qa2 (rest:=[.fz (.int j)]) rfl rfl rfl rfl (fun x hx=>by
   obtain ⟨l,hm,rfl⟩:=mem_map.mp hx
   have a:=Qe3 (r:=l) (j:=j) (by rw [h.row l hm];exact hj)
   refine ⟨.fz (.int (ge l j)),?_,by rw [Qd9];rfl⟩
   simp only [Qge,Qo,Q3,Qa,Qz,Qfy,Qc,Qfx,Qfw,cont,Qfv,ui2,a]) (by rw [length_map];omega)
 have em:((M.map Qf).map fun x=>T.int (ge (iOf x) j))=(col M j).map T.int:=by
  unfold col
  rw [map_map,map_map]
  apply map_congr_left
  intro l _
  show T.int (ge (iOf (Qf l)) j)=T.int (ge l j)
  rw [Qd9]
 rw [em] at hcomp
 show Qbg (cfn k) ⟨2,2,Qhk⟩ _=_
 rw [Qaw rfl]
 show Qbr _ (exS _ Qhk [.fz (Qm M),.fz (.int j)])=_
 simp only [Qax,Qbj,Ql,hcomp,Qz,yC1,Qu,yC2,yBi,Qbh,Qaa,cont,Out.opt,ub9,Qal,Qby,Qaf,Qau,Qar,Qas,Q2,Option.map]
theorem Qgy (k:Nat) {n:Nat} {M:Tb} (h:Shp n M) (h4:n≤4):cfn (k+2) 15 [.fz (Qm M)]=.ok (.fz (Qm ((List.range M.length).map (col M)))) [.non]:=by
 have hl:=h.len
 have hw:evW (cfn (k+1)) (.rng1 (.bi .len (.cons (.var 0) .nil))) [.fz (Qm M)]=.ok (Qag 0 M.length,none) [.fz (Qm M)]:=by
  have c:M.length≤100000:=by omega
  simp only [Qdc,Qbj,Ql,Qo,Q3,Qa,Qz,yC1,Qu,yC2,yBi,Qbh,Qaa,cont,Out.opt,ub2,length_map,Qiz c]
 have hcomp:evE (cfn (k+1)) (.comp (.rng1 (.bi .len (.cons (.var 0) .nil))) [none,some 0] (.nm 0) .nil (.call 14 (.cons (.var 1) (.cons (.var 0) .nil)))) [.fz (Qm M)]=.ok (.ow (.lst ((Qag 0 M.length).map fun x=>Qf (col M (jOf x))))) [.fz (Qm M)] :=
  Qa2 (rest:=[.fz (Qm M)]) hw rfl rfl rfl (fun x hx=>by
   unfold Qag at hx
   obtain ⟨j,hj,rfl⟩:=mem_map.mp hx
   have hj:=mem_range.mp hj
   have e:=Qts k h h4 (j:=j) (by omega)
   refine ⟨.fz (Qf (col M j)),?_,by rw [Qei];rfl⟩
   simp only [Int.zero_add,Q0,Ql,Qo,Q3,Qc,Qa,Qz,yC1,Qu,yC2,Qr,Qs,Qy,Qt,Q7,Qx,e,Qao,Qi,Qv,L2.Qj,Option.map,if_true]) (by rw [Qaq];omega)
 rw [Qjb (f:=fun j=>Qf (col M j))] at hcomp
 show Qbg (cfn (k+1)) ⟨1,1,Qgu⟩ _=_
 rw [Qaw rfl]
 show Qbr _ (exS _ Qgu [.fz (Qm M)])=_
 simp only [Qax,Qbj,Ql,hcomp,Qz,yC1,Qu,yC2,yBi,Qbh,Qaa,cont,Out.opt,ub9,Qal,Qby,Qaf,Qau,Qar,Qas,Q2,Option.map]
 unfold Qm
 rw [map_map]
 rfl
noncomputable def MO (r c:List Int):Prop:=∀ k,Qbu (ge r k) (ge c k)=true
theorem Q2l {r c:List Int} (h:∀ x∈c,(x:Int).natAbs<2^37):MO r c:=fun k=>by
 have:=Qht h k
 unfold Qbu
 rw [decide_eq_true (show (ge c k).natAbs<2^64 by omega)]
 simp
theorem Q2m {a b:Nat} {r c:List Int} (hr:∀ x∈r,(x:Int).natAbs<2^a) (hc:∀ x∈c,(x:Int).natAbs<2^b) (ha:a≤8999) (hb:b≤8999):MO r c:=fun k=>Qic (Qht hr k) (Qht hc k) ha hb
theorem Bt.col {b:Nat} {M:Tb} (h:Bt b M) (j:Nat):∀ x∈col M j,(x:Int).natAbs<2^b:=fun x hx=>by
 unfold My.col at hx
 obtain ⟨l,hl,rfl⟩:=mem_map.mp hx
 exact Qht (h l hl) j
theorem Qjc (k:Nat) {r c:List Int} (hrc:r.length=c.length) (hz:r.length≤1000) (hc:MO r c):cfn (k+1) 16 [.fz (Qf r),.fz (Qf c)]=.ok (.fz (.int (Qbb r c))) [.non,.non]:=by
 have hw:evW (cfn k) (.rng1 (.bi .len (.cons (.var 0) .nil))) [.fz (Qf r),.fz (Qf c)]=.ok (Qag 0 r.length,none) [.fz (Qf r),.fz (Qf c)]:=by
  have c:r.length≤100000:=by omega
  simp only [Qdc,Qbj,Ql,Qo,Q3,Qa,Qz,yC1,Qu,yC2,yBi,Qbh,Qaa,cont,Out.opt,ub2,length_map,Qiz c]
 have hcomp:evE (cfn k) (.comp (.rng1 (.bi .len (.cons (.var 0) .nil))) [none,some 0,some 1] (.nm 0) .nil (.bin .mul (.ix (.var 1) (.var 0)) (.ix (.var 2) (.var 0)))) [.fz (Qf r),.fz (Qf c)]=.ok (.ow (.lst ((Qag 0 r.length).map fun x=>T.int (ge r (jOf x)*ge c (jOf x))))) [.fz (Qf r),.fz (Qf c)] :=
  Qa2 (rest:=[.fz (Qf r),.fz (Qf c)]) hw rfl rfl rfl (fun x hx=>by
   unfold Qag at hx
   obtain ⟨j,hj,rfl⟩:=mem_map.mp hx
   have hj:=mem_range.mp hj
   have a1:=Qe3 (r:=r) (j:=j) hj
   have a2:=Qe3 (r:=c) (j:=j) (by omega)
   have mo:Qbu (ge r j) (ge c j)=true:=hc j
   refine ⟨.fz (.int (ge r j*ge c j)),?_,by rw [Qei];rfl⟩
   simp only [Int.zero_add,Qcv,Qge,Qo,Q3,Qc,Qa,Qz,Qfy,Qfx,Qfw,cont,Qfv,ui2,a1,Qcl,a2,Qck,Qcj,Out.opt,uo5,mo,if_true]) (by rw [Qaq];omega)
 rw [Qjb (f:=fun j=>T.int (ge r j*ge c j))] at hcomp
 have em:((List.range r.length).map fun j=>T.int (ge r j*ge c j))=((List.range r.length).map fun j=>ge r j*ge c j).map T.int:=by rw [map_map];rfl
 rw [em] at hcomp
 show Qbg (cfn k) ⟨2,2,Qbo⟩ _=_
 rw [Qaw rfl]
 show Qbr _ (exS _ Qbo [.fz (Qf r),.fz (Qf c)])=_
 simp only [Qax,Qbj,Ql,hcomp,Qz,yC1,Qu,yC2,yBi,Qbh,Qaa,cont,Out.opt,ub5,Option.map,intL_mp,Qal,Qby,Qaf,Qau,Qar,Qas,Q2]
 rfl
theorem Qil (k:Nat) {r:List Int} {Cs:Tb} (hC:∀ c∈Cs,r.length=c.length∧MO r c) (hr:r.length≤1000) (hz:Cs.length≤1000):cfn (k+2) 17 [.fz (Qf r),.fz (Qm Cs)]=.ok (.fz (Qf (Cs.map (Qbb r)))) [.non,.non]:=by
 have hcomp:evE (cfn (k+1)) (.comp (.seq (.var 1)) [none,some 0] (.nm 0) .nil (.call 16 (.cons (.var 1) (.cons (.var 0) .nil)))) [.fz (Qf r),.fz (Qm Cs)]=.ok (.ow (.lst ((Cs.map Qf).map fun x=>T.int (Qbb r (iOf x))))) [.fz (Qf r),.fz (Qm Cs)] :=
  Qa2 (rest:=[.fz (Qf r)]) rfl rfl rfl rfl (fun x hx=>by
   obtain ⟨c,hm,rfl⟩:=mem_map.mp hx
   obtain ⟨h1,h2⟩:=hC c hm
   have e:=Qjc k h1 hr h2
   refine ⟨.fz (.int (Qbb r c)),?_,by rw [Qd9];rfl⟩
   simp only [Q0,Ql,Qo,Q3,Qc,Qa,Qz,yC1,Qu,yC2,Qr,Qs,Qy,Qt,Q7,Qx,e,Qao,Qi,Qv,L2.Qj,Option.map,if_true]) (by rw [length_map];omega)
 have em:((Cs.map Qf).map fun x=>T.int (Qbb r (iOf x)))=(Cs.map (Qbb r)).map T.int:=by
  rw [map_map,map_map]
  apply map_congr_left
  intro l _
  show T.int (Qbb r (iOf (Qf l)))=T.int (Qbb r l)
  rw [Qd9]
 rw [em] at hcomp
 show Qbg (cfn (k+1)) ⟨2,2,Qdd⟩ _=_
 rw [Qaw rfl]
 show Qbr _ (exS _ Qdd [.fz (Qf r),.fz (Qm Cs)])=_
 simp only [Qax,Qbj,Ql,hcomp,Qz,yC1,Qu,yC2,yBi,Qbh,Qaa,cont,Out.opt,ub9,Qal,Qby,Qaf,Qau,Qar,Qas,Q2,Option.map]
theorem Qxg (k:Nat) {n:Nat} {A M:Tb} (hA:Shp n A) (h:Shp n M) (h4:n≤4) (mo:∀ r∈A,∀ j,MO r (col M j)):cfn (k+3) 18 [.fz (Qm A),.fz (Qm M)]=.ok (.fz (Qm (tms A M))) [.non,.non]:=by
 have hl:=h.len
 have la:=hA.len
 have e1:=Qgy k h h4
 have hcomp:evE (cfn (k+2)) (.comp (.seq (.var 0)) [none,some 2] (.nm 0) .nil (.call 17 (.cons (.var 0) (.cons (.var 1) .nil)))) [.fz (Qm A),.fz (Qm M),.fz (Qm ((List.range M.length).map (col M)))]=.ok (.ow (.lst ((A.map Qf).map fun x=>Qf (rb M (iOf x))))) [.fz (Qm A),.fz (Qm M),.fz (Qm ((List.range M.length).map (col M)))] :=
  Qa2 (rest:=[.fz (Qm ((List.range M.length).map (col M)))]) rfl rfl rfl rfl (fun x hx=>by
   obtain ⟨r,hm,rfl⟩:=mem_map.mp hx
   have hr:=hA.row r hm
   have e2:=Qil k (r:=r) (Cs:=(List.range M.length).map (col M)) (fun c hc=>by
    obtain ⟨j,_,rfl⟩:=mem_map.mp hc
    exact ⟨by rw [Qxf,hl,hr],mo r hm _⟩) (by omega) (by rw [length_map,length_range];omega)
   have em:((List.range M.length).map (col M)).map (Qbb r)=rb M r:=by unfold rb;rw [map_map];rfl
   rw [em] at e2
   refine ⟨.fz (Qf (rb M r)),?_,by rw [Qd9];rfl⟩
   simp only [Q0,Ql,Qo,Q3,Qa,Qz,yC1,Qc,Qu,yC2,Qr,Qs,Qy,Qt,Q7,Qx,e2,Qao,Qi,Qv,L2.Qj,Option.map,if_true]) (by rw [length_map];omega)
 have em:((A.map Qf).map fun x=>Qf (rb M (iOf x)))=(tms A M).map Qf:=by
  unfold tms
  rw [map_map,map_map]
  apply map_congr_left
  intro l _
  show Qf (rb M (iOf (Qf l)))=Qf (rb M l)
  rw [Qd9]
 rw [em] at hcomp
 show Qbg (cfn (k+2)) ⟨2,3,Qq0⟩ _=_
 rw [Qaw rfl]
 show Qbr _ (exS _ Qq0 [.fz (Qm A),.fz (Qm M),.un])=_
 simp only [Qad,Qa0,Q0,Ql,Qo,Q3,Qc,Qa,Qz,yC1,Qu,yC2,Qr,Qs,Qy,Qt,Q7,Qx,e1,Qao,Qi,Qv,L2.Qj,Option.map,if_true,Qal,Qb0,Qba,frz,Qah,Qbk,length_cons,length_nil,Nat.reduceAdd,Nat.reduceLT,List.set,Qbd,Qax,Qbj,hcomp,yBi,Qbh,Qaa,cont,Out.opt,ub9,Qby,Qaf,Qau,Qar,Qas,Q2]
theorem Qd4 (k:Nat) {n:Nat} {A M:Tb} (hA:Shp n A) (h:Shp n M) (h1:1≤n) (h4:n≤4) (mo:∀ r∈A,∀ j,MO r (col M j)):cfn (k+5) 19 [.fz (Qm A),.fz (Qm M)]=.ok (.fz (Qm (tms A M))) [.non,.non]:=by
 have e1:=Qce k hA h1 h4
 have e2:=Qce k h h1 h4
 have e3:=Qxg (k+1) hA h h4 mo
 have l1:=hA.len
 have l2:=h.len
 show Qbg (cfn (k+4)) ⟨2,2,Qku⟩ _=_
 rw [Qaw rfl]
 show Qbr _ (exS _ Qku [.fz (Qm A),.fz (Qm M)])=_
 simp only [Qad,Qiy,Q0,Ql,Qo,Q3,Qa,Qz,yC1,Qu,yC2,Qr,Qs,Qy,Qt,Q7,Qx,e1,Qao,Qi,Qv,L2.Qj,Option.map,if_true,Qal,Qln,Qbd,Qc,e2,Qbf,Qa8,Qbj,yBi,Qbh,Qaa,cont,Out.opt,ub2,length_map,l1,Qa6,l2,Qa5,Qa4,Qa3,uc2,Qbl,decide_true,Bool.not_true,Q4,yBl,yIf,Qbz,Qax,e3,Qby,Qaf,Qau,Qar,Qas,Q2]
theorem Qhv (k:Nat) {n:Nat} {M:Tb} (h:Shp n M) (h1:1≤n) (h4:n≤4):cfn (k+5) 22 [.fz (Qm M)]=.ok (.fz (Qm (tr M))) [.non]:=by
 have e1:=Qce k h h1 h4
 have e2:=Qgy (k+2) h h4
 show Qbg (cfn (k+4)) ⟨1,1,Qn2⟩ _=_
 rw [Qaw rfl]
 show Qbr _ (exS _ Qn2 [.fz (Qm M)])=_
 simp only [Qad,Qiy,Q0,Ql,Qo,Q3,Qa,Qz,yC1,Qu,yC2,Qr,Qs,Qy,Qt,Q7,Qx,e1,Qao,Qi,Qv,L2.Qj,Option.map,if_true,Qal,Qln,Qbd,Qax,e2,Qby,Qaf,Qau,Qar,Qas,Q2]
 rfl
theorem Qtt:∀ xs:List Int,Qhb (xs.map T.int)=some (xs.map fun x=>decide (x≠0))
 | []=>rfl
 | x::xs=>by
  rw [map_cons,Qhb,Qtt xs]
  rfl
theorem Qtu (k:Nat) {n:Nat} {M:Tb} (h:Shp n M) (h1:1≤n) (h4:n≤4):cfn (k+5) 21 [.fz (Qm M)]=.ok (.fz (.bl (decide (∀ r∈M,∀ x∈r,(x:Int)=0)))) [.non]:=by
 have e1:=Qce k h h1 h4
 have e2:=Qkd (k+3) M (h.flat h4)
 have ea:=Qtt M.flatten
 have eb:(!(M.flatten.map fun x=>decide (x≠0)).any id)=decide (∀ r∈M,∀ x∈r,(x:Int)=0):=by
  rw [Bool.eq_iff_iff,decide_eq_true_iff,Bool.not_eq_true',List.any_eq_false]
  constructor
  ·intro z r hr x hx
   have:=z (decide (x≠0)) (mem_map.mpr ⟨x,List.mem_flatten.mpr ⟨r,hr,hx⟩,rfl⟩)
   simpa using this
  ·intro z y hy
   obtain ⟨x,hx,rfl⟩:=mem_map.mp hy
   obtain ⟨r,hr,hxr⟩:=List.mem_flatten.mp hx
   simp [z r hr x hxr]
 show Qbg (cfn (k+4)) ⟨1,1,Qhm⟩ _=_
 rw [Qaw rfl]
 show Qbr _ (exS _ Qhm [.fz (Qm M)])=_
 simp only [Qad,Qiy,Q0,Ql,Qo,Q3,Qa,Qz,yC1,Qu,yC2,Qr,Qs,Qy,Qt,Q7,Qx,e1,Qao,Qi,Qv,L2.Qj,Option.map,if_true,Qal,Qln,Qbd,Qax,Qhg,Qbj,e2,yBi,Qbh,Qaa,cont,Out.opt,ub4,ea,Q4,yBl,Qlw,Qby,Qaf,Qau,Qar,Qas,Q2]
 rw [←eb]
theorem Qls {n:Nat} {Ms:List Tb} (h:Tabs n Ms) {w:Int} (h0:0≤w) (h1:w<(Ms.length:Int)):atI (Ms.map Qm) w=some (Qm (Ms.getD w.toNat []))∧Sb n (Ms.getD w.toNat []):=by
 obtain ⟨i,rfl⟩:=Int.eq_ofNat_of_zero_le h0
 have hi:i<Ms.length:=by omega
 obtain ⟨a,q⟩:=Qmg h hi
 have e:Ms.getD (i:Int).toNat []=Ms[i]:=by rw [Int.toNat_natCast,getD_eq_getElem?_getD,getElem?_eq_getElem hi,Option.getD_some]
 rw [e]
 exact ⟨a,q⟩
noncomputable def go (Ms:List Tb) (A:Tb) (w:Int):Tb:=tms A (Ms.getD w.toNat [])
theorem Q7m {n:Nat} {Ms:List Tb} (h:Tabs n Ms) {w:Int} (h0:0≤w) (h1:w<(Ms.length:Int)) {A:Tb} (hA:Shp n A):Shp n (go Ms A w):=by
 obtain ⟨_,q⟩:=Qls h h0 h1
 exact Qda hA q.shp
theorem Qoi (k:Nat) {n:Nat} {Ms:List Tb} (h:Tabs n Ms) {b:Slot}:∀ (ws:List Int) (A:Tb) (x:Slot),Qcu x=true→InR Ms.length ws→Shp n A →
  ∃ x',Qc0 (.nm 3) (exS (cfn (k+3)) (.setF 2 (.call 18 (.cons (.var 2) (.cons (.ix (.var 0) (.var 3)) .nil))))) (ws.map T.int) [.fz (Qbc Ms),b,.fz (Qm A),x]=.nx [.fz (Qbc Ms),b,.fz (Qm (ws.foldl (go Ms) A)),x']∧Qcu x'=true
 | [],A,x,hx,_,_=>⟨x,rfl,hx⟩
 | w::ws,A,x,hx,hw,hs=>by
  obtain ⟨h0,h1⟩:=hw w mem_cons_self
  obtain ⟨a1,q1⟩:=Qls h h0 h1
  have e:=Qxg k hs q1.shp h.n4 fun r _ j=>Q2l (q1.bt.col j)
  obtain ⟨x',e2,o⟩:=Qoi k h (b:=b) ws (go Ms A w) (.fz (.int w)) rfl (fun p hp=>hw p (mem_cons_of_mem _ hp)) (Q7m h h0 h1 hs)
  refine ⟨x',?_,o⟩
  have e0:Qeb (.nm 3) (.int w) [.fz (Qbc Ms),b,.fz (Qm A),x]=some [.fz (Qbc Ms),b,.fz (Qm A),.fz (.int w)]:=by
   cases x <;> first | rfl | cases hx
  rw [map_cons,foldl_cons]
  unfold Qc0
  rw [e0]
  simp only [Qa0,Q0,Ql,Qo,Q3,Qc,Qa,Qz,yC1,Qge,Qfy,Qfx,Qfw,cont,Qfv,ui1,a1,Qu,yC2,Qr,Qs,Qy,Qt,Q7,Qx,e,Qao,Qi,Qv,L2.Qj,Option.map,if_true,Qal,Qb0,Qba,frz,Qah,Qbk,length_cons,length_nil,Nat.reduceAdd,Nat.reduceLT,List.set]
  exact e2
noncomputable def wlk (Ms:List Tb):List Int→Tb
 | []=>[]
 | w::ws=>ws.foldl (go Ms) (Ms.getD w.toNat [])
theorem Qoj {n:Nat} {Ms:List Tb} (h:Tabs n Ms):∀ (ws:List Int) (A:Tb),InR Ms.length ws→Shp n A→Shp n (ws.foldl (go Ms) A)
 | [],A,_,hs=>hs
 | w::ws,A,hw,hs=>Qoj h ws _ (fun p hp=>hw p (mem_cons_of_mem _ hp)) (Q7m h (hw w mem_cons_self).1 (hw w mem_cons_self).2 hs)
theorem Qmh (k:Nat) {n:Nat} {Ms:List Tb} (h:Tabs n Ms) {w:Int} {ws:List Int} (hw:InR Ms.length (w::ws)) (hz:(w::ws).length≤200):cfn (k+6) 20 [.fz (Qbc Ms),.fz (Qf (w::ws))]=.ok (.fz (Qm (wlk Ms (w::ws)))) [.non,.non]:=by
 obtain ⟨h0,h1⟩:=hw w mem_cons_self
 obtain ⟨a1,q1⟩:=Qls h h0 h1
 have e1:=Qo3 k h
 have e2:=Qvo k hw (by simp) hz
 obtain ⟨x',e4,_⟩:=Qoi (k+2) h (b:=.fz (Qf (w::ws))) ws (Ms.getD w.toNat []) .un rfl (fun p hp=>hw p (mem_cons_of_mem _ hp)) q1.shp
 have c:=cut1 (.int w) (ws.map T.int)
 show Qbg (cfn (k+5)) ⟨2,4,Qq1⟩ _=_
 rw [Qaw rfl]
 show Qbr _ (exS _ Qq1 [.fz (Qbc Ms),.fz (Qf (w::ws)),.un,.un])=_
 rw [show Qf (w::ws)=.tup (.int w::ws.map T.int) from rfl] at e2 e4 ⊢
 simp only [Qad,Qiy,Q0,Ql,Qo,Q3,Qa,Qz,yC1,Qu,yC2,Qr,Qs,Qy,Qt,Q7,Qx,e1,Qao,Qi,Qv,L2.Qj,Option.map,if_true,Qal,Qln,Qbd,Qc,Qbj,yBi,Qbh,Qaa,cont,Out.opt,ub1,length_map,e2,Qa0,Qge,Qfy,Qbe,Qfx,Qfw,Qfv,ui2,Q5a,ui1,a1,Qb0,Qba,frz,Qah,Qbk,length_cons,length_nil,Nat.reduceAdd,Nat.reduceLT,List.set,Qfz,Qnn,Qpy,Quo,Qun,Qnm,Qjl,Qum,Qnl,Qul,ui4,c,Qsq,Qlm,Qll,Qej,Qlv,Qjv,e4,Qdg,Qax,Qby,Qaf,Qau,Qar,Qas,Q2]
 rfl
theorem Qrp (M:Tb):eqO (Qm M) (Qm M)=some true:=by
 have ok:Qq 50 (Qm M)=true:=by
  show (M.map Qf).all (Qq 49)=true
  rw [all_eq_true]
  intro t ht
  obtain ⟨r,_,rfl⟩:=mem_map.mp ht
  show (r.map T.int).all (Qq 48)=true
  rw [all_eq_true]
  intro u hu
  obtain ⟨i,_,rfl⟩:=mem_map.mp hu
  rfl
 show (if _ then _ else _)=_
 rw [if_pos ⟨ok,ok⟩,Qjj 50 _ ok]
open PySem L2
theorem Qabm {m i:Nat} (h:i<m):ixN m (i:Int)=some i:=by
 unfold ixN
 rw [if_pos (by omega)]
 simp [h]
theorem Qabn (k:Nat) {n at_:Nat} (hn:n≤4):cfn (k+1) 26 [.fz (.int n),.fz (.int at_)]=.ok (.fz (Qf (unl n at_))) [.non,.non]:=by
 have c:n≤100000:=by omega
 have hw:evW (cfn k) (.rng1 (.var 0)) [.fz (.int n),.fz (.int at_)]=.ok (Qag 0 n,none) [.fz (.int n),.fz (.int at_)]:=by
  simp only [Qdc,Qo,Q3,Qa,Qz,Qiz c]
 have hcomp:evE (cfn k) (.comp (.rng1 (.var 0)) [none,some 1] (.nm 0) .nil (.bi .int (.cons (.cmp .eq (.var 0) (.var 1)) .nil))) [.fz (.int n),.fz (.int at_)]=.ok (.ow (.lst ((Qag 0 n).map fun x=>T.int (if jOf x=at_ then 1 else 0)))) [.fz (.int n),.fz (.int at_)] :=
  Qa2 (rest:=[.fz (.int at_)]) hw rfl rfl rfl (fun x hx=>by
   unfold Qag at hx
   obtain ⟨j,hj,rfl⟩:=mem_map.mp hx
   refine ⟨.fz (.int (if j=at_ then 1 else 0)),?_,by rw [Qei];rfl⟩
   by_cases z:j=at_
   ·subst z
    simp only [Int.zero_add,Qbj,Ql,Qa8,Qo,Q3,Qa,Qz,Qa6,Qc,Qa5,Qa4,cont,Qa3,uc1,Qbl,decide_true,yC1,Qu,yC2,yBi,Qbh,Qaa,Out.opt,ub8,if_true]
   ·have z2:¬ ((j:Int)=(at_:Int)):=by omega
    simp only [Int.zero_add,Qbj,Ql,Qa8,Qo,Q3,Qa,Qz,Qa6,Qc,Qa5,Qa4,cont,Qa3,uc1,Qbl,z2,decide_false,yC1,Qu,yC2,yBi,Qbh,Qaa,Out.opt,ub8,Bool.false_eq_true,if_false,z]) (by rw [Qaq];omega)
 rw [Qjb (f:=fun j=>T.int (if j=at_ then 1 else 0))] at hcomp
 have em:((List.range n).map fun j=>T.int (if j=at_ then 1 else 0))=(unl n at_).map T.int:=by unfold unl;rw [map_map];rfl
 rw [em] at hcomp
 show Qbg (cfn k) ⟨2,2,Qho⟩ _=_
 rw [Qaw rfl]
 show Qbr _ (exS _ Qho [.fz (.int n),.fz (.int at_)])=_
 simp only [Qax,Qbj,Ql,hcomp,Qz,yC1,Qu,yC2,yBi,Qbh,Qaa,cont,Out.opt,ub9,Qal,Qby,Qaf,Qau,Qar,Qas,Q2,Option.map]
theorem Q5y (k:Nat) {r c:List Int} (hrc:r.length=c.length) (hz:r.length≤1000) (hc:MO r c):cfn (k+1) 16 [.fz (Qf r),.fz (.lst (c.map T.int))]=.ok (.fz (.int (Qbb r c))) [.non,.non]:=by
 have hw:evW (cfn k) (.rng1 (.bi .len (.cons (.var 0) .nil))) [.fz (Qf r),.fz (.lst (c.map T.int))]=.ok (Qag 0 r.length,none) [.fz (Qf r),.fz (.lst (c.map T.int))]:=by
  have c:r.length≤100000:=by omega
  simp only [Qdc,Qbj,Ql,Qo,Q3,Qa,Qz,yC1,Qu,yC2,yBi,Qbh,Qaa,cont,Out.opt,ub2,length_map,Qiz c]
 have hcomp:evE (cfn k) (.comp (.rng1 (.bi .len (.cons (.var 0) .nil))) [none,some 0,some 1] (.nm 0) .nil (.bin .mul (.ix (.var 1) (.var 0)) (.ix (.var 2) (.var 0)))) [.fz (Qf r),.fz (.lst (c.map T.int))]=.ok (.ow (.lst ((Qag 0 r.length).map fun x=>T.int (ge r (jOf x)*ge c (jOf x))))) [.fz (Qf r),.fz (.lst (c.map T.int))] :=
  Qa2 (rest:=[.fz (Qf r),.fz (.lst (c.map T.int))]) hw rfl rfl rfl (fun x hx=>by
   unfold Qag at hx
   obtain ⟨j,hj,rfl⟩:=mem_map.mp hx
   have hj:=mem_range.mp hj
   have a1:=Qe3 (r:=r) (j:=j) hj
   have a2:=Qe3 (r:=c) (j:=j) (by omega)
   have mo:Qbu (ge r j) (ge c j)=true:=hc j
   refine ⟨.fz (.int (ge r j*ge c j)),?_,by rw [Qei];rfl⟩
   simp only [Int.zero_add,Qcv,Qge,Qo,Q3,Qc,Qa,Qz,Qfy,Qfx,Qfw,cont,Qfv,ui2,a1,Qcl,ui1,a2,Qck,Qcj,Out.opt,uo5,mo,if_true]) (by rw [Qaq];omega)
 rw [Qjb (f:=fun j=>T.int (ge r j*ge c j))] at hcomp
 have em:((List.range r.length).map fun j=>T.int (ge r j*ge c j))=((List.range r.length).map fun j=>ge r j*ge c j).map T.int:=by rw [map_map];rfl
 rw [em] at hcomp
 show Qbg (cfn k) ⟨2,2,Qbo⟩ _=_
 rw [Qaw rfl]
 show Qbr _ (exS _ Qbo [.fz (Qf r),.fz (.lst (c.map T.int))])=_
 simp only [Qax,Qbj,Ql,hcomp,Qz,yC1,Qu,yC2,yBi,Qbh,Qaa,cont,Out.opt,ub5,Option.map,intL_mp,Qal,Qby,Qaf,Qau,Qar,Qas,Q2]
 rfl
theorem Qyz {cf:CF} {i:Nat} {js:List (Option Nat)} {e:E} {ρ rest:En} {ts:List T} {f:T→T} (hs:(Qb ρ i).prv=some (.lst ts)) (hj:js.all (fun j=>decide (j≠some i))=true) (hcap:Qcp js ρ=.un::rest) (hml:rest.all Qiq=true) (hap:Qbx js=true)
  (he:∀ x∈ts,∃ r,evE cf e (.fz x::rest)=.ok r (.fz x::rest)∧frz r=some (f x)) (hz:ts.length≤100000):evE cf (.compS i js (.nm 0) .nil e) ρ=.ok (.ow (.lst (ts.map f))) ρ:=by
 have q:=Qa2 (cf:=cf) (w:=.seq (.lit (.lst ts))) (js:=js) (e:=e) (ρ:=ρ) (rest:=rest) (f:=f) rfl hcap hml hap he hz
 have q2:(match Qdf (.nm 0) (evC cf .nil) (evE cf e) ts [] (Qcp js ρ) with
   | .ok us ρi=>if Qec (Qcp js ρ) ρi=true∧Qbx js=true then Out.ok (PV.ow (.lst us)) (Qjm js ρi ρ) else .no
   | _=>.no)=.ok (.ow (.lst (ts.map f))) ρ:=q
 unfold evE
 rw [hs]
 simp only [if_pos hj]
 exact q2
noncomputable abbrev Qkf:S:=.setF 6 (.call 16 (.cons (.var 4) (.cons (.var 3) .nil)))
noncomputable abbrev Qrq:E:=.compS 3 [none,some 4,some 5] (.nm 0) .nil (.bin .mul (.var 0) (.ix (.var 1) (.var 2)))
noncomputable abbrev Qmi:S:=.seq (.setF 5 (.call 24 (.cons (.var 4) .nil))) (.seq (.look 3 Qkf) (.seq (.set 3 Qrq) (.put 3 (.var 5) (.neg (.var 6)))))
noncomputable def mulX (c:Int):T→T
 | .int x=>.int (x*c)
 | t=>t
noncomputable def Sl (s:Slot):Prop:=s=.un∨∃ i:Int,s=.fz (.int i)
theorem Q5z (k:Nat) {n:Nat} {X:List T} {nb s:List Int} {at_:Int} (hs:s.length=n) (hz:ld s<n) (hn:n≤4) (hnb:nb.length=n) (mo:MO s nb) (mm:∀ x∈nb,Qbu x (ge s (ld s))=true) {s5 s6:Slot} (o5:Sl s5) (o6:Sl s6) :
  exS (cfn (k+1)) Qmi [.fz (.lst X),.fz (.int n),.fz (.int at_),.ow (.lst (nb.map T.int)),.fz (Qf s),s5,s6]=.nx [.fz (.lst X),.fz (.int n),.fz (.int at_),.ow (.lst ((lsT nb s).map T.int)),.fz (Qf s),.fz (.int (ld s:Int)),.fz (.int (Qbb s nb))]:=by
 have hl:cfn (k+1) 24 [.fz (Qf s)]=.ok (.fz (.int (ld s:Int))) [.non]:=by
  rw [Qoe k (by omega)];unfold ldT;rw [if_pos (by omega)]
 have e1:=Q5y k (r:=s) (c:=nb) (by omega) (by omega) mo
 have w1:exS (cfn (k+1)) (.setF 5 (.call 24 (.cons (.var 4) .nil))) [.fz (.lst X),.fz (.int n),.fz (.int at_),.ow (.lst (nb.map T.int)),.fz (Qf s),s5,s6]=.nx [.fz (.lst X),.fz (.int n),.fz (.int at_),.ow (.lst (nb.map T.int)),.fz (Qf s),.fz (.int (ld s:Int)),s6]:=by
  rcases o5 with rfl | ⟨i,rfl⟩ <;> simp only [Qa0,Q0,Ql,Qo,Q3,Qc,Qa,Qz,yC1,Qu,yC2,Qr,Qs,Qy,Qt,Q7,Qx,hl,Qao,Qi,Qv,L2.Qj,Option.map,if_true,Qal,Qb0,Qba,frz,Qah,Qbk,length_cons,length_nil,Nat.reduceAdd,Nat.reduceLT,List.set]
 have w2:exS (cfn (k+1)) (.look 3 Qkf) [.fz (.lst X),.fz (.int n),.fz (.int at_),.ow (.lst (nb.map T.int)),.fz (Qf s),.fz (.int (ld s:Int)),s6]=.nx [.fz (.lst X),.fz (.int n),.fz (.int at_),.ow (.lst (nb.map T.int)),.fz (Qf s),.fz (.int (ld s:Int)),.fz (.int (Qbb s nb))]:=by
  have rs:=Q2i s
  have ru:=Q2j s
  have e:∀ s6,Sl s6→exS (cfn (k+1)) Qkf [.fx (.lst X),.fz (.int n),.fz (.int at_),.fx (.lst (nb.map T.int)),.fz (Qf s),.fz (.int (ld s:Int)),s6]=.nx [.fx (.lst X),.fz (.int n),.fz (.int at_),.fx (.lst (nb.map T.int)),.fz (Qf s),.fz (.int (ld s:Int)),.fz (.int (Qbb s nb))]:=fun s6 o6=>by
   rcases o6 with rfl | ⟨i,rfl⟩ <;> simp only [Qa0,Q0,Ql,Qo,Q3,Qc,Qa,Qz,yC1,Qu,yC2,Qr,Qs,Qy,Qt,Q7,Qx,e1,Qao,Qi,Qv,L2.Qj,Option.map,if_true,Qal,Qb0,Qba,frz,Qah,Qbk,length_cons,length_nil,Nat.reduceAdd,Nat.reduceLT,List.set]
  have fin:∀ s6,Sl s6→lkO 3 [.fz (.lst X),.fz (.int n),.fz (.int at_),.ow (.lst (nb.map T.int)),.fz (Qf s),.fz (.int (ld s:Int)),s6] (.nx [.fx (.lst X),.fz (.int n),.fz (.int at_),.fx (.lst (nb.map T.int)),.fz (Qf s),.fz (.int (ld s:Int)),.fz (.int (Qbb s nb))])=.nx [.fz (.lst X),.fz (.int n),.fz (.int at_),.ow (.lst (nb.map T.int)),.fz (Qf s),.fz (.int (ld s:Int)),.fz (.int (Qbb s nb))]:=fun s6 o6=>by
   rcases o6 with rfl | ⟨i,rfl⟩ <;> (show SO.nx [.fz (.lst X),.fz (.int n),.fz (.int at_),.ow (.lst (nb.map T.int)),if Qor (Qf s)=true then .fz (Qf s) else .un,.fz (.int (ld s:Int)),.fz (.int (Qbb s nb))]=_;rw [if_pos ru])
  have ok:∀ s6,Sl s6→Qko s6=true∧lkS s6=s6:=fun s6 o6=>by
   rcases o6 with rfl | ⟨i,rfl⟩ <;> exact ⟨rfl,rfl⟩
  obtain ⟨k1,k2⟩:=ok s6 o6
  rw [Q2h (ts:=nb.map T.int) rfl (by show (true&&(true&&(true&&(true&&(true&&(true&&(Qko s6&&true)))))))=true;rw [k1];rfl)]
  show lkO 3 _ (exS (cfn (k+1)) Qkf [.fx (.lst X),.fz (.int n),.fz (.int at_),.fx (.lst (nb.map T.int)),lkS (.fz (Qf s)),.fz (.int (ld s:Int)),lkS s6])=_
  rw [rs,k2,e s6 o6,fin s6 o6]
 generalize hK:Qbb s nb=K0 at w2
 have gs:atI (s.map T.int) (ld s:Int)=some (.int (ge s (ld s))):=Qe3 (by omega)
 have hc:evE (cfn (k+1)) Qrq [.fz (.lst X),.fz (.int n),.fz (.int at_),.ow (.lst (nb.map T.int)),.fz (Qf s),.fz (.int (ld s:Int)),.fz (.int K0)]=.ok (.ow (.lst ((nb.map T.int).map (mulX (ge s (ld s)))))) [.fz (.lst X),.fz (.int n),.fz (.int at_),.ow (.lst (nb.map T.int)),.fz (Qf s),.fz (.int (ld s:Int)),.fz (.int K0)] :=
  Qyz (rest:=[.fz (Qf s),.fz (.int (ld s:Int))]) rfl rfl rfl rfl rfl (fun x hx=>by
   obtain ⟨v,hv,rfl⟩:=mem_map.mp hx
   have m:=mm v hv
   refine ⟨.fz (.int (v*ge s (ld s))),?_,rfl⟩
   simp only [Qcv,Qo,Q3,Qa,Qz,Qcl,Qge,Qc,Qfy,Qfx,Qfw,cont,Qfv,ui2,gs,Qck,Qcj,Out.opt,uo5,m,if_true]) (by rw [length_map];omega)
 have em:(nb.map T.int).map (mulX (ge s (ld s)))=(nb.map fun x=>x*ge s (ld s)).map T.int:=by rw [map_map,map_map];rfl
 rw [em] at hc
 have w3:exS (cfn (k+1)) (.set 3 Qrq) [.fz (.lst X),.fz (.int n),.fz (.int at_),.ow (.lst (nb.map T.int)),.fz (Qf s),.fz (.int (ld s:Int)),.fz (.int K0)]=.nx [.fz (.lst X),.fz (.int n),.fz (.int at_),.ow (.lst ((nb.map fun x=>x*ge s (ld s)).map T.int)),.fz (Qf s),.fz (.int (ld s:Int)),.fz (.int K0)]:=by
  generalize Qrq=E0 at hc ⊢
  simp only [Qlo,hc,Qal,Qoq,Qah,Qbk,length_cons,length_nil,Nat.reduceAdd,Nat.reduceLT,Qc,Qa,List.set,if_true]
 have ix:ixN ((nb.map fun x=>x*ge s (ld s)).map T.int).length (ld s:Int)=some (ld s):=Qabm (by rw [length_map,length_map];omega)
 have el:(lsT nb s).map T.int=((nb.map fun x=>x*ge s (ld s)).map T.int).set (ld s) (.int (-K0)):=by
  unfold lsT
  rw [hK,map_set]
 rw [Qad,w1,Qbd,Qad,w2,Qbd,Qad,w3,Qbd,el]
 generalize (nb.map fun x=>x*ge s (ld s)).map T.int=L at ix ⊢
 simp only [Qwo,Qso,Qo,Q3,Qc,Qa,Qz,Qyf,Qal,Qyg,Qst,frz,Slot.mut,Qp1,Qss,Qah,ix,List.set,if_true]
theorem Q7n (f:Nat→Int) (B:Nat):∀ n,(∀ k,k<n→(f k).natAbs≤B)→(Sm n f).natAbs≤n*B
 | 0,_=>by show (0:Int).natAbs≤_;simp
 | n+1,h=>by
  rw [Qdb,Nat.add_mul,Nat.one_mul]
  exact Nat.le_trans (Int.natAbs_add_le _ _) (Nat.add_le_add (Q7n f B n fun k hk=>h k (by omega)) (h n (by omega)))
theorem Q2n {n a b:Nat} {r c:List Int} (hn:n≤4) (hr:r.length=n) (ha:∀ x∈r,(x:Int).natAbs<2^a) (hb:∀ x∈c,(x:Int).natAbs<2^b):(Qbb r c).natAbs<2^(a+b+2)+1:=by
 rw [Qg5 hr]
 refine Nat.lt_succ_of_le (Nat.le_trans (Q7n _ (2^a*2^b) n fun k _=>?_) ?_)
 ·rw [Int.natAbs_mul]
  exact Nat.mul_le_mul (Nat.le_of_lt (Qht ha k)) (Nat.le_of_lt (Qht hb k))
 ·rw [Nat.pow_add,Nat.pow_add,Nat.mul_comm]
  exact Nat.mul_le_mul_left _ hn
theorem Q2o {n b:Nat} {nb s:List Int} (hn:n≤4) (hs:s.length=n) (hz:ld s<n) (bs:∀ x∈s,(x:Int).natAbs<2^959) (h:∀ x∈nb,(x:Int).natAbs<2^b):∀ x∈lsT nb s,(x:Int).natAbs<2^(b+962):=fun x hx=>by
 unfold lsT at hx
 rcases List.mem_or_eq_of_mem_set hx with z | z
 ·obtain ⟨v,hv,rfl⟩:=mem_map.mp z
  rw [Int.natAbs_mul]
  refine Nat.lt_of_lt_of_le (Nat.mul_lt_mul'' (h v hv) (Qht bs (ld s))) ?_
  rw [←Nat.pow_add]
  exact Nat.pow_le_pow_right (by decide) (by omega)
 ·rw [z,Int.natAbs_neg]
  refine Nat.lt_of_lt_of_le (Q2n hn hs bs h) ?_
  have e:2^(b+962)=2^(959+b+2)*2:=by rw [show b+962=959+b+2+1 by omega];exact Nat.pow_succ 2 _
  rw [e]
  have:0<2^(959+b+2):=Nat.pow_pos (by decide)
  generalize 2^(959+b+2)=z at this ⊢
  omega
theorem Qxh (k:Nat) {n:Nat} (hn:n≤4) {X:List T} {at_:Int}:∀ (T':List (List Int)) (nb:List Int) (i:Nat) (s4 s5 s6:Slot),Qcu s4=true→Sl s5→Sl s6→nb.length=n→(∀ x∈nb,(x:Int).natAbs<2^(962*i+1))→i+T'.length≤4→(∀ s∈T',s.length=n∧ld s<n∧∀ x∈s,(x:Int).natAbs<2^959) →
  ∃ s4' s5' s6',Qc0 (.nm 4) (exS (cfn (k+1)) Qmi) (T'.map Qf) [.fz (.lst X),.fz (.int n),.fz (.int at_),.ow (.lst (nb.map T.int)),s4,s5,s6]=.nx [.fz (.lst X),.fz (.int n),.fz (.int at_),.ow (.lst ((T'.foldl lsT nb).map T.int)),s4',s5',s6']∧∀ x∈T'.foldl lsT nb,(x:Int).natAbs<2^4000
 | [],nb,i,s4,s5,s6,_,_,_,_,hb,hi,_=>⟨s4,s5,s6,rfl,fun x hx=>Nat.lt_of_lt_of_le (hb x hx) (Nat.pow_le_pow_right (by decide) (by simp at hi;omega))⟩
 | s::T',nb,i,s4,s5,s6,o4,o5,o6,hnb,hb,hi,hT=>by
  obtain ⟨a,b,c⟩:=hT s (.head _)
  rw [length_cons] at hi
  have mo:MO s nb:=Q2m c hb (by decide) (by omega)
  have mm:∀ x∈nb,Qbu x (ge s (ld s))=true:=fun x hx=>Qic (hb x hx) (Qht c (ld s)) (by omega) (by decide)
  have t:=Q5z k (X:=X) (at_:=at_) a b hn hnb mo mm o5 o6
  have st:Qeb (.nm 4) (Qf s) [.fz (.lst X),.fz (.int n),.fz (.int at_),.ow (.lst (nb.map T.int)),s4,s5,s6]=some [.fz (.lst X),.fz (.int n),.fz (.int at_),.ow (.lst (nb.map T.int)),.fz (Qf s),s5,s6]:=by
   cases s4 <;> first | rfl | (cases o4;done)
  obtain ⟨s4',s5',s6',e,q⟩:=Qxh k hn (X:=X) (at_:=at_) T' (lsT nb s) (i+1) (.fz (Qf s)) (.fz (.int (ld s:Int))) (.fz (.int (Qbb s nb))) rfl (.inr ⟨_,rfl⟩) (.inr ⟨_,rfl⟩) (by rw [Qrh,hnb]) (by
   have:=Q2o hn a b c hb
   rw [show 962*(i+1)+1=962*i+1+962 by omega]
   exact this) (by omega) fun t ht=>hT t (.tail _ ht)
  refine ⟨s4',s5',s6',?_,q⟩
  rw [map_cons,Qhu st t,e,foldl_cons]
open PySem L2
noncomputable def Qy0 (s:List Int):List (List Int)→List (List Int)
 | []=>[s]
 | q::l=>if (ld q:Int)<(ld s:Int) then s::q::l else q::Qy0 s l
noncomputable def Qo4:List (List Int)→List (List Int)
 | []=>[]
 | s::l=>Qy0 s (Qo4 l)
noncomputable abbrev pr (s:List Int):Int×T:=((ld s:Int),Qf s)
theorem Qtv (s:List Int):∀ L:List (List Int),Qr8 (pr s) (L.map pr)=(Qy0 s L).map pr
 | []=>rfl
 | q::L=>by
  rw [map_cons,Qr8,Qy0]
  by_cases z:(ld q:Int)<(ld s:Int)
  ·rw [if_pos z,if_pos z];rfl
  ·rw [if_neg z,if_neg z,Qtv s L];rfl
theorem Qok:∀ L:List (List Int),Qr9 (L.map pr)=(Qo4 L).map pr
 | []=>rfl
 | s::L=>by rw [map_cons,Qr9,Qok L,Qtv];rfl
theorem Qeu (L:List (List Int)):(Qo4 L).Perm L:=by
 have ins:∀ (s:List Int) (l:List (List Int)),(Qy0 s l).Perm (s::l):=fun s l=>by
  induction l with
  | nil=>exact .refl _
  | cons q l ih =>
   rw [Qy0]
   split
   ·exact .refl _
   ·exact (ih.cons q).trans (.swap _ _ _)
 induction L with
 | nil=>exact .refl _
 | cons s L ih=>exact (ins s _).trans (ih.cons s)
theorem Q50 {L:List (List Int)} (h:(L.map ld).Nodup):(Qo4 L).Pairwise fun a b=>ld b<ld a:=by
 have e:(L.map pr).map (·.1)=(L.map ld).map fun (i:Nat)=>(i:Int):=by rw [map_map,map_map];rfl
 have nd:((L.map pr).map (·.1)).Nodup:=by
  rw [e]
  exact List.pairwise_map.mpr (h.imp fun hne z=>hne (by omega))
 have p:=Qqp nd
 rw [Qok] at p
 exact (List.pairwise_map.mp p).imp fun h=>by have h:((ld _:Nat):Int)<((ld _:Nat):Int):=h;omega
theorem Qxi (k:Nat):∀ S:List (List Int),(∀ s∈S,s.length≤1000∧ld s<s.length)→Qg0 (cfn (k+1)) 24 (S.map Qf)=some (S.map fun s=>(ld s:Int))
 | [],_=>rfl
 | s::S,h=>by
  obtain ⟨a,b⟩:=h s (.head _)
  have e:cfn (k+1) 24 [.fz (Qf s)]=.ok (.fz (.int (ld s:Int))) [.non]:=by
   rw [Qoe k a];unfold ldT;rw [if_pos b]
  rw [map_cons,Qg0,e,Qxi k S fun t ht=>h t (.tail _ ht)]
  rfl
theorem Qabo (S:List (List Int)):(S.map fun s=>(ld s:Int)).zip (S.map Qf)=S.map pr:=by
 induction S with
 | nil=>rfl
 | cons s S ih=>rw [map_cons,map_cons,List.zip_cons_cons,ih];rfl
structure Stp (n:Nat) (S:List (List Int)):Prop where
 ok:∀ s∈S,s.length=n∧ld s<n∧∀ x∈s,(x:Int).natAbs<2^959
 nd:(S.map ld).Nodup
 le:S.length≤4
noncomputable abbrev nbF (n:Nat) (S:List (List Int)) (at_:Nat):List Int:=(Qo4 S).foldl lsT (unl n at_)
theorem Qy1 (k:Nat) {n:Nat} (hn:n≤4) {S:List (List Int)} (h:Stp n S) (at_:Nat):cfn (k+4) 34 [.fz (.lst (S.map Qf)),.fz (.int n),.fz (.int at_)]=.ok (.fz (lnT (lnR (nbF n S at_)))) [.non,.non,.non]:=by
 have hu:=Qabn (k+2) (n:=n) (at_:=at_) hn
 have le:=h.le
 have hk:=Qxi (k+2) S fun s hs=>by
  obtain ⟨a,b,_⟩:=h.ok s hs
  exact ⟨by omega,by omega⟩
 have nd:(S.map fun s=>(ld s:Int)).Nodup:=by
  have e:(S.map fun s=>(ld s:Int))=(S.map ld).map fun (i:Nat)=>(i:Int):=by rw [map_map];rfl
  rw [e]
  exact List.pairwise_map.mpr (h.nd.imp fun hne z=>hne (by omega))
 have hw:∀ (a b c:Slot) (d:T),evW (cfn (k+3)) (.seq (.srk 24 (.var 0))) [.fz (.lst (S.map Qf)),a,b,.ow d,c,.un,.un]=.ok ((Qo4 S).map Qf,none) [.fz (.lst (S.map Qf)),a,b,.ow d,c,.un,.un]:=fun a b c d=>by
  unfold evW
  rw [Qaek (ts:=S.map Qf) (kz:=S.map fun s=>(ld s:Int)) (ρ1:=[.fz (.lst (S.map Qf)),a,b,.ow d,c,.un,.un]) (by simp only [Qo,Q3,Qa]) hk ⟨by rw [length_map];omega,nd⟩,Qabo,Qok,map_map]
  rfl
 obtain ⟨s4',s5',s6',ef,bd⟩:=Qxh (k+2) hn (X:=S.map Qf) (at_:=(at_:Int)) (Qo4 S) (unl n at_) 0 .un .un .un rfl (.inl rfl) (.inl rfl) (Qmd n at_) (fun x hx=>by
  unfold unl at hx
  obtain ⟨j,_,rfl⟩:=mem_map.mp hx
  split <;> decide) (by rw [(Qeu S).length_eq];omega) (fun s hs=>h.ok s ((Qeu S).mem_iff.mp hs))
 have e9:=Qlb (k+1) (r:=nbF n S at_) (by
  have:∀ (L:List (List Int)) (x:List Int),(L.foldl lsT x).length=x.length:=fun L=>by
   induction L with
   | nil=>intro x;rfl
   | cons s L ih=>intro x;rw [foldl_cons,ih,Qrh]
  rw [this,Qmd];omega) bd
 have el:Qg6 .list [Qf (unl n at_)]=some (.ow (.lst ((unl n at_).map T.int))):=rfl
 have hw0:=hw (.fz (.int n)) (.fz (.int at_)) .un (.lst ((unl n at_).map T.int))
 show Qbg (cfn (k+3)) ⟨3,7,Qp3⟩ _=_
 rw [Qaw rfl]
 show Qbr _ (exS _ (.seq (.set 3 (.bi .list (.cons (.call 26 (.cons (.var 1) (.cons (.var 2) .nil))) .nil))) (.seq (.for_ (.seq (.srk 24 (.var 0))) (.nm 4) Qmi) (.ret (.call 25 (.cons (.bi .tup (.cons (.var 3) .nil)) .nil))))) [.fz (.lst (S.map Qf)),.fz (.int n),.fz (.int at_),.un,.un,.un,.un])=_
 generalize Qmi=B0 at ef ⊢
 generalize (.seq (.srk 24 (.var 0)):W)=W0 at hw0 ⊢
 generalize hU:(unl n at_).map T.int=U at *
 have hu':cfn (k+3) 26 [.fz (.int n),.fz (.int at_)]=.ok (.fz (.tup U)) [.non,.non]:=by rw [←hU];exact hu
 have el':Qg6 .list [.tup U]=some (.ow (.lst U)):=rfl
 generalize S.map Qf=LL at *
 simp only [Qad,Qlo,Qbj,Ql,Q0,Qo,Q3,Qc,Qa,Qz,yC1,Qu,yC2,Qr,Qs,Qy,Qt,Q7,Qx,hu',Qao,Qi,Qv,L2.Qj,Option.map,if_true,yBi,Qbh,Qaa,cont,Out.opt,el',Qal,Qoq,Qah,Qbk,length_cons,length_nil,Nat.reduceAdd,Nat.reduceLT,List.set,Qbd,Qfz,hw0,Qjv,ef,Qdg,Qax,Slot.prv,ub9,e9,Qby,Qaf,Qau,Qar,Qas,Q2]
noncomputable def frs (n:Nat) (S:List (List Int)):List Nat:=(List.range n).filter fun a=>!decide (a∈S.map ld)
theorem Q51 {n:Nat} {S:List (List Int)} (h:Stp n S):(frs n S).length=n-S.length:=by
 obtain ⟨_,p⟩:=Qhs n (S.map ld) h.nd fun i hi=>by
  obtain ⟨s,hs,rfl⟩:=mem_map.mp hi
  exact (h.ok s hs).2.1
 have e1:((List.range n).filter fun c=>(S.map ld).contains c).length=S.length:=by rw [p.length_eq,length_map]
 have e2:=List.length_eq_countP_add_countP (fun c=>(S.map ld).contains c) (l:=List.range n)
 rw [length_range,List.countP_eq_length_filter,List.countP_eq_length_filter,e1] at e2
 have e3:((List.range n).filter fun a=>decide ¬((S.map ld).contains a)=true)=frs n S:=by
  unfold frs
  refine List.filter_congr fun a _=>?_
  by_cases z:a∈S.map ld
  ·have c:(S.map ld).contains a=true:=List.elem_eq_true_of_mem z
   rw [c,decide_eq_true z]
   rfl
  ·have c:(S.map ld).contains a=false:=by
    cases e:(S.map ld).contains a with
    | false=>rfl
    | true=>exact absurd (List.mem_of_elem_eq_true e) z
   rw [c,decide_eq_false z]
   rfl
 rw [e3] at e2
 omega
theorem Q2p (x:Nat):∀ r:List Nat,((r.map fun (i:Nat)=>T.int (i:Int)).any fun u=>eqT u (.int (x:Int)))=decide (x∈r)
 | []=>by simp
 | y::r=>by
  rw [map_cons,any_cons,Q2p x r]
  unfold eqT
  by_cases e:y=x
  ·subst e;simp
  ·have:¬ ((y:Int)=(x:Int)):=by omega
   have e':¬ x=y:=fun z=>e z.symm
   simp [this,e']
theorem Qabp (x:Nat) (r:List Nat):opC .nin (.int (x:Int)) (.lst (r.map fun (i:Nat)=>T.int (i:Int)))=some (!decide (x∈r)):=by
 have e:inO (.int (x:Int)) (.lst (r.map fun (i:Nat)=>T.int (i:Int)))=some (decide (x∈r)):=by
  show (if Qq 49 (.int (x:Int))=true∧(r.map fun (i:Nat)=>T.int (i:Int)).all (Qq 49)=true then some ((r.map fun (i:Nat)=>T.int (i:Int)).any fun u=>eqT u (.int (x:Int))) else none)=_
  rw [if_pos ⟨rfl,by
   rw [all_eq_true]
   intro t ht
   obtain ⟨i,_,rfl⟩:=mem_map.mp ht
   rfl⟩,Q2p]
 show (inO (.int (x:Int)) (.lst (r.map fun (i:Nat)=>T.int (i:Int)))).map (!·)=_
 rw [e]
 rfl
noncomputable def los (n:Nat) (S:List (List Int)):List (List Int):=(frs n S).map fun a=>(lnR (nbF n S a)).getD []
theorem Qid {n:Nat} {M:Tb} (h:Sq n M) (h4:n≤4):Stp n (Qap lnR M)∧(∀ s∈Qap lnR M,ge s (ld s)≠0∧∀ j,j<ld s→ge s j=0):=by
 obtain ⟨a,_,_⟩:=Qf4 h.shp Qb6
 have al:=Qyy (n:=n) (by rw [h.len];exact h4) h.small
 refine ⟨⟨fun s hs=>?_,Qve h.shp Qb6,Nat.le_trans (Qj9 h.shp Qb6) h4⟩,fun s hs=>?_⟩
 ·obtain ⟨u,v,w⟩:=al s hs
  exact ⟨u,by omega,w⟩
 ·obtain ⟨_,v,w⟩:=Qj8 (a s hs).2
  exact ⟨v,w⟩
theorem Qp7 {n:Nat} {M:Tb} (h:Sq n M):Sq n (tr M):=by
 have s:=Qdh h.shp
 refine ⟨s.len,s.row,fun r hr=>?_⟩
 unfold tr at hr
 obtain ⟨j,_,rfl⟩:=mem_map.mp hr
 exact h.bd.col j
theorem Qlc {n:Nat} {M:Tb} (h:Sq n M) (h1:1≤n) (h4:n≤4) {a:Nat} (ha:a∈frs n (Qap lnR (tr M))):∃ l,lnR (nbF n (Qap lnR (tr M)) a)=some l∧l.length=n∧lnR l=some l∧∀ j,j<n→Qbb l (col M j)=0:=by
 have hT:=Qp7 h
 obtain ⟨st,lo⟩:=Qid hT h4
 unfold frs at ha
 obtain ⟨ha1,ha2⟩:=mem_filter.mp ha
 have ha1:=mem_range.mp ha1
 have ha2:a∉(Qap lnR (tr M)).map ld:=by simpa using ha2
 have sto:∀ s∈Qap lnR (tr M),StO n a s:=fun s hs=>by
  obtain ⟨u,v,_⟩:=st.ok s hs
  obtain ⟨x,y⟩:=lo s hs
  exact ⟨u,v,x,y,fun e=>ha2 (by rw [←e];exact mem_map_of_mem hs)⟩
 have L:=Q12 (n:=n) (at_:=a) (Qo4 (Qap lnR (tr M))) [] (unl n a) (Q11 ha1) (fun p hp=>by cases hp) (fun s hs=>sto s ((Qeu _).mem_iff.mp hs)) (fun p hp=>by cases hp) (Q50 st.nd)
 rw [List.nil_append] at L
 have L:Lo n a (Qo4 (Qap lnR (tr M))) (nbF n (Qap lnR (tr M)) a):=L
 have hz:¬ isZ (nbF n (Qap lnR (tr M)) a):=fun z=>L.nz (by
  unfold ge
  rw [getD_eq_getElem?_getD]
  cases e:(nbF n (Qap lnR (tr M)) a)[a]? with
  | none=>rfl
  | some v=>exact z v (mem_of_getElem? e))
 have hl:=(Qn8 _).mpr hz
 obtain ⟨l,el⟩:∃ l,lnR (nbF n (Qap lnR (tr M)) a)=some l:=by
  cases e:lnR (nbF n (Qap lnR (tr M)) a) with
  | none=>exact absurd ((Qb6.no _).mp e) hz
  | some l=>exact ⟨l,rfl⟩
 obtain ⟨g,g0,eg⟩:=Qb6.yes _ _ el
 have ll:l.length=n:=by
  have q:(nbF n (Qap lnR (tr M)) a).length=n:=L.len
  rw [eg,length_map] at q
  exact q
 refine ⟨l,el,ll,Q5o el,fun j hj=>?_⟩
 have hc:(col M j).length=n:=by rw [Qxf,h.len]
 have o:=Qp5 (n:=n) (x:=nbF n (Qap lnR (tr M)) a) (tr M) [] hT.row (fun s hs=>⟨(st.ok s hs).1,(lo s hs).1,L.orth s ((Qeu _).mem_iff.mpr hs)⟩) (col M j) (by
  have:=Qib h.shp hj
  rw [←this]
  exact Qrg (by rw [hT.len];exact hj))
 have o:Qbb (col M j) (nbF n (Qap lnR (tr M)) a)=0:=o
 have lq:(nbF n (Qap lnR (tr M)) a).length=n:=L.len
 rw [Q10 hc lq] at o
 generalize nbF n (Qap lnR (tr M)) a=Z at eg o
 rw [eg,Qtn] at o
 rcases Int.mul_eq_zero.mp o with z | z
 ·exact absurd z g0
 ·exact z
theorem Qabq {n:Nat} {M:Tb} (h:Sq n M) (h1:1≤n) (h4:n≤4):(los n (Qap lnR (tr M))).length=n-rk M∧∀ l∈los n (Qap lnR (tr M)),l.length=n∧lnR l=some l∧∀ j,j<n→Qbb l (col M j)=0:=by
 obtain ⟨st,_⟩:=Qid (Qp7 h) h4
 refine ⟨?_,fun l hl=>?_⟩
 ·unfold los
  rw [length_map,Q51 st,←Qw2 h.shp h1 h4]
  rfl
 ·unfold los at hl
  obtain ⟨a,ha,rfl⟩:=mem_map.mp hl
  obtain ⟨l,e,q⟩:=Qlc h h1 h4 ha
  rw [e]
  exact q
theorem Qabr (k:Nat) {n:Nat} {M:Tb} (h:Sq n M) (h1:1≤n) (h4:n≤4):cfn (k+6) 35 [.fz (Qm M)]=.ok (.ow (.lst ((los n (Qap lnR (tr M))).map Qf))) [.non]:=by
 obtain ⟨st,_⟩:=Qid (Qp7 h) h4
 have hT:=Qp7 h
 have hl:=h.len
 have e1:=Qce (k+1) h.shp h1 h4
 have e2:=Qgy (k+3) h.shp h4
 have e2:cfn (k+5) 15 [.fz (Qm M)]=.ok (.fz (Qm (tr M))) [.non]:=e2
 have e3:=Qxe (k+1) (n:=n) (M:=tr M) (by rw [hT.len];exact h4) hT.small (by omega)
 have le:=st.le
 have hcap:∀ s∈Qap lnR (tr M),cfn (k+5) 24 [.fz (Qf s)]=.ok (.fz (.int (ld s:Int))) [.non]:=fun s hs=>by
  obtain ⟨a,b,_⟩:=st.ok s hs
  rw [Qoe (k+4) (by omega)];unfold ldT;rw [if_pos (by omega)]
 generalize hS:Qap lnR (tr M)=S at *
 have e4:∀ (a b c d:Slot),evE (cfn (k+5)) (.comp (.seq (.var 2)) [none] (.nm 0) .nil (.call 24 (.cons (.var 0) .nil))) [a,b,.fz (.lst (S.map Qf)),d]=.ok (.ow (.lst ((S.map Qf).map fun t=>T.int (ld (iOf t):Int)))) [a,b,.fz (.lst (S.map Qf)),d]:=fun a b c d =>
  Qa2 (rest:=[]) rfl rfl rfl rfl (fun x hx=>by
   obtain ⟨s,hs,rfl⟩:=mem_map.mp hx
   have e:=hcap s hs
   refine ⟨.fz (.int (ld s:Int)),?_,by rw [Qd9];rfl⟩
   simp only [Q0,Ql,Qo,Q3,Qa,Qz,yC1,Qu,yC2,Qr,Qs,Qy,Qt,Q7,Qx,e,Qao,Qi,Qv,L2.Qj,Option.map,if_true]) (by rw [length_map];omega)
 have em:((S.map Qf).map fun t=>T.int (ld (iOf t):Int))=(S.map ld).map fun (i:Nat)=>T.int (i:Int):=by
  rw [map_map,map_map]
  refine map_congr_left fun s _=>?_
  show T.int (ld (iOf (Qf s)):Int)=T.int (ld s:Int)
  rw [Qd9]
 rw [em] at e4
 have c:n≤100000:=by omega
 have hw:∀ L:T,evW (cfn (k+5)) (.rng1 (.var 1)) [.fz (Qm M),.fz (.int n),.fz (.lst (S.map Qf)),.fz L]=.ok (Qag 0 n,none) [.fz (Qm M),.fz (.int n),.fz (.lst (S.map Qf)),.fz L]:=fun L=>by
  simp only [Qdc,Qo,Q3,Qc,Qa,Qz,Qiz c]
 have e5:=Qwm (cf:=cfn (k+5)) (w:=.rng1 (.var 1)) (js:=[none,some 2,some 1,some 3]) (cs:=.cons (.cmp .nin (.var 0) (.var 3)) .nil) (e:=.call 34 (.cons (.var 1) (.cons (.var 2) (.cons (.var 0) .nil))))
  (ρ:=[.fz (Qm M),.fz (.int n),.fz (.lst (S.map Qf)),.fz (.lst ((S.map ld).map fun (i:Nat)=>T.int (i:Int)))]) (rest:=[.fz (.lst (S.map Qf)),.fz (.int n),.fz (.lst ((S.map ld).map fun (i:Nat)=>T.int (i:Int)))]) (xs:=Qag 0 n)
  (g:=fun x=>!decide (jOf x∈S.map ld)) (f:=fun x=>lnT (lnR (nbF n S (jOf x)))) (hw _) rfl rfl rfl (fun x hx=>by
   unfold Qag at hx
   obtain ⟨j,hj,rfl⟩:=mem_map.mp hx
   have q:=Qabp j (S.map ld)
   rw [Qaes,Qei]
   generalize ((S.map ld).map fun (i:Nat)=>T.int (i:Int))=LL at q ⊢
   simp only [Int.zero_add,Qa8,Qo,Q3,Qa,Qz,Qa6,Qc,Qa5,Qa4,cont,Qa3,q,Q4,yBl]) (fun x hx _=>by
   unfold Qag at hx
   obtain ⟨j,hj,rfl⟩:=mem_map.mp hx
   have q:=Qy1 (k+1) h4 st j
   refine ⟨.fz (lnT (lnR (nbF n S j))),?_,by rw [Qei];rfl⟩
   simp only [Int.zero_add,Q0,Ql,Qo,Q3,Qc,Qa,Qz,yC1,Qu,yC2,Qr,Qs,Qy,Qt,Q7,Qx,q,Qao,Qi,Qv,L2.Qj,Option.map,if_true]) (by rw [Qaq];omega)
 have ef:((Qag 0 n).filter fun x=>!decide (jOf x∈S.map ld)).map (fun x=>lnT (lnR (nbF n S (jOf x))))=(frs n S).map fun a=>lnT (lnR (nbF n S a)):=by
  unfold Qag frs
  rw [List.filter_map,map_map]
  have e1:((List.range n).filter ((fun x=>!decide (jOf x∈S.map ld)) ∘ fun (i:Nat)=>T.int (0+(i:Int))))=(List.range n).filter fun a=>!decide (a∈S.map ld):=List.filter_congr fun a _=>by
   show (!decide (jOf (.int (0+(a:Int)))∈S.map ld))=_
   rw [Qei]
  rw [e1]
  refine map_congr_left fun a _=>?_
  show lnT (lnR (nbF n S (jOf (.int (0+(a:Int))))))=_
  rw [Qei]
 rw [ef] at e5
 have eg:((frs n S).map fun a=>lnT (lnR (nbF n S a)))=(los n S).map Qf:=by
  unfold los
  rw [map_map]
  refine map_congr_left fun a ha=>?_
  obtain ⟨l,el,_⟩:=Qlc h h1 h4 (a:=a) (by rw [hS];exact ha)
  rw [hS] at el
  show lnT (lnR (nbF n S a))=Qf ((lnR (nbF n S a)).getD [])
  rw [el]
  rfl
 rw [eg] at e5
 show Qbg (cfn (k+5)) ⟨1,4,Qu4⟩ _=_
 rw [Qaw rfl]
 show Qbr _ (exS _ Qu4 [.fz (Qm M),.un,.un,.un])=_
 have e4:=e4 (.fz (Qm M)) (.fz (.int n)) .un .un
 have em0:List.length (M.map Qf)=n:=by rw [length_map,hl]
 generalize ((S.map ld).map fun (i:Nat)=>T.int (i:Int))=LL at e4 e5 ⊢
 generalize (los n S).map Qf=RR at e5 ⊢
 generalize S.map Qf=SS at *
 simp only [Qad,Qiy,Q0,Ql,Qo,Q3,Qa,Qz,yC1,Qu,yC2,Qr,Qs,Qy,Qt,Q7,Qx,e1,Qao,Qi,Qv,L2.Qj,Option.map,if_true,Qal,Qln,Qbd,Qa0,Qbj,yBi,Qbh,Qaa,cont,Out.opt,ub2,em0,Qb0,Qba,frz,Qah,Qbk,length_cons,length_nil,Nat.reduceAdd,Nat.reduceLT,Qc,List.set,e2,e3,e4,Qax,e5,Qby,Qaf,Qau,Qar,Qas,Q2]
open PySem L2
structure Sx (n:Nat) (M:Tb):Prop where
 len:M.length=n
 row:∀ r∈M,r.length=n
 bd:∀ r∈M,∀ x∈r,(x:Int).natAbs≤100000000000
noncomputable abbrev Qp8:S:=.seq (.setF 7 (.bi .max (.cons (.int 0) (.cons (.bin .sub (.call 37 (.cons (.var 0) (.cons (.int 5) .nil))) (.int 2)) .nil))))
 (.seq (.ite (.cmp .eq (.var 2) (.int 1)) (.setF 7 (.bin .sub (.call 37 (.cons (.var 0) (.cons (.int 5) .nil))) (.int 2))) .nil)
 (.seq (.ite (.cmp .eq (.var 2) (.int 2)) (.setF 7 (.bin .sub (.call 37 (.cons (.var 0) (.cons (.bin .add (.bin .mul (.int 2) (.bin .pow (.int 10) (.int 11))) (.int 1)) .nil))) (.bin .pow (.int 10) (.int 11)))) .nil)
 (.app 5 (.var 7))))
theorem Q52 (k:Nat) {w:Int} {q:T} (hq:Qe4 q) {r:List Int} (hr:r.length≤1000) {a b c d s:Slot} (o:Qcu s=true):∃ v q',(v:Int).natAbs≤100000000000∧Qe4 q'∧exS (cfn (k+1)) Qp8 [.ml q,a,.fz (.int w),b,c,.ow (.lst (r.map .int)),d,s]=.nx [.ml q',a,.fz (.int w),b,c,.ow (.lst ((r++[v]).map .int)),d,.fz (.int v)]:=by
 obtain ⟨v1,q1,b1,b2,p1,e1⟩:=Qgx k (m:=5) (by decide) (by decide) hq
 have p11:(11:Int).natAbs≤1000000:=by decide
 have p10:(10:Int).natAbs<18446744073709551616:=by decide
 have m2:∀ i:Int,Qbu 2 i=true:=fun i=>by unfold Qbu;simp
 have hz:r.length<100000:=by omega
 have ea:∀ v:Int,r.map T.int++[.int v]=(r++[v]).map T.int:=fun v=>by rw [map_append];rfl
 by_cases h1:w=1
 ·subst h1
  obtain ⟨v2,q2,b3,b4,p2,e2⟩:=Qgx k (m:=5) (by decide) (by decide) p1
  refine ⟨v2-2,q2,by omega,p2,?_⟩
  have ne:¬ (1:Int)=2:=by decide
  (cases s <;> cases o) <;> simp only [Qad,Qa0,Qbj,Ql,Qbe,Qz,yC1,Qcv,Q0,Qo,Q3,Qa,Qu,yC2,Qr,Qs,all_cons,all_nil,Bool.and_true,Qy,Qt,Q7,Qx,e1,Qao,Qi,Qv,L2.Qj,Option.map,if_true,getElem?_cons_zero,Slot.put,Nat.reduceAdd,reduceCtorEq,if_false,Qcl,Qck,Qcj,cont,Out.opt,uo4,yBi,Qbh,Qaa,ub6,Qal,Qb0,Qba,frz,Qah,Qbk,length_cons,length_nil,Nat.reduceLT,Qc,List.set,Qbd,Qbf,Qa8,Qa6,Qa5,Qa4,Qa3,uc1,Qbl,decide_true,Q4,yBl,yIf,e2,ne,decide_false,Qbz,Qno,Slot.mut,Qup,Qp0,Qpz,length_map,hz,ea]
 ·by_cases h2:w=2
  ·subst h2
   obtain ⟨v2,q2,b3,b4,p2,e2⟩:=Qgx k (m:=200000000001) (by decide) (by decide) p1
   refine ⟨v2-100000000000,q2,by omega,p2,?_⟩
   have ne:¬ (2:Int)=1:=by decide
   (cases s <;> cases o) <;> simp only [Qad,Qa0,Qbj,Ql,Qbe,Qz,yC1,Qcv,Q0,Qo,Q3,Qa,Qu,yC2,Qr,Qs,all_cons,all_nil,Bool.and_true,Qy,Qt,Q7,Qx,e1,Qao,Qi,Qv,L2.Qj,Option.map,if_true,getElem?_cons_zero,Slot.put,Nat.reduceAdd,reduceCtorEq,if_false,Qcl,Qck,Qcj,cont,Out.opt,uo4,yBi,Qbh,Qaa,ub6,Qal,Qb0,Qba,frz,Qah,Qbk,length_cons,length_nil,Nat.reduceLT,Qc,List.set,Qbd,Qbf,Qa8,Qa6,Qa5,Qa4,Qa3,uc1,Qbl,ne,decide_false,Q4,yBl,yIf,Qbz,decide_true,uo9,Int.reduceLE,p11,Nat.reducePow,p10,and_self,Int.reduceToNat,Int.reducePow,uo5,m2,Int.reduceMul,uo1,Int.reduceAdd,e2,Qno,Slot.mut,Qup,Qp0,Qpz,length_map,hz,ea]
  ·refine ⟨if v1-2>0 then v1-2 else 0,q1,by split <;> omega,p1,?_⟩
   (cases s <;> cases o) <;> simp only [Qad,Qa0,Qbj,Ql,Qbe,Qz,yC1,Qcv,Q0,Qo,Q3,Qa,Qu,yC2,Qr,Qs,all_cons,all_nil,Bool.and_true,Qy,Qt,Q7,Qx,e1,Qao,Qi,Qv,L2.Qj,Option.map,if_true,getElem?_cons_zero,Slot.put,Nat.reduceAdd,reduceCtorEq,if_false,Qcl,Qck,Qcj,cont,Out.opt,uo4,yBi,Qbh,Qaa,ub6,Qal,Qb0,Qba,frz,Qah,Qbk,length_cons,length_nil,Nat.reduceLT,Qc,List.set,Qbd,Qbf,Qa8,Qa6,Qa5,Qa4,Qa3,uc1,Qbl,h1,decide_false,Q4,yBl,yIf,Qbz,h2,Qno,Slot.mut,Qup,Qp0,Qpz,length_map,hz,ea]
theorem Q53 (k:Nat) {n:Nat} (hn:n≤4) {w:Int} {q:T} (hq:Qe4 q) {a b c s6 s7:Slot} (o6:Qcu s6=true) (o7:Qcu s7=true):∃ (r:List Int) (q':T) (t6 t7:Slot),r.length=n∧(∀ x∈r,(x:Int).natAbs≤100000000000)∧Qe4 q'∧Qcu t6=true∧Qcu t7=true ∧
  Qc0 (.nm 6) (exS (cfn (k+1)) Qp8) (Qag 0 n) [.ml q,a,.fz (.int w),b,c,.ow (.lst []),s6,s7]=.nx [.ml q',a,.fz (.int w),b,c,.ow (.lst (r.map .int)),t6,t7]:=by
 obtain ⟨ρ',e,r,q',t6,t7,hr,hb,hq',o6',o7',rfl⟩:=Qfu (fun i ρ=>∃ (r:List Int) (q':T) (t6 t7:Slot),r.length=i∧(∀ x∈r,(x:Int).natAbs≤100000000000)∧Qe4 q'∧Qcu t6=true∧Qcu t7=true∧ρ=[.ml q',a,.fz (.int w),b,c,.ow (.lst (r.map .int)),t6,t7]) (tg:=.nm 6) (b:=exS (cfn (k+1)) Qp8) (xs:=Qag 0 n) (n:=0) (ρ:=[.ml q,a,.fz (.int w),b,c,.ow (.lst []),s6,s7]) ⟨[],q,s6,s7,rfl,(fun x hx=>by cases hx),hq,o6,o7,rfl⟩ (by
  rintro i x ρ hx ⟨r,q1,t6,t7,hr,hb,p1,o6',o7',rfl⟩
  have hi:i<n:=by have:=(List.getElem?_eq_some_iff.mp hx).1;rwa [Qaq] at this
  obtain ⟨v,q2,hv,p2,e⟩:=Q52 k (w:=w) p1 (r:=r) (by omega) (a:=a) (b:=b) (c:=c) (d:=.fz x) o7'
  exact ⟨[.ml q1,a,.fz (.int w),b,c,.ow (.lst (r.map .int)),.fz x,t7],_,(by cases t6 <;> first | rfl | cases o6'),.inl e,r++[v],q2,.fz x,.fz (.int v),by rw [length_append,hr];rfl,(fun y hy=>by rcases mem_append.mp hy with z | z;exact hb y z;rw [mem_singleton.mp z];exact hv),p2,rfl,rfl,rfl⟩)
 rw [Qaq,Nat.zero_add] at hr
 exact ⟨r,q',t6,t7,hr,hb,hq',o6',o7',e⟩
noncomputable abbrev Qrr:S:=.seq (.set 5 (.lst .nil)) (.seq (.for_ (.rng1 (.var 1)) (.nm 6) Qp8) (.app 3 (.bi .tup (.cons (.var 5) .nil))))
noncomputable def own3:Slot→Bool
 | .un=>true
 | .ow _=>true
 | _=>false
theorem Qabs (k:Nat) {n:Nat} (hn:n≤4) {w:Int} {q:T} (hq:Qe4 q):∃ (M:Tb) (q':T) (t4 t5 t6 t7:Slot),Sx n M∧Qe4 q'∧Qc0 (.nm 4) (exS (cfn (k+1)) Qrr) (Qag 0 n) [.ml q,.fz (.int n),.fz (.int w),.ow (.lst []),.un,.un,.un,.un]=.nx [.ml q',.fz (.int n),.fz (.int w),.ow (.lst (M.map Qf)),t4,t5,t6,t7]:=by
 obtain ⟨ρ',e,M,q',t4,t5,t6,t7,⟨hl,hr,hb⟩,hq',_,_,_,_,rfl⟩:=Qfu (fun i ρ=>∃ (M:Tb) (q':T) (t4 t5 t6 t7:Slot),(M.length=i∧(∀ r∈M,r.length=n)∧∀ r∈M,∀ x∈r,(x:Int).natAbs≤100000000000)∧Qe4 q'∧Qcu t4=true∧own3 t5=true∧Qcu t6=true∧Qcu t7=true∧ρ=[.ml q',.fz (.int n),.fz (.int w),.ow (.lst (M.map Qf)),t4,t5,t6,t7]) (tg:=.nm 4) (b:=exS (cfn (k+1)) Qrr) (xs:=Qag 0 n) (n:=0) (ρ:=[.ml q,.fz (.int n),.fz (.int w),.ow (.lst []),.un,.un,.un,.un]) ⟨[],q,.un,.un,.un,.un,⟨rfl,(fun r z=>by cases z),fun r z=>by cases z⟩,hq,rfl,rfl,rfl,rfl,rfl⟩ (by
  rintro i x ρ hx ⟨M,q1,t4,t5,t6,t7,⟨hl,hr,hb⟩,p1,o4,o5,o6,o7,rfl⟩
  have hi:i<n:=by have:=(List.getElem?_eq_some_iff.mp hx).1;rwa [Qaq] at this
  obtain ⟨r,q2,u6,u7,lr,br,p2,v6,v7,er⟩:=Q53 k hn (w:=w) p1 (a:=.fz (.int n)) (b:=.ow (.lst (M.map Qf))) (c:=.fz x) o6 o7
  have z0:(0:Nat)≤100000:=by decide
  have zn:n≤100000:=by omega
  have zM:M.length<100000:=by omega
  have zr:r.length≤100000:=by omega
  have ea:M.map Qf++[.tup (r.map T.int)]=(M++[r]).map Qf:=by rw [map_append];rfl
  refine ⟨[.ml q1,.fz (.int n),.fz (.int w),.ow (.lst (M.map Qf)),.fz x,t5,t6,t7],[.ml q2,.fz (.int n),.fz (.int w),.ow (.lst ((M++[r]).map Qf)),.fz x,.ow (.lst (r.map .int)),u6,u7],(by cases t4 <;> first | rfl | cases o4),.inl ?_,M++[r],q2,.fz x,_,u6,u7,⟨by rw [length_append,hl];rfl,fun s hs=>?_,fun s hs=>?_⟩,p2,rfl,rfl,v6,v7,rfl⟩
  ·show exS _ (.seq (.set 5 (.lst .nil)) (.seq (.for_ (.rng1 (.var 1)) (.nm 6) Qp8) (.app 3 (.bi .tup (.cons (.var 5) .nil))))) _=_
   generalize Qp8=B0 at er ⊢
   (cases t5 <;> cases o5) <;> simp only [Qad,Qlo,Qnj,Qu,Qz,Qsn,Qfj,length_nil,z0,if_true,Qal,Qoq,Qah,Qbk,length_cons,Nat.reduceAdd,Nat.reduceLT,Qc,Qa,List.set,Qbd,Qfz,Qdc,Qo,Q3,Qiz zn,Qjv,er,Qdg,Qno,Slot.mut,Qbj,Ql,yC1,yC2,yBi,Qbh,Qaa,cont,Slot.prv,Out.opt,ub9,Qup,Qp0,frz,Qpz,length_map,zM,ea]
  ·rcases mem_append.mp hs with z | z
   ·exact hr s z
   ·rw [mem_singleton.mp z];exact lr
  ·rcases mem_append.mp hs with z | z
   ·exact hb s z
   ·rw [mem_singleton.mp z];exact br)
 rw [Qaq,Nat.zero_add] at hl
 exact ⟨M,q',t4,t5,t6,t7,⟨hl,hr,hb⟩,hq',e⟩
theorem Q54 (k:Nat) {n:Nat} (hn:n≤4) {w:Int} {q:T} (hq:Qe4 q):∃ (M:Tb) (q':T),Sx n M∧Qe4 q'∧cfn (k+2) 38 [.ml q,.fz (.int n),.fz (.int w)]=.ok (.fz (Qm M)) [q',.non,.non]:=by
 obtain ⟨M,q',t4,t5,t6,t7,h,p,e⟩:=Qabs k hn (w:=w) hq
 refine ⟨M,q',h,p,?_⟩
 have z0:(0:Nat)≤100000:=by decide
 have zn:n≤100000:=by omega
 have zM:M.length≤100000:=by rw [h.len];omega
 show Qbg (cfn (k+1)) ⟨3,8,Qlr⟩ _=_
 rw [Qaw rfl]
 show Qbr _ (exS _ (.seq (.set 3 (.lst .nil)) (.seq (.for_ (.rng1 (.var 1)) (.nm 4) Qrr) (.ret (.bi .tup (.cons (.var 3) .nil))))) [.ml q,.fz (.int n),.fz (.int w),.un,.un,.un,.un,.un])=_
 generalize Qrr=B0 at e ⊢
 simp only [Qad,Qlo,Qnj,Qu,Qz,Qsn,Qfj,length_nil,z0,if_true,Qal,Qoq,Qah,Qbk,length_cons,Nat.reduceAdd,Nat.reduceLT,Qc,Qa,List.set,Qbd,Qfz,Qdc,Qo,Q3,Qiz zn,Qjv,e,Qdg,Qax,Qbj,Ql,yC1,yC2,yBi,Qbh,Qaa,cont,Slot.prv,Out.opt,ub9,Qby,Qaf,Qau,Qar,Qas,Q2,Option.map]
theorem Sx.sb {n:Nat} {M:Tb} (h:Sx n M):Sb n M:=⟨⟨h.len,h.row⟩,fun r hr x hx=>Nat.lt_of_le_of_lt (h.bd r hr x hx) (by decide)⟩
theorem Qld {n a b:Nat} {A B:Tb} (h4:n≤4) (hA:Shp n A) (ba:Bt a A) (bb:Bt b B):Bt (a+b+3) (tms A B):=fun r hr x hx=>by
 unfold tms at hr
 obtain ⟨u,hu,rfl⟩:=mem_map.mp hr
 unfold rb at hx
 obtain ⟨j,_,rfl⟩:=mem_map.mp hx
 refine Nat.lt_of_lt_of_le (Q2n h4 (hA.row u hu) (ba u hu) (bb.col j)) ?_
 have e:2^(a+b+3)=2^(a+b+2)*2:=Nat.pow_succ 2 _
 rw [e]
 have:0<2^(a+b+2):=Nat.pow_pos (by decide)
 generalize 2^(a+b+2)=z at this ⊢
 omega
theorem Q7o {b:Nat} {M:Tb} (h:Bt b M):Bt b (tr M):=fun r hr=>by
 unfold tr at hr
 obtain ⟨j,_,rfl⟩:=mem_map.mp hr
 exact h.col j
theorem Qol {a b:Nat} {A B:Tb} (ba:Bt a A) (bb:Bt b B) (ha:a≤8999) (hb:b≤8999):∀ r∈A,∀ j,MO r (col B j):=fun r hr j=>Q2m (ba r hr) (bb.col j) ha hb
theorem Qtw {n b:Nat} {M:Tb} (h:Shp n M) (hb:Bt b M) (hle:b≤119):Sq n M:=⟨h.len,h.row,hb.mono hle⟩
theorem Q7p (b:Bool):eqO (.bl b) (.bl b)=some true:=by rw [Qaaz,decide_eq_true rfl]
theorem Q2q (k:Nat) {n a b:Nat} {A B:Tb} (h1:1≤n) (h4:n≤4) (hA:Shp n A) (hB:Shp n B) (ba:Bt a A) (bb:Bt b B) (hab:a+b≤110):cfn (k+11) 39 [.fz (Qm A),.fz (Qm B)]=.ok (.fz (.bl true)) [.non,.non]:=by
 have hP:=Qda hA hB
 have bP:=Qld h4 hA ba bb
 have qA:=Qtw hA ba (by omega)
 have qB:=Qtw hB bb (by omega)
 have qP:=Qtw hP bP (by omega)
 have qT:=Qp7 qP
 have e1:=Qd4 (k+5) hA hB h1 h4 (Qol ba bb (by omega) (by omega))
 have d1:=Qea k qP h1 h4
 have d2:=Qea k qA h1 h4
 have d3:=Qea k qB h1 h4
 have r1:=Qof (k+5) qP h1 h4
 have r2:=Qof (k+5) qA h1 h4
 have r3:=Qof (k+5) qB h1 h4
 have r4:=Qof (k+5) qT h1 h4
 have t1:=Qhv (k+5) hP h1 h4
 have t2:=Qhv (k+5) hA h1 h4
 have t3:=Qhv (k+5) hB h1 h4
 have e2:=Qd4 (k+5) (Qdh hB) (Qdh hA) h1 h4 (Qol (Q7o bb) (Q7o ba) (by omega) (by omega))
 rw [←Q1y hA hB] at e2
 have n1:=Qtu (k+5) hP h1 h4
 have dm:=Qws hA hB h1 h4
 have mo:Qbu (Qae n A) (Qae n B)=true:=Qic (Qvi (by omega) qA) (Qvi (by omega) qB) (by omega) (by omega)
 have k1:=Q1z hA hB h1 h4
 have k2:=Qtl hA hB h4
 have k3:=Qw2 hP h1 h4
 have k4:=Q5k hP h1
 have eT:=Qrp (tr (tms A B))
 have f1:(Qap lnR (tms A B)).length=rk (tms A B):=rfl
 have f2:(Qap lnR A).length=rk A:=rfl
 have f3:(Qap lnR B).length=rk B:=rfl
 have f4:(Qap lnR (tr (tms A B))).length=rk (tms A B):=k3
 rw [f1] at r1
 rw [f2] at r2
 rw [f3] at r3
 rw [f4] at r4
 rw [dm] at d1
 have em:Qg6 .min [.int (rk A:Int),.int (rk B:Int)]=some (.fz (.int (if (rk B:Int)<(rk A:Int) then (rk B:Int) else (rk A:Int)))):=rfl
 have c1:¬ ((if (rk B:Int)<(rk A:Int) then (rk B:Int) else (rk A:Int))<(rk (tms A B):Int)):=by split <;> omega
 have c2:decide (∀ r∈tms A B,∀ x∈r,(x:Int)=0)=decide (((rk (tms A B):Nat):Int)=0):=by
  by_cases z:∀ r∈tms A B,∀ x∈r,(x:Int)=0
  ·rw [decide_eq_true z,decide_eq_true (by have:=k4.mpr z;omega)]
  ·rw [decide_eq_false z,decide_eq_false (fun w=>z (k4.mp (by omega)))]
 rw [c2] at n1
 generalize tms A B=P at *
 generalize (rk P:Int)=rP at *
 generalize (rk A:Int)=rA at *
 generalize (rk B:Int)=rB at *
 generalize hdd:Qae n A*Qae n B=dd at *
 show Qbg (cfn (k+10)) ⟨2,3,Qd3⟩ _=_
 rw [Qaw rfl]
 show Qbr _ (exS _ Qd3 [.fz (Qm A),.fz (Qm B),.un])=_
 simp only [Qad,Qa0,Q0,Ql,Qo,Q3,Qa,Qz,yC1,Qc,Qu,yC2,Qr,Qs,Qy,Qt,Q7,Qx,e1,Qao,Qi,Qv,L2.Qj,Option.map,if_true,Qal,Qb0,Qba,frz,Qah,Qbk,length_cons,length_nil,Nat.reduceAdd,Nat.reduceLT,List.set,Qbd,Qbf,Qnk,Qa8,d1,Qa6,Qcv,d2,Qcl,d3,Qck,Qcj,cont,Out.opt,uo5,mo,hdd,Qa5,Qa4,Qa3,uc2,Qbl,decide_true,Bool.not_true,Q4,yBl,yOr,r1,Qbj,r2,r3,yBi,Qbh,Qaa,em,uc5,c1,decide_false,yB,yIf,Qbz,t1,t3,t2,e2,eT,r4,Qax,n1,Qbe,uc1,Q7p,Qby,Qaf,Qau,Qar,Qas,Q2]
noncomputable abbrev Qo5 (M:Tb):T:=.lst (M.map Qf)
theorem Q2r (M:Tb):Qq 50 (Qo5 M)=true:=by
 show (M.map Qf).all (Qq 49)=true
 rw [all_eq_true]
 intro t ht
 obtain ⟨r,_,rfl⟩:=mem_map.mp ht
 show (r.map T.int).all (Qq 48)=true
 rw [all_eq_true]
 intro u hu
 obtain ⟨i,_,rfl⟩:=mem_map.mp hu
 rfl
theorem Q55 (M:Tb):eqO (Qo5 M) (.lst [])=some (decide (M=[])):=by
 show (if Qq 50 (Qo5 M)=true∧Qq 50 (.lst [])=true then some (eqT (Qo5 M) (.lst [])) else none)=_
 rw [if_pos ⟨Q2r _,rfl⟩]
 cases M with
 | nil=>rfl
 | cons r M=>rw [decide_eq_false (fun z=>by cases z)];rfl
theorem Qae5 (xs:List Int):eqO (.lst (xs.map T.int)) (.lst (xs.map T.int))=some true:=by
 have ok:Qq 50 (.lst (xs.map T.int))=true:=by
  show (xs.map T.int).all (Qq 49)=true
  rw [all_eq_true]
  intro t ht
  obtain ⟨r,_,rfl⟩:=mem_map.mp ht
  rfl
 show (if _ then _ else _)=_
 rw [if_pos ⟨ok,ok⟩,Qjj 50 _ ok]
theorem Qvp (n:Nat):(List.replicate n [T.int 0]).flatten=(List.replicate n (0:Int)).map T.int:=by
 induction n with
 | zero=>rfl
 | succ n ih=>rw [replicate_succ,replicate_succ,List.flatten_cons,ih];rfl
theorem Q2s {n:Nat} (hn:n≤4):∀ (T':List (List Int)) (nb:List Int) (i:Nat),(∀ x∈nb,(x:Int).natAbs<2^(962*i+1))→i+T'.length≤4→(∀ s∈T',s.length=n∧ld s<n∧∀ x∈s,(x:Int).natAbs<2^959)→∀ x∈T'.foldl lsT nb,(x:Int).natAbs<2^4000
 | [],nb,i,hb,hi,_=>fun x hx=>Nat.lt_of_lt_of_le (hb x hx) (Nat.pow_le_pow_right (by decide) (by simp at hi;omega))
 | s::T',nb,i,hb,hi,hT=>by
  obtain ⟨a,b,c⟩:=hT s (.head _)
  rw [length_cons] at hi
  rw [foldl_cons]
  exact Q2s hn T' (lsT nb s) (i+1) (by
   have:=Q2o hn a b c hb
   rw [show 962*(i+1)+1=962*i+1+962 by omega]
   exact this) (by omega) fun t ht=>hT t (.tail _ ht)
theorem Qabt {n:Nat} {M:Tb} (h:Sq n M) (h1:1≤n) (h4:n≤4):∀ l∈los n (Qap lnR (tr M)),∀ x∈l,(x:Int).natAbs<2^4000:=fun l hl=>by
 obtain ⟨st,_⟩:=Qid (Qp7 h) h4
 unfold los at hl
 obtain ⟨a,ha,rfl⟩:=mem_map.mp hl
 obtain ⟨l,e,_⟩:=Qlc h h1 h4 ha
 rw [e]
 refine (Q1v (r:=nbF n (Qap lnR (tr M)) a) (Q2s h4 (Qo4 (Qap lnR (tr M))) (unl n a) 0 (fun x hx=>?_) (by rw [(Qeu _).length_eq];have:=st.le;omega) (fun s hs=>st.ok s ((Qeu _).mem_iff.mp hs))) e).2
 unfold unl at hx
 obtain ⟨j,_,rfl⟩:=mem_map.mp hx
 split <;> decide
noncomputable abbrev Qmj:E:=.comp (.rng1 (.bi .len (.cons (.var 2) .nil))) [none,some 2,some 0] (.nm 0) .nil (.bi .sum (.cons (.comp (.rng1 (.bi .len (.cons (.var 1) .nil))) [none,some 1,some 0,some 2] (.nm 0) .nil (.bin .mul (.ix (.var 1) (.var 0)) (.ix (.ix (.var 3) (.var 0)) (.var 2)))) .nil))
theorem Qabu (k:Nat) {n:Nat} {M:Tb} (h:Sq n M) (h4:n≤4) {l:List Int} (hl:l.length=n) (lb:∀ x∈l,(x:Int).natAbs<2^4000) (ho:∀ j,j<n→Qbb l (col M j)=0) {a d:Slot}:evE (cfn k) Qmj [.fz (Qm M),a,.fz (Qf l),d]=.ok (.ow (.lst ((List.replicate n (0:Int)).map T.int))) [.fz (Qm M),a,.fz (Qf l),d]:=by
 have c:l.length≤100000:=by omega
 have hw:evW (cfn k) (.rng1 (.bi .len (.cons (.var 2) .nil))) [.fz (Qm M),a,.fz (Qf l),d]=.ok (Qag 0 l.length,none) [.fz (Qm M),a,.fz (Qf l),d]:=by
  simp only [Qdc,Qbj,Ql,Qo,Q3,Qc,Qa,Qz,yC1,Qu,yC2,yBi,Qbh,Qaa,cont,Out.opt,ub2,length_map,Qiz c]
 have hcomp:evE (cfn k) Qmj [.fz (Qm M),a,.fz (Qf l),d]=.ok (.ow (.lst ((Qag 0 l.length).map fun x=>T.int (Qbb l (col M (jOf x)))))) [.fz (Qm M),a,.fz (Qf l),d] :=
  Qa2 (rest:=[.fz (Qf l),.fz (Qm M)]) hw rfl rfl rfl (fun x hx=>by
   unfold Qag at hx
   obtain ⟨j,hj,rfl⟩:=mem_map.mp hx
   have hj:=mem_range.mp hj
   have hw2:evW (cfn k) (.rng1 (.bi .len (.cons (.var 1) .nil))) [.fz (.int (0+(j:Int))),.fz (Qf l),.fz (Qm M)]=.ok (Qag 0 l.length,none) [.fz (.int (0+(j:Int))),.fz (Qf l),.fz (Qm M)]:=by
    simp only [Qdc,Qbj,Ql,Qo,Q3,Qc,Qa,Qz,yC1,Qu,yC2,yBi,Qbh,Qaa,cont,Out.opt,ub2,length_map,Qiz c]
   have hi:evE (cfn k) (.comp (.rng1 (.bi .len (.cons (.var 1) .nil))) [none,some 1,some 0,some 2] (.nm 0) .nil (.bin .mul (.ix (.var 1) (.var 0)) (.ix (.ix (.var 3) (.var 0)) (.var 2)))) [.fz (.int (0+(j:Int))),.fz (Qf l),.fz (Qm M)]=.ok (.ow (.lst ((Qag 0 l.length).map fun x=>T.int (ge l (jOf x)*ge (col M j) (jOf x))))) [.fz (.int (0+(j:Int))),.fz (Qf l),.fz (Qm M)] :=
    Qa2 (rest:=[.fz (Qf l),.fz (.int (0+(j:Int))),.fz (Qm M)]) hw2 rfl rfl rfl (fun x hx=>by
     unfold Qag at hx
     obtain ⟨i,hi,rfl⟩:=mem_map.mp hx
     have hi:=mem_range.mp hi
     have hiM:i<M.length:=by rw [h.len];omega
     have a1:=Qe3 (r:=l) (j:=i) hi
     have a2:atI (M.map Qf) (i:Int)=some (Qf (M.getD i [])):=Qhw (by rw [getElem?_map,getElem?_eq_getElem hiM,getD_eq_getElem?_getD,getElem?_eq_getElem hiM];rfl)
     have a3:=Qe3 (r:=M.getD i []) (j:=j) (by rw [Qf5 h.shp (by omega)];omega)
     have gc:=Qi9 M j i
     have mo:Qbu (ge l i) (ge (M.getD i []) j)=true:=Qic (Qht lb i) (Qht (h.bd _ (Qrg hiM)) j) (by decide) (by decide)
     refine ⟨.fz (.int (ge l i*ge (M.getD i []) j)),?_,by rw [Qei,gc];rfl⟩
     simp only [Int.zero_add,Qcv,Qge,Qo,Q3,Qc,Qa,Qz,Qfy,Qfx,Qfw,cont,Qfv,ui2,a1,Qcl,a2,a3,Qck,Qcj,Out.opt,uo5,mo,if_true]) (by rw [Qaq];omega)
   rw [Qjb (f:=fun i=>T.int (ge l i*ge (col M j) i))] at hi
   have em:((List.range l.length).map fun i=>T.int (ge l i*ge (col M j) i))=((List.range l.length).map fun i=>ge l i*ge (col M j) i).map T.int:=by rw [map_map];rfl
   rw [em] at hi
   refine ⟨.fz (.int (Qbb l (col M j))),?_,by rw [Qei];rfl⟩
   simp only [Qbj,Ql,hi,Qz,yC1,Qu,yC2,yBi,Qbh,Qaa,cont,Out.opt,ub5,Option.map,intL_mp]
   rfl) (by rw [Qaq];omega)
 rw [Qjb (f:=fun j=>T.int (Qbb l (col M j)))] at hcomp
 have em:((List.range l.length).map fun j=>T.int (Qbb l (col M j)))=(List.replicate n (0:Int)).map T.int:=by
  rw [hl,List.map_replicate]
  refine List.eq_replicate_iff.mpr ⟨by rw [length_map,length_range],fun x hx=>?_⟩
  obtain ⟨j,hj,rfl⟩:=mem_map.mp hx
  rw [ho j (mem_range.mp hj)]
 rw [em] at hcomp
 exact hcomp
noncomputable abbrev Qie:S:=.seq (.setF 3 Qmj) (.ite (.or (.cmp .ne (.var 3) (.bin .mul (.lst (.cons (.int 0) .nil)) (.bi .len (.cons (.var 2) .nil)))) (.cmp .ne (.call 25 (.cons (.var 2) .nil)) (.var 2))) (.ret (.bl false)) .nil)
theorem Q56 (k:Nat) {n:Nat} {M:Tb} (h:Sq n M) (h1:1≤n) (h4:n≤4) {l:List Int} (hl:l.length=n) (lb:∀ x∈l,(x:Int).natAbs<2^4000) (ho:∀ j,j<n→Qbb l (col M j)=0) (hi:lnR l=some l) {a d:Slot} (od:Qcu d=true):∃ d',Qcu d'=true∧exS (cfn (k+2)) Qie [.fz (Qm M),a,.fz (Qf l),d]=.nx [.fz (Qm M),a,.fz (Qf l),d']:=by
 have e1:=Qabu (k+2) h h4 hl lb ho (a:=a) (d:=d)
 have e2:=Qlb k (r:=l) (by omega) lb
 rw [hi] at e2
 have e2:cfn (k+2) 25 [.fz (Qf l)]=.ok (.fz (Qf l)) [.non]:=e2
 have en:eqO (Qf l) (Qf l)=some true:=by rw [Q49];simp
 have ez:=Qae5 (List.replicate n (0:Int))
 have w1:exS (cfn (k+2)) (.setF 3 Qmj) [.fz (Qm M),a,.fz (Qf l),d]=.nx [.fz (Qm M),a,.fz (Qf l),.fz (.lst ((List.replicate n (0:Int)).map T.int))]:=by
  rw [Qa0,e1]
  cases d <;> first | rfl | (cases od;done)
 refine ⟨.fz (.lst ((List.replicate n (0:Int)).map T.int)),rfl,?_⟩
 have c1:1*n≤100000:=by omega
 have c2:(1:Int)≤(n:Int):=by omega
 have c3:n≤100000:=by omega
 have z1:(1:Nat)≤100000:=by decide
 have em:opB .mul (.lst [T.int 0]) (.int (n:Int))=some (.ow (.lst ((List.replicate n (0:Int)).map T.int))):=by
  show (if _ then _ else _)=_
  rw [if_pos ⟨by rw [Int.toNat_natCast];exact c1,c2,by rw [Int.natAbs_natCast];exact c3⟩,Int.toNat_natCast,Qvp]
 have ll:(l.map T.int).length=n:=by rw [length_map,hl]
 rw [Qad,w1,Qbd]
 generalize (List.replicate n (0:Int)).map T.int=Z at ez em ⊢
 simp only [Qbf,Qnk,Qa8,Qo,Q3,Qc,Qa,Qz,Qa6,Qcv,Qnj,Ql,Qbe,yC1,Qu,yC2,Qsn,Qfj,frz,length_cons,length_nil,Nat.reduceAdd,z1,if_true,Qcl,Qbj,yBi,Qbh,Qaa,cont,Out.opt,ub2,ll,Qck,Qcj,em,Qa5,Qa4,Qa3,uc2,Option.map,ez,Bool.not_true,Q4,yBl,yOr,Q0,Qr,Qs,Qy,Qt,Q7,Qx,e2,Qao,Qi,Qv,L2.Qj,en,yB,Qal,yIf,Qbz]
theorem Qkg (k:Nat) {n:Nat} {M:Tb} (h:Sq n M) (h1:1≤n) (h4:n≤4):cfn (k+11) 40 [.fz (Qm M)]=.ok (.fz (.bl true)) [.non]:=by
 obtain ⟨ll,lk⟩:=Qabq h h1 h4
 have lb:=Qabt h h1 h4
 have e1:=Qabr (k+4) h h1 h4
 have e2:=Qof (k+5) h h1 h4
 have f2:(Qap lnR M).length=rk M:=rfl
 rw [f2] at e2
 have e3:=Qea k h h1 h4
 have hl:=h.len
 have le:=Q7i h.shp
 have fu:=Q5l h.shp h1 h4
 generalize los n (Qap lnR (tr M))=L at *
 have ef:∃ t2 t3,Qc0 (.nm 2) (exS (cfn (k+10)) Qie) (L.map Qf) [.fz (Qm M),.fz (Qo5 L),.un,.un]=.nx [.fz (Qm M),.fz (Qo5 L),t2,t3]:=by
  obtain ⟨ρ',e,t2,t3,_,_,rfl⟩:=Qfu (fun _ ρ=>∃ t2 t3,Qcu t2=true∧Qcu t3=true∧ρ=[.fz (Qm M),.fz (Qo5 L),t2,t3]) (tg:=.nm 2) (b:=exS (cfn (k+10)) Qie) (xs:=L.map Qf) (n:=0) (ρ:=[.fz (Qm M),.fz (Qo5 L),.un,.un]) ⟨.un,.un,rfl,rfl,rfl⟩ (by
   rintro i x ρ hx ⟨t2,t3,o2,o3,rfl⟩
   obtain ⟨l,hm,rfl⟩:=mem_map.mp (mem_of_getElem? hx)
   obtain ⟨q1,q2,q3⟩:=lk l hm
   obtain ⟨d',od,e⟩:=Q56 (k+8) h h1 h4 q1 (lb l hm) q3 q2 (a:=.fz (Qo5 L)) o3
   exact ⟨[.fz (Qm M),.fz (Qo5 L),.fz (Qf l),t3],_,(by cases t2 <;> first | rfl | cases o2),.inl e,.fz (Qf l),d',rfl,od,rfl⟩)
  exact ⟨t2,t3,e⟩
 obtain ⟨t2,t3,ef⟩:=ef
 have c1:(((L.map Qf).length:Nat):Int)=(n:Int)-(rk M:Int):=by rw [length_map,ll];omega
 have c2:(((M.map Qf).length:Nat):Int)=(n:Int):=by rw [length_map,hl]
 have eq:eqO (.lst (L.map Qf)) (.lst [])=some (decide (L=[])):=Q55 L
 have ef:Qc0 (.nm 2) (exS (cfn (k+10)) Qie) (L.map Qf) [.fz (Qm M),.fz (.lst (L.map Qf)),.un,.un]=.nx [.fz (Qm M),.fz (.lst (L.map Qf)),t2,t3]:=ef
 have ed:decide (Qae n M=0) = !decide (L=[]):=by
  by_cases z:L=[]
  ·rw [decide_eq_true z,decide_eq_false]
   ·rfl
   ·rw [z] at ll
    exact fu.mp (by simp at ll;omega)
  ·rw [decide_eq_false z,decide_eq_true]
   ·rfl
   ·refine Classical.byContradiction fun w=>z ?_
    have:=fu.mpr w
    rw [this,Nat.sub_self] at ll
    exact List.length_eq_zero_iff.mp ll
 have z0:(0:Nat)≤100000:=by decide
 show Qbg (cfn (k+10)) ⟨1,4,Qf3⟩ _=_
 rw [Qaw rfl]
 show Qbr _ (exS _ (.seq (.setF 1 (.call 35 (.cons (.var 0) .nil))) (.seq (.ite (.or (.cmp .ne (.bi .len (.cons (.var 1) .nil)) (.bin .sub (.bi .len (.cons (.var 0) .nil)) (.call 30 (.cons (.var 0) .nil)))) (.cmp .ne (.cmp .eq (.call 33 (.cons (.var 0) .nil)) (.int 0)) (.cmp .ne (.var 1) (.lst .nil)))) (.ret (.bl false)) .nil) (.seq (.for_ (.seq (.var 1)) (.nm 2) Qie) (.ret (.bl true))))) [.fz (Qm M),.un,.un,.un])=_
 generalize Qie=B0 at ef ⊢
 generalize Qae n M=dd at *
 generalize (rk M:Int)=rr at *
 have eb:=Q7p (!decide (L=[]))
 generalize (L.map Qf)=LL at *
 simp only [Qad,Qa0,Q0,Ql,Qo,Q3,Qa,Qz,yC1,Qu,yC2,Qr,Qs,Qy,Qt,Q7,Qx,e1,Qao,Qi,Qv,L2.Qj,Option.map,if_true,Qal,Qb0,Qba,frz,Qah,Qbk,length_cons,length_nil,Nat.reduceAdd,Nat.reduceLT,Qc,List.set,Qbd,Qbf,Qnk,Qa8,Qbj,yBi,Qbh,Qaa,cont,Out.opt,ub1,c1,Qa6,Qcv,ub2,c2,Qcl,e2,Qck,Qcj,uo4,Qa5,Qa4,Qa3,uc2,Qbl,decide_true,Bool.not_true,Q4,yBl,yOr,e3,Qbe,uc1,ed,Qnj,Qsn,Qfj,z0,eq,eb,yB,yIf,Qbz,Qfz,Qnn,Qsq,Qlm,Qll,Qej,Qlv,Qjv,ef,Qdg,Qax,x_bl,Qby,Qaf,Qau,Qar,Qas,Q2]
open PySem L2
theorem Qtx {n:Nat} {Ms:List Tb} (h:Tabs n Ms):∀ (ws:List Int) (X A:Tb),InR Ms.length ws→Shp n X→Shp n A→ws.foldl (go Ms) (tms X A)=tms X (ws.foldl (go Ms) A)
 | [],X,A,_,_,_=>rfl
 | w::ws,X,A,hw,hX,hA=>by
  obtain ⟨h0,h1⟩:=hw w mem_cons_self
  obtain ⟨_,q⟩:=Qls h h0 h1
  rw [foldl_cons,foldl_cons]
  show ws.foldl (go Ms) (tms (tms X A) (Ms.getD w.toNat []))=tms X (ws.foldl (go Ms) (tms A (Ms.getD w.toNat [])))
  rw [Qp4 hX hA q.shp]
  exact Qtx h ws X _ (fun p hp=>hw p (mem_cons_of_mem _ hp)) hX (Qda hA q.shp)
theorem Q57 {n:Nat} {Ms:List Tb} (h:Tabs n Ms) {u v:Int} {us vs:List Int} (hu:InR Ms.length (u::us)) (hv:InR Ms.length (v::vs)):wlk Ms (u::us++v::vs)=tms (wlk Ms (u::us)) (wlk Ms (v::vs)):=by
 obtain ⟨_,qu⟩:=Qls h (hu u mem_cons_self).1 (hu u mem_cons_self).2
 obtain ⟨_,qv⟩:=Qls h (hv v mem_cons_self).1 (hv v mem_cons_self).2
 show (us++v::vs).foldl (go Ms) (Ms.getD u.toNat [])=tms (us.foldl (go Ms) (Ms.getD u.toNat [])) (vs.foldl (go Ms) (Ms.getD v.toNat []))
 rw [List.foldl_append,foldl_cons]
 exact Qtx h vs _ _ (fun p hp=>hv p (mem_cons_of_mem _ hp)) (Qoj h us _ (fun p hp=>hu p (mem_cons_of_mem _ hp)) qu.shp) qv.shp
theorem Qxj {n:Nat} {Ms:List Tb} (h:Tabs n Ms):∀ (ws:List Int) (A:Tb) (b:Nat),InR Ms.length ws→Shp n A→Bt b A→Bt (b+40*ws.length) (ws.foldl (go Ms) A)
 | [],A,b,_,_,hb=>hb
 | w::ws,A,b,hw,hA,hb=>by
  obtain ⟨h0,h1⟩:=hw w mem_cons_self
  obtain ⟨_,q⟩:=Qls h h0 h1
  have:=Qxj h ws (go Ms A w) (b+37+3) (fun p hp=>hw p (mem_cons_of_mem _ hp)) (Qda hA q.shp) (Qld h.n4 hA hb q.bt)
  rw [length_cons,show b+40*(ws.length+1)=b+37+3+40*ws.length by omega]
  exact this
theorem Q2t {n:Nat} {Ms:List Tb} (h:Tabs n Ms) {w:Int} {ws:List Int} (hw:InR Ms.length (w::ws)):Shp n (wlk Ms (w::ws))∧Bt (37+40*ws.length) (wlk Ms (w::ws)):=by
 obtain ⟨_,q⟩:=Qls h (hw w mem_cons_self).1 (hw w mem_cons_self).2
 have hw':InR Ms.length ws:=fun p hp=>hw p (mem_cons_of_mem _ hp)
 exact ⟨Qoj h ws _ hw' q.shp,Qxj h ws _ 37 hw' q.shp q.bt⟩
noncomputable def TbP (n:Nat) (_ y:T):Prop:=∃ M:Tb,y=Qm M∧Sb n M
noncomputable abbrev Qrs:E:=.comp (.rng1 (.int 3)) [none,some 2,some 3,some 4] (.nm 0) .nil (.call 38 (.cons (.var 1) (.cons (.var 2) (.cons (.var 3) .nil))))
theorem Q58 (k:Nat) {n:Nat} (hn:n≤4) {w:Int} {q:T} (hq:Qe4 q) {a b s5 s6 s7 s8 s9 sa sb:Slot}:∃ (A B C:Tb) (q':T),Sb n A∧Sb n B∧Sb n C∧Qe4 q'∧evE (cfn (k+2)) Qrs [a,b,.ow q,.fz (.int n),.fz (.int w),s5,s6,s7,s8,s9,sa,sb]=.ok (.ow (.lst [Qm A,Qm B,Qm C])) [a,b,.ow q',.fz (.int n),.fz (.int w),s5,s6,s7,s8,s9,sa,sb]:=by
 have hw:evW (cfn (k+2)) (.rng1 (.int 3)) [a,b,.ow q,.fz (.int n),.fz (.int w),s5,s6,s7,s8,s9,sa,sb]=.ok (Qag 0 3,none) [a,b,.ow q,.fz (.int n),.fz (.int w),s5,s6,s7,s8,s9,sa,sb]:=by
  have r:=Qiz (n:=3) (ρ:=[a,b,.ow q,.fz (.int n),.fz (.int w),s5,s6,s7,s8,s9,sa,sb]) (by decide)
  simp only [Qdc,Qbe,Qz]
  exact r
 obtain ⟨ys,q',e,p,f⟩:=Qaay (cf:=cfn (k+2)) (P:=Qe4) (F:=TbP n) (rest:=fun q=>[.ml q,.fz (.int n),.fz (.int w)]) (w:=.rng1 (.int 3)) (js:=[none,some 2,some 3,some 4]) (e:=.call 38 (.cons (.var 1) (.cons (.var 2) (.cons (.var 3) .nil)))) (ρ:=[a,b,.ow q,.fz (.int n),.fz (.int w),s5,s6,s7,s8,s9,sa,sb])
  (ρ':=fun q'=>[a,b,.ow q',.fz (.int n),.fz (.int w),s5,s6,s7,s8,s9,sa,sb]) hq hw rfl (fun s q'=>rfl) rfl (fun s q' _=>rfl) (fun x hx q hq=>by
   obtain ⟨M,q1,hM,p1,e1⟩:=Q54 k hn (w:=w) hq
   refine ⟨.fz (Qm M),Qm M,q1,?_,rfl,p1,M,rfl,hM.sb⟩
   simp only [Q0,Ql,Qo,Q3,Qc,Qa,Qz,yC1,Qu,yC2,Qr,Qs,all_cons,all_nil,Bool.and_true,Qy,Qt,Q7,Qx,e1,Qao,Qi,Qv,L2.Qj,reduceCtorEq,Option.map,if_false,Nat.reduceAdd,if_true,getElem?_cons_zero,Slot.put,Nat.reduceEqDiff]) (by rw [Qaq];decide)
 have eu:Qag 0 3=[.int 0,.int 1,.int 2]:=rfl
 rw [eu] at f
 cases f with
 | cons f1 f =>
  cases f with
  | cons f2 f =>
   cases f with
   | cons f3 f =>
    cases f
    obtain ⟨A,rfl,hA⟩:=f1
    obtain ⟨B,rfl,hB⟩:=f2
    obtain ⟨C,rfl,hC⟩:=f3
    exact ⟨A,B,C,q',hA,hB,hC,p,e⟩
theorem Q2u (xs:List T):Qel xs none (some (-1))=xs.take (xs.length-1):=by
 unfold Qel HT.sIx
 simp
 try omega
theorem Q2v {n:Nat} {B:Tb} (h1:1≤n) (h:Sb n B):Sb n (B.take (n-1)++B.take 1):=by
 have hl:=h.shp.len
 have hm:∀ r∈B.take (n-1)++B.take 1,r∈B:=fun r hr=>(mem_append.mp hr).elim mem_of_mem_take mem_of_mem_take
 exact ⟨⟨by rw [length_append,length_take,length_take,hl];omega,fun r hr=>h.shp.row r (hm r hr)⟩,fun r hr=>h.bt r (hm r hr)⟩
noncomputable abbrev Q2w:S:=.ite (.cmp .eq (.call 37 (.cons (.var 2) (.cons (.int 2) .nil))) (.int 0)) (.put 5 (.int 1) (.bin .add (.slc (.ix (.var 5) (.int 1)) .nil (.cons (.neg (.int 1)) .nil)) (.slc (.ix (.var 5) (.int 1)) .nil (.cons (.int 1) .nil)))) .nil
theorem Qae6 (k:Nat) {n:Nat} (h1:1≤n) (hn:n≤4) {A B C:Tb} (hB:Sb n B) {q:T} (hq:Qe4 q) {a b s3 s4 s6 s7 s8 s9 sa sb:Slot}:∃ (B':Tb) (q':T),Sb n B'∧Qe4 q'∧exS (cfn (k+1)) Q2w [a,b,.ow q,s3,s4,.ow (.lst [Qm A,Qm B,Qm C]),s6,s7,s8,s9,sa,sb]=.nx [a,b,.ow q',s3,s4,.ow (.lst [Qm A,Qm B',Qm C]),s6,s7,s8,s9,sa,sb]:=by
 obtain ⟨r,q1,r0,r1,p1,e1⟩:=Qgx k (m:=2) (by decide) (by decide) hq
 have hl:=hB.shp.len
 by_cases z:r=0
 ·subst z
  refine ⟨B.take (n-1)++B.take 1,q1,Q2v h1 hB,p1,?_⟩
  have c1:=Q2u (B.map Qf)
  have c2:Qel (B.map Qf) none (some 1)=(B.map Qf).take 1:=Qod (B.map Qf) 1
  have a1:atI [Qm A,Qm B,Qm C] 1=some (.tup (B.map Qf)):=rfl
  have i1:ixN 3 1=some 1:=rfl
  have ea:opB .add (.tup ((B.map Qf).take ((B.map Qf).length-1))) (.tup ((B.map Qf).take 1))=some (.fz (Qm (B.take (n-1)++B.take 1))):=by
   show (if _ then _ else _)=_
   rw [if_pos (by rw [length_take,length_take,length_map];omega),length_map,hl,←map_take,←map_take,←map_append]
  generalize (B.map Qf).take ((B.map Qf).length-1)=U at c1 ea
  generalize (B.map Qf).take 1=V at c2 ea
  simp only [Qbf,Qa8,Q0,Ql,Qo,Q3,Qc,Qa,Qz,yC1,Qbe,Qu,yC2,Qr,Qs,all_cons,all_nil,Bool.and_true,Qy,Qt,Q7,Qx,e1,Qao,Qi,Qv,L2.Qj,reduceCtorEq,Option.map,if_false,Nat.reduceAdd,Nat.reduceEqDiff,if_true,getElem?_cons_zero,Slot.put,Qa6,Qa5,Qa4,cont,Qa3,uc1,Qbl,decide_true,Q4,yBl,Qal,yIf,Qwo,Qcv,Qpy,Qge,Qfy,Qfx,Qfw,Slot.prv,Qfv,ui1,a1,Quo,Qun,Qnm,Qjl,Qso,Qyf,Int.reduceNeg,Qum,Qnl,Qul,Out.opt,ui4,c1,Qcl,c2,Qck,Qcj,ea,Qyg,Qst,frz,Slot.mut,Qp1,Qss,Qah,length_cons,length_nil,i1,List.set]
 ·refine ⟨B,q1,hB,p1,?_⟩
  simp only [Qbf,Qa8,Q0,Ql,Qo,Q3,Qc,Qa,Qz,yC1,Qbe,Qu,yC2,Qr,Qs,all_cons,all_nil,Bool.and_true,Qy,Qt,Q7,Qx,e1,Qao,Qi,Qv,L2.Qj,reduceCtorEq,Option.map,if_false,Nat.reduceAdd,Nat.reduceEqDiff,if_true,getElem?_cons_zero,Slot.put,Qa6,Qa5,Qa4,cont,Qa3,uc1,Qbl,z,decide_false,Q4,yBl,Qal,yIf,Qbz]
open PySem L2
structure Tr (n:Nat) (A B C:Tb):Prop where
 n1:1≤n
 n4:n≤4
 a:Sb n A
 b:Sb n B
 c:Sb n C
theorem Tr.tabs {n:Nat} {A B C:Tb} (h:Tr n A B C):Tabs n [A,B,C]:=⟨h.n1,h.n4,by show 1≤3;decide,by show 3≤4;decide,fun M hM=>by
 rcases mem_cons.mp hM with rfl | hM
 ·exact h.a
 rcases mem_cons.mp hM with rfl | hM
 ·exact h.b
 rw [mem_singleton.mp hM]
 exact h.c⟩
noncomputable abbrev en (q:T) (m:Int) (n:Nat) (w:Int) (A B C:Tb) (s9 sa sb:Slot):En:=[.un,.fz (.int m),.ow q,.fz (.int n),.fz (.int w),.fz (Qbc [A,B,C]),.fz (Qm A),.fz (Qm B),.fz (Qm C),s9,sa,sb]
noncomputable abbrev whT (A B C:Tb):Tb:=tms (tms A B) C
theorem Tr.wh {n:Nat} {A B C:Tb} (h:Tr n A B C):Shp n (whT A B C)∧Bt 117 (whT A B C):=by
 have hP:=Qda h.a.shp h.b.shp
 have bP:=Qld h.n4 h.a.shp h.a.bt h.b.bt
 exact ⟨Qda hP h.c.shp,Qld h.n4 hP bP h.c.bt⟩
noncomputable abbrev l_s9:S:=.setF 9 (.call 19 (.cons (.call 19 (.cons (.var 6) (.cons (.var 7) .nil))) (.cons (.var 8) .nil)))
theorem t_s9 (k:Nat) {n:Nat} {A B C:Tb} (h:Tr n A B C) {q:T} {m w:Int}:exS (cfn (k+5)) l_s9 (en q m n w A B C .un .un .un)=.nx (en q m n w A B C (.fz (Qm (whT A B C))) .un .un):=by
 have hP:=Qda h.a.shp h.b.shp
 have e1:=Qd4 k h.a.shp h.b.shp h.n1 h.n4 (Qol h.a.bt h.b.bt (by decide) (by decide))
 have e2:=Qd4 k hP h.c.shp h.n1 h.n4 (Qol (Qld h.n4 h.a.shp h.a.bt h.b.bt) h.c.bt (by decide) (by decide))
 unfold en
 generalize Qbc [A,B,C]=TT
 simp only [Qa0,Q0,Ql,Qo,Q3,Qc,Qa,Qz,yC1,Qu,yC2,Qr,Qs,Qy,Qt,Q7,Qx,e1,Qao,Qi,Qv,L2.Qj,Option.map,if_true,e2,Qal,Qb0,Qba,frz,Qah,Qbk,length_cons,length_nil,Nat.reduceAdd,Nat.reduceLT,List.set]
noncomputable abbrev l_i1:S:=.ite (.or (.cmp .ne (.call 19 (.cons (.var 6) (.cons (.call 19 (.cons (.var 7) (.cons (.var 8) .nil))) .nil))) (.var 9)) (.cmp .ne (.call 20 (.cons (.var 5) (.cons (.tup (.cons (.int 0) (.cons (.int 1) (.cons (.int 2) .nil)))) .nil))) (.var 9))) (.ret (.bl false)) .nil
theorem t_i1 (k:Nat) {n:Nat} {A B C:Tb} (h:Tr n A B C) {q:T} {m w:Int}:exS (cfn (k+6)) l_i1 (en q m n w A B C (.fz (Qm (whT A B C))) .un .un)=.nx (en q m n w A B C (.fz (Qm (whT A B C))) .un .un):=by
 have hP:=Qda h.b.shp h.c.shp
 have e1:=Qd4 (k+1) h.b.shp h.c.shp h.n1 h.n4 (Qol h.b.bt h.c.bt (by decide) (by decide))
 have e2:=Qd4 (k+1) h.a.shp hP h.n1 h.n4 (Qol h.a.bt (Qld h.n4 h.b.shp h.b.bt h.c.bt) (by decide) (by decide))
 rw [←Qp4 h.a.shp h.b.shp h.c.shp] at e2
 have e2:cfn (k+6) 19 [.fz (Qm A),.fz (Qm (tms B C))]=.ok (.fz (Qm (whT A B C))) [.non,.non]:=e2
 have e3:=Qmh k h.tabs (w:=0) (ws:=[1,2]) (fun p hp=>by
  show 0≤p∧p<3
  rcases mem_cons.mp hp with rfl | hp
  ·decide
  rcases mem_cons.mp hp with rfl | hp
  ·decide
  rw [mem_singleton.mp hp];decide) (by decide)
 have e3:cfn (k+6) 20 [.fz (Qbc [A,B,C]),.fz (.tup [.int 0,.int 1,.int 2])]=.ok (.fz (Qm (whT A B C))) [.non,.non]:=e3
 have eq:=Qrp (whT A B C)
 have z3:(3:Nat)≤100000:=by decide
 unfold en
 generalize Qbc [A,B,C]=TT at e3 ⊢
 generalize whT A B C=WW at *
 simp only [Qbf,Qnk,Qa8,Q0,Ql,Qo,Q3,Qc,Qa,Qz,yC1,Qu,yC2,Qr,Qs,Qy,Qt,Q7,Qx,e1,Qao,Qi,Qv,L2.Qj,Option.map,if_true,e2,Qa6,Qa5,Qa4,cont,Qa3,uc2,eq,Bool.not_true,Q4,yBl,yOr,Q7c,Qbe,yTup,Qfj,frz,length_cons,length_nil,Nat.reduceAdd,z3,e3,yB,Qal,yIf,Qbz]
noncomputable abbrev l_i2:S:=.ite (.or (.not (.call 39 (.cons (.var 6) (.cons (.var 7) .nil)))) (.or (.not (.call 39 (.cons (.var 7) (.cons (.var 8) .nil)))) (.not (.call 40 (.cons (.var 7) .nil))))) (.ret (.bl false)) .nil
theorem t_i2 (k:Nat) {n:Nat} {A B C:Tb} (h:Tr n A B C) {q:T} {m w:Int} {s9:Slot}:exS (cfn (k+11)) l_i2 (en q m n w A B C s9 .un .un)=.nx (en q m n w A B C s9 .un .un):=by
 have e1:=Q2q k h.n1 h.n4 h.a.shp h.b.shp h.a.bt h.b.bt (by decide)
 have e2:=Q2q k h.n1 h.n4 h.b.shp h.c.shp h.b.bt h.c.bt (by decide)
 have e3:=Qkg k (Qtw h.b.shp h.b.bt (by decide)) h.n1 h.n4
 unfold en
 generalize Qbc [A,B,C]=TT
 simp only [Qbf,Qnk,Qhg,Q0,Ql,Qo,Q3,Qc,Qa,Qz,yC1,Qu,yC2,Qr,Qs,Qy,Qt,Q7,Qx,e1,Qao,Qi,Qv,L2.Qj,Option.map,if_true,Q4,yBl,Qlw,Bool.not_true,yOr,e2,e3,yB,Qal,yIf,Qbz]
noncomputable def Pl3 (_ y:T):Prop:=∃ v:Int,y=.int v∧0≤v∧v<3
theorem Q59 {xs ys:List T} (h:All2 Pl3 xs ys):∃ r:List Int,ys=r.map T.int∧r.length=xs.length∧InR 3 r:=by
 induction h with
 | nil=>exact ⟨[],rfl,rfl,fun v hv=>(nomatch hv)⟩
 | cons f _ ih =>
  obtain ⟨v,rfl,hv⟩:=f
  obtain ⟨r,rfl,hl,hr⟩:=ih
  refine ⟨v::r,rfl,by rw [length_cons,length_cons,hl],fun w hw=>?_⟩
  rcases mem_cons.mp hw with rfl | hw
  ·exact hv
  ·exact hr w hw
theorem Q6a {cf:CF} {P:T→Prop} {F:T→T→Prop} {rest:T→En} {w:W} {js:List (Option Nat)} {e:E} {ρ0 ρ:En} {ρ':T→En} {xs:List T} {q:T} (hq:P q) (hw:evW cf w ρ0=.ok (xs,none) ρ) (hcap:Qcp js ρ=.un::rest q) (hk:∀ s q',Qec (.un::rest q) (s::rest q')=true) (hap:Qbx js=true) (hb:∀ s q',Qcu s=true→Qjm js (s::rest q') ρ=ρ' q')
  (he:∀ x∈xs,∀ q,P q→∃ r y q',evE cf e (.fz x::rest q)=.ok r (.fz x::rest q')∧frz r=some y∧P q'∧F x y) (hz:xs.length≤100000) :
  ∃ ys q',evE cf (.comp w js (.nm 0) .nil e) ρ0=.ok (.ow (.lst ys)) (ρ' q')∧P q'∧All2 F xs ys:=by
 obtain ⟨s,ys,q',e1,o,p1,f1⟩:=Qks (cf:=cf) (el:=evE cf e) (rest:=rest) (P:=P) (F:=F) (xs:=xs) (acc:=[]) (s0:=.un) (q:=q) rfl hq he (by simpa using hz)
 refine ⟨ys,q',?_,p1,f1⟩
 unfold evE
 rw [hw]
 simp only [Out.bind,hcap,e1]
 rw [if_pos ⟨hk s q',hap⟩,hb s q' o]
 rfl
noncomputable abbrev Q7q:S:=.setF 10 (.bi .tup (.cons (.comp (.rng1 (.bin .add (.int 2) (.call 37 (.cons (.var 2) (.cons (.int 4) .nil))))) [none,some 2] (.nm 0) .nil (.call 37 (.cons (.var 1) (.cons (.int 3) .nil)))) .nil))
theorem Qafa (k:Nat) {n:Nat} {A B C:Tb} {q:T} (hq:Qe4 q) {m w:Int} {s9:Slot}:∃ (ws:List Int) (q':T),Qe4 q'∧2≤ws.length∧ws.length≤5∧InR 3 ws∧exS (cfn (k+1)) Q7q (en q m n w A B C s9 .un .un)=.nx (en q' m n w A B C s9 (.fz (Qf ws)) .un):=by
 obtain ⟨r,q1,r0,r4,p1,e1⟩:=Qgx k (m:=4) (by decide) (by decide) hq
 obtain ⟨d,hd⟩:=Int.eq_ofNat_of_zero_le (show 0≤2+r by omega)
 have c:d≤100000:=by omega
 generalize hT:Qbc [A,B,C]=TT
 have hw:evW (cfn (k+1)) (.rng1 (.bin .add (.int 2) (.call 37 (.cons (.var 2) (.cons (.int 4) .nil))))) [.un,.fz (.int m),.ow q,.fz (.int n),.fz (.int w),.fz TT,.fz (Qm A),.fz (Qm B),.fz (Qm C),s9,.un,.un]=.ok (Qag 0 d,none) [.un,.fz (.int m),.ow q1,.fz (.int n),.fz (.int w),.fz TT,.fz (Qm A),.fz (Qm B),.fz (Qm C),s9,.un,.un]:=by
  simp only [Qdc,Qcv,Qbe,Qz,Qcl,Q0,Ql,Qo,Q3,Qc,Qa,yC1,Qu,yC2,Qr,Qs,all_cons,all_nil,Bool.and_true,Qy,Qt,Q7,Qx,e1,Qao,Qi,Qv,L2.Qj,reduceCtorEq,Option.map,if_false,Nat.reduceAdd,Nat.reduceEqDiff,if_true,getElem?_cons_zero,Slot.put,Qck,Qcj,cont,Out.opt,uo1,hd,Qiz c]
 obtain ⟨ys,q',e,p,f⟩:=Q6a (cf:=cfn (k+1)) (P:=Qe4) (F:=Pl3) (rest:=fun q=>[.ml q]) (w:=.rng1 (.bin .add (.int 2) (.call 37 (.cons (.var 2) (.cons (.int 4) .nil))))) (js:=[none,some 2]) (e:=.call 37 (.cons (.var 1) (.cons (.int 3) .nil))) (ρ0:=[.un,.fz (.int m),.ow q,.fz (.int n),.fz (.int w),.fz TT,.fz (Qm A),.fz (Qm B),.fz (Qm C),s9,.un,.un]) (ρ:=[.un,.fz (.int m),.ow q1,.fz (.int n),.fz (.int w),.fz TT,.fz (Qm A),.fz (Qm B),.fz (Qm C),s9,.un,.un])
  (ρ':=fun q'=>[.un,.fz (.int m),.ow q',.fz (.int n),.fz (.int w),.fz TT,.fz (Qm A),.fz (Qm B),.fz (Qm C),s9,.un,.un]) p1 hw rfl (fun s q'=>rfl) rfl (fun s q' _=>rfl) (fun x hx q hq=>by
   obtain ⟨v,q2,v0,v1,p2,e2⟩:=Qgx k (m:=3) (by decide) (by decide) hq
   refine ⟨.fz (.int v),.int v,q2,?_,rfl,p2,v,rfl,v0,v1⟩
   simp only [Q0,Ql,Qo,Q3,Qc,Qa,Qz,yC1,Qbe,Qu,yC2,Qr,Qs,all_cons,all_nil,Bool.and_true,Qy,Qt,Q7,Qx,e2,Qao,Qi,Qv,L2.Qj,reduceCtorEq,Option.map,if_false,Nat.reduceAdd,if_true,getElem?_cons_zero,Slot.put]) (by rw [Qaq];omega)
 obtain ⟨ws,rfl,hl,hi⟩:=Q59 f
 rw [Qaq] at hl
 refine ⟨ws,q',p,by omega,by omega,hi,?_⟩
 have e':evE (cfn (k+1)) (.bi .tup (.cons (.comp (.rng1 (.bin .add (.int 2) (.call 37 (.cons (.var 2) (.cons (.int 4) .nil))))) [none,some 2] (.nm 0) .nil (.call 37 (.cons (.var 1) (.cons (.int 3) .nil)))) .nil)) [.un,.fz (.int m),.ow q,.fz (.int n),.fz (.int w),.fz TT,.fz (Qm A),.fz (Qm B),.fz (Qm C),s9,.un,.un]=.ok (.fz (Qf ws)) [.un,.fz (.int m),.ow q',.fz (.int n),.fz (.int w),.fz TT,.fz (Qm A),.fz (Qm B),.fz (Qm C),s9,.un,.un]:=by
  simp only [Qbj,Ql,e,Qz,yC1,Qu,yC2,yBi,Qbh,Qaa,cont,Out.opt,ub9]
 unfold en
 rw [hT,Qa0,e']
 rfl
noncomputable abbrev Q7r:S:=.setF 11 (.bin .add (.int 1) (.call 37 (.cons (.var 2) (.cons (.bin .sub (.bi .len (.cons (.var 10) .nil)) (.int 1)) .nil))))
theorem Qafb (k:Nat) {n:Nat} {A B C:Tb} {q:T} (hq:Qe4 q) {m w:Int} {s9:Slot} {ws:List Int} (h2:2≤ws.length) (h5:ws.length≤5):∃ (d:Nat) (q':T),Qe4 q'∧1≤d∧d<ws.length∧exS (cfn (k+1)) Q7r (en q m n w A B C s9 (.fz (Qf ws)) .un)=.nx (en q' m n w A B C s9 (.fz (Qf ws)) (.fz (.int (d:Int)))):=by
 obtain ⟨r,q1,r0,r4,p1,e1⟩:=Qgx k (m:=(ws.length:Int)-1) (by omega) (by omega) hq
 obtain ⟨d,hd⟩:=Int.eq_ofNat_of_zero_le (show 0≤1+r by omega)
 refine ⟨d,q1,p1,by omega,by omega,?_⟩
 unfold en
 generalize Qbc [A,B,C]=TT
 simp only [Qa0,Qcv,Qbe,Qz,Qcl,Q0,Ql,Qo,Q3,Qc,Qa,yC1,Qbj,Qu,yC2,yBi,Qbh,Qaa,cont,Out.opt,ub2,length_map,Qck,Qcj,uo4,Qr,Qs,all_cons,all_nil,Bool.and_true,Qy,Qt,Q7,Qx,e1,Qao,Qi,Qv,L2.Qj,reduceCtorEq,Option.map,if_false,Nat.reduceAdd,Nat.reduceEqDiff,if_true,getElem?_cons_zero,Slot.put,uo1,hd,Qal,Qb0,Qba,frz,Qah,Qbk,length_cons,length_nil,Nat.reduceLT,List.set]
noncomputable abbrev l_i3:S:=.ite (.cmp .ne (.call 20 (.cons (.var 5) (.cons (.var 10) .nil))) (.call 19 (.cons (.call 20 (.cons (.var 5) (.cons (.slc (.var 10) .nil (.cons (.var 11) .nil)) .nil))) (.cons (.call 20 (.cons (.var 5) (.cons (.slc (.var 10) (.cons (.var 11) .nil) .nil) .nil))) .nil)))) (.ret (.bl false)) .nil
theorem Q2x (xs:List T) (k:Nat):Qel xs (some (k:Int)) none=xs.drop k:=by
 unfold Qel
 rw [HT.sIx_none,HT.sIx_nat]
 by_cases h:k≤xs.length
 ·rw [Nat.min_eq_left h,take_of_length_le (by rw [length_drop];omega)]
 ·rw [Nat.min_eq_right (by omega),List.drop_length,List.drop_of_length_le (show xs.length≤k by omega),List.take_nil]
theorem t_i3 (k:Nat) {n:Nat} {A B C:Tb} (h:Tr n A B C) {q:T} {m w:Int} {s9:Slot} {ws:List Int} (h5:ws.length≤5) (hi:InR 3 ws) {d:Nat} (d1:1≤d) (d2:d<ws.length):exS (cfn (k+6)) l_i3 (en q m n w A B C s9 (.fz (Qf ws)) (.fz (.int (d:Int))))=.nx (en q m n w A B C s9 (.fz (Qf ws)) (.fz (.int (d:Int)))):=by
 have ht:=h.tabs
 obtain ⟨u,us,hu⟩:∃ u us,ws.take d=u::us:=by
  cases e:ws.take d with
  | nil=>have:=congrArg List.length e;rw [length_take,length_nil] at this;omega
  | cons u us=>exact ⟨u,us,rfl⟩
 obtain ⟨v,vs,hv⟩:∃ v vs,ws.drop d=v::vs:=by
  cases e:ws.drop d with
  | nil=>have:=congrArg List.length e;rw [length_drop,length_nil] at this;omega
  | cons v vs=>exact ⟨v,vs,rfl⟩
 have iu:InR [A,B,C].length (u::us):=fun p hp=>hi p (mem_of_mem_take (i:=d) (by rw [hu];exact hp))
 have iv:InR [A,B,C].length (v::vs):=fun p hp=>hi p (List.mem_of_mem_drop (i:=d) (by rw [hv];exact hp))
 have lu:=congrArg List.length hu
 have lv:=congrArg List.length hv
 rw [length_take,length_cons] at lu
 rw [length_drop,length_cons] at lv
 have ew:ws=u::us++v::vs:=by rw [←hu,←hv,List.take_append_drop]
 have c1:Qel (ws.map T.int) none (some (d:Int))=(u::us).map T.int:=by rw [Qod,←map_take,hu]
 have c2:Qel (ws.map T.int) (some (d:Int)) none=(v::vs).map T.int:=by rw [Q2x,←List.map_drop,hv]
 have e1:=Qmh k ht (w:=u) (ws:=us) iu (by rw [length_cons];omega)
 have e2:=Qmh k ht (w:=v) (ws:=vs) iv (by rw [length_cons];omega)
 have e1:cfn (k+6) 20 [.fz (Qbc [A,B,C]),.fz (.tup ((u::us).map T.int))]=.ok (.fz (Qm (wlk [A,B,C] (u::us)))) [.non,.non]:=e1
 have e2:cfn (k+6) 20 [.fz (Qbc [A,B,C]),.fz (.tup ((v::vs).map T.int))]=.ok (.fz (Qm (wlk [A,B,C] (v::vs)))) [.non,.non]:=e2
 have e3:=Qmh k ht (w:=u) (ws:=us++v::vs) (fun p hp=>by
  rcases mem_append.mp (show p∈(u::us)++v::vs from hp) with z | z
  ·exact iu p z
  ·exact iv p z) (by rw [length_cons,length_append,length_cons];omega)
 have e3:cfn (k+6) 20 [.fz (Qbc [A,B,C]),.fz (Qf (u::us++v::vs))]=.ok (.fz (Qm (wlk [A,B,C] (u::us++v::vs)))) [.non,.non]:=e3
 rw [←ew] at e3
 rw [ew,Q57 ht iu iv,←ew] at e3
 obtain ⟨s1,b1⟩:=Q2t ht iu
 obtain ⟨s2,b2⟩:=Q2t ht iv
 have e4:=Qd4 (k+1) s1 s2 h.n1 h.n4 (Qol b1 b2 (by omega) (by omega))
 have eq:=Qrp (tms (wlk [A,B,C] (u::us)) (wlk [A,B,C] (v::vs)))
 unfold en
 generalize Qbc [A,B,C]=TT at e1 e2 e3 ⊢
 generalize wlk [A,B,C] (u::us)=U at *
 generalize wlk [A,B,C] (v::vs)=V at *
 generalize (u::us).map T.int=LU at *
 generalize (v::vs).map T.int=LV at *
 generalize tms U V=UV at *
 simp only [Qbf,Qa8,Q0,Ql,Qo,Q3,Qc,Qa,Qz,yC1,Qu,yC2,Qr,Qs,Qy,Qt,Q7,Qx,e3,Qao,Qi,Qv,L2.Qj,Option.map,if_true,Qa6,Qpy,Quo,Qun,Qnm,Qjl,Qum,Qnl,Qul,cont,Out.opt,ui4,c1,e1,c2,e2,e4,Qa5,Qa4,Qa3,uc2,eq,Bool.not_true,Q4,yBl,Qal,yIf,Qbz]
noncomputable abbrev l_i4:S:=.ite (.or (.cmp .isnn (.call 13 (.cons (.var 5) .nil)) .non) (.not (.bi .all (.cons (.comp (.seq (.var 5)) [none] (.nm 0) .nil (.call 12 (.cons (.var 0) .nil))) .nil)))) (.ret (.bl false)) .nil
theorem t_i4 (k:Nat) {n:Nat} {A B C:Tb} (h:Tr n A B C) {q:T} {m w:Int} {s9 sa sb:Slot}:exS (cfn (k+5)) l_i4 (en q m n w A B C s9 sa sb)=.nx (en q m n w A B C s9 sa sb):=by
 have e1:=Qoh k h.tabs
 have hc:evE (cfn (k+5)) (.comp (.seq (.var 5)) [none] (.nm 0) .nil (.call 12 (.cons (.var 0) .nil))) (en q m n w A B C s9 sa sb)=.ok (.ow (.lst (([A,B,C].map Qm).map fun _=>T.bl true))) (en q m n w A B C s9 sa sb) :=
  Qa2 (rest:=[]) rfl rfl rfl rfl (fun x hx=>by
   obtain ⟨M,hM,rfl⟩:=mem_map.mp hx
   have e:=Qvl (k+1) (h.tabs.sq M hM) h.n1 h.n4
   refine ⟨.fz (.bl true),?_,rfl⟩
   simp only [Q0,Ql,Qo,Q3,Qa,Qz,yC1,Qu,yC2,Qr,Qs,Qy,Qt,Q7,Qx,e,Qao,Qi,Qv,L2.Qj,Option.map,if_true]) (by show 3≤100000;decide)
 unfold en at hc ⊢
 generalize hT:Qbc [A,B,C]=TT at e1 hc ⊢
 generalize ([A,B,C].map Qm)=L3 at hc
 simp only [Qbf,Qnk,Qa8,Q0,Ql,Qo,Q3,Qc,Qa,Qz,yC1,Qu,yC2,Qr,Qs,Qy,Qt,Q7,Qx,e1,Qao,Qi,Qv,L2.Qj,Option.map,if_true,Qa6,Qlk,Qa5,Qa4,cont,Qa3,uc8,Qew,Bool.not_true,Q4,yBl,yOr,Qhg,Qbj,hc,yBi,Qbh,Qaa,Out.opt,ub3,Qjw,Qnq,Qlw,yB,Qal,yIf,Qbz]
noncomputable abbrev l_i5:S:=.ite (.or (.not (.call 40 (.cons (.var 9) .nil))) (.cmp .ne (.call 22 (.cons (.call 22 (.cons (.var 9) .nil)) .nil)) (.var 9))) (.ret (.bl false)) .nil
theorem t_i5 (k:Nat) {n:Nat} {A B C:Tb} (h:Tr n A B C) {q:T} {m w:Int} {sa sb:Slot}:exS (cfn (k+11)) l_i5 (en q m n w A B C (.fz (Qm (whT A B C))) sa sb)=.nx (en q m n w A B C (.fz (Qm (whT A B C))) sa sb):=by
 obtain ⟨s,b⟩:=h.wh
 have e1:=Qkg k (Qtw s b (by decide)) h.n1 h.n4
 have e2:=Qhv (k+6) s h.n1 h.n4
 have e3:=Qhv (k+6) (Qdh s) h.n1 h.n4
 rw [Q7h s h.n1 h.n4] at e3
 have eq:=Qrp (whT A B C)
 unfold en
 generalize Qbc [A,B,C]=TT
 generalize whT A B C=WW at *
 simp only [Qbf,Qnk,Qhg,Q0,Ql,Qo,Q3,Qc,Qa,Qz,yC1,Qu,yC2,Qr,Qs,Qy,Qt,Q7,Qx,e1,Qao,Qi,Qv,L2.Qj,Option.map,if_true,Q4,yBl,Qlw,Bool.not_true,yOr,Qa8,e2,e3,Qa6,Qa5,Qa4,cont,Qa3,uc2,eq,yB,Qal,yIf,Qbz]
theorem Q2y:∀ m:Int,∃ ρ',exS (cfn 14) Q1k ((uns 12).set 1 (.fz (.int m)))=.nx ρ'∧ρ'.length=12:=by
 intro m
 obtain ⟨q,hq,e0⟩:=Qae3 13 m
 obtain ⟨r,q1,r0,r4,p1,e1⟩:=Qgx 13 (m:=4) (by decide) (by decide) hq
 obtain ⟨w,q2,w0,w3,p2,e2⟩:=Qgx 13 (m:=3) (by decide) (by decide) p1
 obtain ⟨n,hn⟩:=Int.eq_ofNat_of_zero_le (show 0≤1+r by omega)
 obtain ⟨A,B0,C,q3,hA,hB0,hC,p3,e3⟩:=Q58 12 (show n≤4 by omega) (w:=w) p2 (a:=.un) (b:=.fz (.int m)) (s5:=.un) (s6:=.un) (s7:=.un) (s8:=.un) (s9:=.un) (sa:=.un) (sb:=.un)
 obtain ⟨B,q4,hB,p4,e4⟩:=Qae6 13 (show 1≤n by omega) (show n≤4 by omega) (A:=A) (C:=C) hB0 p3 (a:=.un) (b:=.fz (.int m)) (s3:=.fz (.int n)) (s4:=.fz (.int w)) (s6:=.un) (s7:=.un) (s8:=.un) (s9:=.un) (sa:=.un) (sb:=.un)
 have h:Tr n A B C:=⟨by omega,by omega,hA,hB,hC⟩
 obtain ⟨ws,q5,p5,l2,l5,hi,e5⟩:=Qafa 13 (n:=n) (A:=A) (B:=B) (C:=C) p4 (m:=m) (w:=w) (s9:=.fz (Qm (whT A B C)))
 obtain ⟨d,q6,p6,d1,d2,e6⟩:=Qafb 13 (n:=n) (A:=A) (B:=B) (C:=C) p5 (m:=m) (w:=w) (s9:=.fz (Qm (whT A B C))) l2 l5
 refine ⟨en q6 m n w A B C (.fz (Qm (whT A B C))) (.fz (Qf ws)) (.fz (.int (d:Int))),?_,rfl⟩
 show exS (cfn 14) (.seq (.set 2 (.call 36 (.cons (.var 1) .nil))) (.seq (.unp [3,4] (.tup (.cons (.bin .add (.int 1) (.call 37 (.cons (.var 2) (.cons (.int 4) .nil)))) (.cons (.call 37 (.cons (.var 2) (.cons (.int 3) .nil))) .nil)))) (.seq (.set 5 Qrs) (.seq Q2w (.seq (.frz 5) (.seq (.unl [6,7,8] (.var 5)) (.seq l_s9 (.seq l_i1 (.seq l_i2 (.seq Q7q (.seq Q7r (.seq l_i3 (.seq l_i4 l_i5))))))))))))) [.un,.fz (.int m),.un,.un,.un,.un,.un,.un,.un,.un,.un,.un]=_
 have z2:(2:Nat)≤100000:=by decide
 have a1:exS (cfn 14) (.set 2 (.call 36 (.cons (.var 1) .nil))) [.un,.fz (.int m),.un,.un,.un,.un,.un,.un,.un,.un,.un,.un]=.nx [.un,.fz (.int m),.ow q,.un,.un,.un,.un,.un,.un,.un,.un,.un]:=by
  simp only [Qlo,Q0,Ql,Qo,Q3,Qc,Qa,Qz,yC1,Qu,yC2,Qr,Qs,Qy,Qt,Q7,Qx,e0,Qao,Qi,Qv,L2.Qj,Option.map,if_true,Qal,Qoq,Qah,Qbk,length_cons,length_nil,Nat.reduceAdd,Nat.reduceLT,List.set]
 have a2:exS (cfn 14) (.unp [3,4] (.tup (.cons (.bin .add (.int 1) (.call 37 (.cons (.var 2) (.cons (.int 4) .nil)))) (.cons (.call 37 (.cons (.var 2) (.cons (.int 3) .nil))) .nil)))) [.un,.fz (.int m),.ow q,.un,.un,.un,.un,.un,.un,.un,.un,.un]=.nx [.un,.fz (.int m),.ow q2,.fz (.int n),.fz (.int w),.un,.un,.un,.un,.un,.un,.un]:=by
  simp only [Q7d,Q7c,Ql,Qcv,Qbe,Qz,Qcl,Q0,Qo,Q3,Qc,Qa,yC1,Qu,yC2,Qr,Qs,all_cons,all_nil,Bool.and_true,Qy,Qt,Q7,Qx,e1,Qao,Qi,Qv,L2.Qj,reduceCtorEq,Option.map,if_false,Nat.reduceAdd,Nat.reduceEqDiff,if_true,getElem?_cons_zero,Slot.put,Qck,Qcj,cont,Out.opt,uo1,hn,e2,yTup,Qfj,frz,length_cons,length_nil,z2,Qal,yUnp,Qah,Qcz,Qbk,Nat.reduceLT,List.set]
 have a3:exS (cfn 14) (.set 5 Qrs) [.un,.fz (.int m),.ow q2,.fz (.int n),.fz (.int w),.un,.un,.un,.un,.un,.un,.un]=.nx [.un,.fz (.int m),.ow q3,.fz (.int n),.fz (.int w),.ow (.lst [Qm A,Qm B0,Qm C]),.un,.un,.un,.un,.un,.un]:=by
  rw [Qlo,e3]
  rfl
 have a5:exS (cfn 14) (.frz 5) [.un,.fz (.int m),.ow q4,.fz (.int n),.fz (.int w),.ow (.lst [Qm A,Qm B,Qm C]),.un,.un,.un,.un,.un,.un]=.nx [.un,.fz (.int m),.ow q4,.fz (.int n),.fz (.int w),.fz (Qbc [A,B,C]),.un,.un,.un,.un,.un,.un]:=rfl
 have a6:exS (cfn 14) (.unl [6,7,8] (.var 5)) [.un,.fz (.int m),.ow q4,.fz (.int n),.fz (.int w),.fz (Qbc [A,B,C]),.un,.un,.un,.un,.un,.un]=.nx (en q4 m n w A B C .un .un .un):=rfl
 rw [Qad,a1,Qbd,Qad,a2,Qbd,Qad,a3,Qbd,Qad,e4,Qbd,Qad,a5,Qbd,Qad,a6,Qbd,Qad,t_s9 9 h,Qbd,Qad,t_i1 8 h,Qbd,Qad,t_i2 3 h,Qbd,Qad,e5,Qbd,Qad,e6,Qbd,Qad,t_i3 8 h l5 hi d1 d2,Qbd,Qad,t_i4 9 h,Qbd,t_i5 3 h]
open PySem L2
section
variable {P:Program} {w:World} {K:PySem.W.Frag} {mg:Str→Option Value} {base:Heap}
theorem ok_q {x:Str} {st:Stmt} {f:Addr} {fd:FuncData} {N ps:List Str} {k:Nat} {sp:Sp} (F:Fun K x x st f fd) (S:FnScope N ps (Qg st)) (len:∀ vs H Q E,sp vs H Q E→vs.length=ps.length)
  (hbody:∀ (cdv:Value) (A:Around) (outer:List Env) (s:Shared) (H:Hp) (vs:List V) (Q:VK) (E:XK),Room k (A.deeper (PyProof.Rows.envOfC x (Qg st) s.heap.objs.size f cdv))→sp vs H Q E →
   ∃ t,QB (Qif (fun _=>true) CX0 P w K mg base N x (Qg st) f cdv A outer s H E).nox (Qbq st) t∧t { nx:=fun _ H'=>Q .non H',rt:=Q } (Qcr N vs) H):FnOk P w K mg base CX0 (k+1) f fd ps sp :=
 F.ok S len fun cdv A outer s H vs Q E hr hs=>let ⟨t,a,b⟩:=hbody cdv A outer s H vs Q E hr hs;⟨t,a.h,b⟩
theorem Qabv {h:Heap} {x:Str} {st:Stmt} {f:Addr} {oc:Value} {od an:Option Addr} {osl:Array (Option Value)} {kV doc pm cdv ct:Value} (X:K.In h) (G:h.Ns mainGlobals mg) (a:PySem.W.nsIn K mainGlobals x=some (some (.ref f)))
  (l:K.lookup f=some ⟨oc,od,.func (PySem.W.fnOf x x (Qek st) (Qbq st) (Qg st) .none kV doc pm an cdv ct),osl⟩) (c:PySem.W.codeIn K cdv x=true) (k:PySem.W.keepIn K (.ref f)=true):Dfn K mg x st:=⟨⟨f,_,Q83 l c k,PySem.W.mg_of X G a⟩⟩
theorem Qvq {h:Heap} {x:Str} {i:Int} {t:Tok} (X:K.In h) (G:h.Ns mainGlobals mg) (a:PySem.W.nsIn K mainGlobals x=some (some (.int i t))):∃ u,mg x=some u∧RelV (.int i) u:=⟨_,PySem.W.mg_of X G a,t,rfl⟩
theorem Q6b {lf:Addr} {lfd:FuncData} (F:Fun K "law" "law" Qlq lf lfd) (s:Shared) (v:Value):BindsTo s lfd ⟨[v],[]⟩ [("_law_script",v)]:=by
 obtain ⟨oc,od,kV,doc,pm,an,cdv,ct,osl,rfl,lk,hcd⟩:=F.ex
 exact .of_eq (Qaa0 _ _ _ _ _ _ [v] rfl)
theorem Qak {xs:List Df} {d:Df} (i:Nat) (h:xs[i]?=some d):d∈xs:=mem_of_getElem? h
theorem Qabw {l:PySem.W.OpenLaw} {fa:Addr} (hfa:mg "law" = some (.ref fa)) (tx:Txt K mg) (dl:Dfn K mg "law" Qlq) (dc:Dfn K mg "_law_cell" Qez) (D:∀ d∈ds,Dfn K mg d.x d.st) :
  ∃ fd:FuncData,(∀ (s:Shared) (v:Value),BindsTo s fd ⟨[v],[]⟩ [("_law_script",v)])∧∀ base:Heap,K.In base→base.Ns mainGlobals mg→FnOk l.prog w K mg base CX0 30 fa fd ["_law_script"] (Quj K):=by
 obtain ⟨f,fd,F,m⟩:=dl.ex
 have e:=hfa.symm.trans m
 cases e
 refine ⟨fd,Q6b F,fun base _ _=>?_⟩
 have A:AllQ (fun d=>DfOk K mg d∧Qac l.prog w K mg base ds d) ds:=⟨⟨⟨D _ (Qak 0 rfl),Qsx,Qsy,rfl,rfl⟩,Qu6 tx⟩,⟨⟨D _ (Qak 1 rfl),Qyh,Qyi,rfl,rfl⟩,Q1h tx⟩,⟨⟨D _ (Qak 2 rfl),Qur,Qus,rfl,rfl⟩,Qyp tx⟩,⟨⟨D _ (Qak 3 rfl),Qfm,Qos,rfl,rfl⟩,Qq2 tx⟩,⟨⟨D _ (Qak 4 rfl),Qot,Qou,rfl,rfl⟩,Qq3 tx⟩,⟨⟨D _ (Qak 5 rfl),Qlp,Qsz,rfl,rfl⟩,Qu7 tx⟩,⟨⟨D _ (Qak 6 rfl),Qs0,Qs1,rfl,rfl⟩,Qu8 tx⟩,⟨⟨D _ (Qak 7 rfl),Qov,Qow,rfl,rfl⟩,Qq4 tx⟩,⟨⟨D _ (Qak 8 rfl),Qyj,Qyk,rfl,rfl⟩,Q1i tx⟩,⟨⟨D _ (Qak 9 rfl),Qox,Qoy,rfl,rfl⟩,Qq5 tx⟩,⟨⟨D _ (Qak 10 rfl),Qhh,Qnr,rfl,rfl⟩,Qo1 tx⟩,⟨⟨D _ (Qak 11 rfl),Qs2,Qs3,rfl,rfl⟩,Qu9 tx⟩,⟨⟨D _ (Qak 12 rfl),Qs4,Qs5,rfl,rfl⟩,Qva tx⟩,⟨⟨D _ (Qak 13 rfl),Qlx,Qly,rfl,rfl⟩,Qn4 tx⟩,⟨⟨D _ (Qak 14 rfl),Qqr,Qqs,rfl,rfl⟩,Qtb tx⟩,⟨⟨D _ (Qak 15 rfl),Qoz,Qo0,rfl,rfl⟩,Qq6 tx⟩,⟨⟨D _ (Qak 16 rfl),Qii,Qij,rfl,rfl⟩,Qi8 tx⟩,⟨⟨D _ (Qak 17 rfl),Qhi,Qhj,rfl,rfl⟩,Qik tx⟩,⟨⟨D _ (Qak 18 rfl),Qs6,Q1c,rfl,rfl⟩,Q5g tx⟩,⟨⟨D _ (Qak 19 rfl),Qut,Quu,rfl,rfl⟩,Qyq tx⟩,⟨⟨D _ (Qak 20 rfl),Qjz,Q1d,rfl,rfl⟩,Q5h tx⟩,⟨⟨D _ (Qak 21 rfl),Qqt,Qqu,rfl,rfl⟩,Qtc tx⟩,⟨⟨D _ (Qak 22 rfl),Qyl,Qym,rfl,rfl⟩,Q1j tx⟩,⟨⟨D _ (Qak 23 rfl),Qcm,Qj1,rfl,rfl⟩,Qk4 tx⟩,⟨⟨D _ (Qak 24 rfl),Qns,Quv,rfl,rfl⟩,Qyr tx⟩,⟨⟨D _ (Qak 25 rfl),Qdw,Quw,rfl,rfl⟩,Qys tx⟩,⟨⟨D _ (Qak 26 rfl),Qqv,Qqw,rfl,rfl⟩,Qtd tx⟩,⟨⟨D _ (Qak 27 rfl),Qnt,Qux,rfl,rfl⟩,Qyt tx⟩,⟨⟨D _ (Qak 28 rfl),Qi0,Quy,rfl,rfl⟩,Qyu tx⟩,⟨⟨D _ (Qak 29 rfl),Qff,Qs7,rfl,rfl⟩,Qvb tx⟩,⟨⟨D _ (Qak 30 rfl),Q5c,Q5d,rfl,rfl⟩,Qaa3 tx⟩,⟨⟨D _ (Qak 31 rfl),Qj2,Qj3,rfl,rfl⟩,Qk5 tx⟩,⟨⟨D _ (Qak 32 rfl),Qbi,Qj4,rfl,rfl⟩,Qk6 tx⟩,⟨⟨D _ (Qak 33 rfl),Qnu,Qnv,rfl,rfl⟩,Qo2 tx⟩,⟨⟨D _ (Qak 34 rfl),Qdx,Quz,rfl,rfl⟩,Qyv tx⟩,⟨⟨D _ (Qak 35 rfl),Ql7,Q5e,rfl,rfl⟩,Qaa4 tx⟩,⟨⟨D _ (Qak 36 rfl),Qnw,Qu0,rfl,rfl⟩,Qyw tx⟩,⟨⟨D _ (Qak 37 rfl),Qed,Qta,rfl,rfl⟩,Qvc tx⟩,⟨⟨D _ (Qak 38 rfl),Qbv,Qqz,rfl,rfl⟩,Qte tx⟩,⟨⟨D _ (Qak 39 rfl),Qfh,Qj5,rfl,rfl⟩,Qk7 tx⟩,⟨⟨D _ (Qak 40 rfl),Qcn,Qj6,rfl,rfl⟩,Qk8 tx⟩,trivial⟩
 have hc:=Qpp (Q1a A) 14
 refine ok_q (k:=29) F Qeg (fun vs H Q E h=>?_) (fun cdv A outer s H vs Q E hr h=>?_)
 ·obtain ⟨a,ns,rfl,_⟩:=h
  rfl
 ·exact ⟨_,Qaev tx hc (Qq7 dc tx) hr,Q5b h (by decide) (by decide)  Q2y⟩
end
end My
namespace PySem.W.Fast
noncomputable def tw10695812039362245946:=()
noncomputable def tw10314033188643670644:=()
noncomputable def tw15365261477431022660:=()
noncomputable def tw15810658721989559484:=()
noncomputable def tw17294332616612044194:=()
noncomputable def tw1440486169612144529:=()
noncomputable def tw16209528145820840618:=()
noncomputable def tw11008332781036823191:=()
noncomputable def tw2298814980338099034:=()
noncomputable def tw13768271668115691981:=()
noncomputable def tw17645785203547117191:=()
noncomputable def tw14611806919197705949:=()
noncomputable def tw6215697015587334959:=()
noncomputable def tw16019402627719471478:=()
noncomputable def tw8677743409502002533:=()
noncomputable def tw17550476983802981991:=()
noncomputable def tw12008518402554309245:=()
noncomputable def tw15094597538454166165:=()
noncomputable def tw11447484863475311420:=()
noncomputable def tw528316068004577438:=()
noncomputable def tw17000892540921542950:=()
noncomputable def tw3221565014232065197:=()
noncomputable def tw62109221114932840:=()
noncomputable def tw14174290485815379720:=()
noncomputable def tw10967911224193256604:=()
noncomputable def tw3002179737357432073:=()
noncomputable def tw13023486891698409250:=()
noncomputable def tw11233594772850886552:=()
noncomputable def tw14937360363761597696:=()
noncomputable def tw9146595817547666965:=()
noncomputable def tw9932168687740930548:=()
noncomputable def tw17827385012999354847:=()
noncomputable def tw18246676922748029241:=()
noncomputable def tw1941356855014038721:=()
noncomputable def tw17955244600295503176:=()
noncomputable def tw6876223282080231084:=()
noncomputable def tw8887423314131812368:=()
noncomputable def tw5868722629403135207:=()
noncomputable def tw7176722650644938577:=()
noncomputable def tw4933745182772788643:=()
noncomputable def tw13742388975204005707:=()
noncomputable def tw12554619275954670876:=()
noncomputable def tw742113152900608430:=()
noncomputable def tw13963364270605804270:=()
noncomputable def tw6453378742310544786:=()
noncomputable def tw6429459568950399795:=()
noncomputable def tw14289715671941954177:=()
noncomputable def tw15597306141566334609:=()
noncomputable def tw17400271655946317390:=()
noncomputable def tw16059893492822415182:=()
noncomputable def tw12684560648047922420:=()
noncomputable def tw17490602055804630626:=()
noncomputable def tw9923361554949864801:=()
noncomputable def tw81244289676660974:=()
noncomputable def tw12169227713534946801:=()
noncomputable def tw298521167311742513:=()
noncomputable def tw6075251813832141641:=()
noncomputable def tw9481472099695261346:=()
noncomputable def tw4428192128120150979:=()
noncomputable def tw3054127443860627523:=()
noncomputable def tw11461875373317553343:=()
noncomputable def tw11023224064355488836:=()
noncomputable def tw7843458998417923865:=()
noncomputable def tw4656211534767281043:=()
noncomputable def tw10404022369508317136:=()
noncomputable def tw12309528437855549776:=()
noncomputable def tw15556620361528476413:=()
noncomputable def tw9495518023508739548:=()
noncomputable def tw8657080972579816078:=()
noncomputable def tw3380396299473195901:=()
noncomputable def tw4442219688519126983:=()
noncomputable def tw9299135796210449986:=()
noncomputable def tw4963088462087519223:=()
noncomputable def tw888079487984348361:=()
noncomputable def tw5764488224145949178:=()
noncomputable def tw2971404472913451553:=()
noncomputable def tw16169663829460752294:=()
noncomputable def tw4519789790209346747:=()
noncomputable def tw4567342615244045332:=()
noncomputable def tw13341512486075171085:=()
noncomputable def tw11946481170571515386:=()
noncomputable def tw5142421184077364919:=()
noncomputable def tw15073930000858649785:=()
noncomputable def tw6456599183679952426:=()
noncomputable def tw8032470034949867362:=()
noncomputable def tw11285133043706314367:=()
noncomputable def tw5357850997843004434:=()
noncomputable def tw596781162922475100:=()
noncomputable def tw6835694366481786296:=()
noncomputable def tw16503975777932831396:=()
noncomputable def tw5195352501910040397:=()
noncomputable def tw6110472243052543681:=()
noncomputable def tw4790820451825200853:=()
noncomputable def tw10525421471048686242:=()
noncomputable def tw12850070956409328944:=()
noncomputable def tw12709228669996007180:=()
noncomputable def tw13077535915776517452:=()
noncomputable def tw3702233746696368333:=()
noncomputable def tw13924428380075124289:=()
noncomputable def tw14560967065011622714:=()
noncomputable def tw8523932875529895316:=()
noncomputable def tw12642458761258487618:=()
noncomputable def tw7565995396548103978:=()
noncomputable def tw11281142309921756985:=()
noncomputable def tw7914677662011082536:=()
noncomputable def tw4917155003833626859:=()
noncomputable def tw10718269573056360453:=()
noncomputable def tw8682834380509160405:=()
noncomputable def tw16460882222207422750:=()
noncomputable def tw9595692774843913669:=()
noncomputable def tw3005032568078986930:=()
noncomputable def tw2003542521524081364:=()
noncomputable def tw15237854776198202693:=()
noncomputable def tw7659979678110082894:=()
noncomputable def tw6347442431937168145:=()
noncomputable def tw14755923885098703177:=()
noncomputable def tw1614811308817651969:=()
noncomputable def tw13103551650713045129:=()
noncomputable def tw3926981248741917018:=()
noncomputable def tw16106141720739898042:=()
noncomputable def tw11954366228136906746:=()
noncomputable def tw6989478224231817500:=()
noncomputable def tw8939449347870837316:=()
noncomputable def tw17257578337603722805:=()
noncomputable def tw14601414972252642908:=()
noncomputable def tw7884524649700475944:=()
noncomputable def tw15479911273495278709:=()
noncomputable def tw2845163719512153547:=()
noncomputable def tw2266894079405195653:=()
noncomputable def tw12572100993861218110:=()
noncomputable def tw17989074249314891778:=()
noncomputable def tw3642501250295550852:=()
noncomputable def tw936742195623419178:=()
noncomputable def tw11815744838535019292:=()
noncomputable def tw14952029725918548385:=()
noncomputable def tw15506145375748851792:=()
noncomputable def tw8556533161808219200:=()
noncomputable def tw6838704738523138333:=()
noncomputable def tw14159672683113552525:=()
noncomputable def tw18312108890059857326:=()
noncomputable def tw1277613027523369475:=()
noncomputable def tw6352561038505982441:=()
noncomputable def tw11910528549864614773:=()
noncomputable def tw7102384615477970747:=()
noncomputable def tw9765123139253556785:=()
noncomputable def tw17565607511986523853:=()
noncomputable def tw2630682047922056054:=()
noncomputable def tw14616768332956643926:=()
noncomputable def tw7821695391672759260:=()
noncomputable def tw13723306437237751380:=()
noncomputable def tw4898772333865562489:=()
noncomputable def tw14092655217990262020:=()
noncomputable def tw12027861481135172136:=()
noncomputable def tw241452675782145605:=()
noncomputable def tw18113866995318243331:=()
noncomputable def tw4150467980841960342:=()
noncomputable def tw18361330697645589150:=()
noncomputable def tw7414804364942295642:=()
noncomputable def tw17748417878638184759:=()
noncomputable def tw7265782226690814696:=()
noncomputable def tw10474847784626120853:=()
noncomputable def tw15047244207219202155:=()
noncomputable def tw6588083693185699694:=()
noncomputable def tw1067884021890558384:=()
noncomputable def tw10228312276829980048:=()
noncomputable def tw14360336785045733191:=()
noncomputable def tw12661190379287029573:=()
noncomputable def tw8917253665948448233:=()
noncomputable def tw4385261101562923838:=()
noncomputable def tw10373182111650599097:=()
noncomputable def tw10236153260468166885:=()
noncomputable def tw16176032489507998290:=()
noncomputable def tw11918856661341244110:=()
noncomputable def tw3115506962523188667:=()
noncomputable def tw1748029872287753194:=()
noncomputable def tw10886964694912867182:=()
noncomputable def tw15735493076019622060:=()
noncomputable def tw2902962256952538727:=()
noncomputable def tw10567647554345055394:=()
noncomputable def tw14201964813524142823:=()
noncomputable def tw13465493845794019983:=()
noncomputable def tw12190177797928941031:=()
noncomputable def tw5958056771734128134:=()
noncomputable def tw9064301854097205431:=()
noncomputable def tw6992557152920490668:=()
noncomputable def tw2620368908691189402:=()
noncomputable def tw1665645630820338974:=()
noncomputable def tw900063615676043528:=()
noncomputable def tw1212931877745372554:=()
noncomputable def tw8494837154249376124:=()
noncomputable def tw13328403513833864095:=()
noncomputable def tw3692470347543590083:=()
noncomputable def tw5992681951490811042:=()
noncomputable def tw7230714996338412365:=()
noncomputable def tw660721088437897437:=()
noncomputable def tw12021165039250594829:=()
noncomputable def tw18278350153408089684:=()
noncomputable def tw11983402755417227499:=()
end PySem.W.Fast
open PySem PySem.W PyProof.Rows
set_option maxRecDepth 100000 in
set_option maxHeartbeats 0 in
theorem PySem.Challenge.cw_noughtways_k08_whole_products_hold_toget_holds : PySem.Challenge.rw_noughtways_k08_whole_products_hold_toget.Holds := by
 w_on;o_law;k_head;(case hw=>w_witness2)
 k_fill
 refine L2.Qzk (l:=PySem.Challenge.rw_noughtways_k08_whole_products_hold_toget) (n:=63) (k:=30) (x := "_law_script") (CX:=L2.CX0) (sp:=L2.Quj) rfl (by decide) rfl ⟨rfl,by decide,by decide,rfl⟩ (fun w h Y=>PySem.W.kIn_of Y) ?F ?S ?C ?T
 case F =>
  intro w mg fa h KX G hmg
  have ⟨d0,d1,d2,d3,d4,d5,d6,d7,d8,d9,d10,d11,d12,d13,d14,d15,d16,d17,d18,d19,d20,d21,d22,d23,d24,d25,d26,d27,d28,d29,d30,d31,d32,d33,d34,d35,d36,d37,d38,d39,d40,d41,d42⟩:L2.Dfn (L2.KOf KX) mg "law" My.Qlq∧L2.Dfn (L2.KOf KX) mg "_law_cell" My.Qez∧L2.Dfn (L2.KOf KX) mg "is_whole" My.Qgg∧L2.Dfn (L2.KOf KX) mg "is_row" My.Qjx∧L2.Dfn (L2.KOf KX) mg "is_grid" My.Qh2∧L2.Dfn (L2.KOf KX) mg "numbers_of" My.Qen∧L2.Dfn (L2.KOf KX) mg "is_bounded" My.Qeo∧L2.Dfn (L2.KOf KX) mg "wrong_at" My.Qgh∧L2.Dfn (L2.KOf KX) mg "is_place" My.Qgi∧L2.Dfn (L2.KOf KX) mg "are_places" My.Qep∧L2.Dfn (L2.KOf KX) mg "is_way" My.Qjy∧L2.Dfn (L2.KOf KX) mg "need_table" My.Qeq∧L2.Dfn (L2.KOf KX) mg "need_tables" My.Qd7∧L2.Dfn (L2.KOf KX) mg "need_way" My.Qgj∧L2.Dfn (L2.KOf KX) mg "is_table" My.Qgk∧L2.Dfn (L2.KOf KX) mg "tables_wrong" My.Qdp∧L2.Dfn (L2.KOf KX) mg "column_at" My.Qfc∧L2.Dfn (L2.KOf KX) mg "columns_of" My.Qer∧L2.Dfn (L2.KOf KX) mg "row_times_column" My.Qcc∧L2.Dfn (L2.KOf KX) mg "row_times_columns" My.Qb2∧L2.Dfn (L2.KOf KX) mg "times" My.Ql5∧L2.Dfn (L2.KOf KX) mg "product" My.Qh3∧L2.Dfn (L2.KOf KX) mg "along" My.Ql6∧L2.Dfn (L2.KOf KX) mg "is_nought" My.Qfd∧L2.Dfn (L2.KOf KX) mg "turned" My.Qj0∧L2.Dfn (L2.KOf KX) mg "shared_divisor" My.Qc1∧L2.Dfn (L2.KOf KX) mg "lead_of" My.Qh4∧L2.Dfn (L2.KOf KX) mg "line_of" My.Qh5∧L2.Dfn (L2.KOf KX) mg "unit_line" My.Qfe∧L2.Dfn (L2.KOf KX) mg "cleared" My.Qh6∧L2.Dfn (L2.KOf KX) mg "left_of" My.Qh7∧L2.Dfn (L2.KOf KX) mg "steps_of" My.Qgl∧L2.Dfn (L2.KOf KX) mg "rank" My.Qqx∧L2.Dfn (L2.KOf KX) mg "without_column" My.Qc2∧L2.Dfn (L2.KOf KX) mg "determinant_of" My.Qc3∧L2.Dfn (L2.KOf KX) mg "determinant" My.Qd8∧L2.Dfn (L2.KOf KX) mg "lost_at" My.Qh8∧L2.Dfn (L2.KOf KX) mg "lost" My.Qqy∧L2.Dfn (L2.KOf KX) mg "_law_pen" My.Qh9∧L2.Dfn (L2.KOf KX) mg "_law_draw" My.Qgm∧L2.Dfn (L2.KOf KX) mg "_law_table" My.Qfg∧L2.Dfn (L2.KOf KX) mg "_law_pair_right" My.Qc4∧L2.Dfn (L2.KOf KX) mg "_law_lost_right" My.Qc5:=by
   refine ⟨?_,?_,?_,?_,?_,?_,?_,?_,?_,?_,?_,?_,?_,?_,?_,?_,?_,?_,?_,?_,?_,?_,?_,?_,?_,?_,?_,?_,?_,?_,?_,?_,?_,?_,?_,?_,?_,?_,?_,?_,?_,?_,?_⟩ <;> (dsimp only [L2.KOf];refine' My.Qabv KX G ?a ?l ?c ?k;(case a=>k_is);(case l=>k_is);(case c=>k_is);(case k=>k_is))
  have ⟨z0,z1,z2,z3,z4,z5,z6,z7,z8,z9,z10,z11,z12,z13,z14⟩:mg "abs" = none∧mg "all" = none∧mg "any" = none∧mg "bool" = none∧mg "divmod" = none∧mg "int" = none∧mg "isinstance" = none∧mg "len" = none∧mg "list" = none∧mg "max" = none∧mg "min" = none∧mg "range" = none∧mg "sorted" = none∧mg "sum" = none∧mg "tuple" = none:=by
   refine ⟨?_,?_,?_,?_,?_,?_,?_,?_,?_,?_,?_,?_,?_,?_,?_⟩ <;> (refine PySem.W.mg_none_of KX G ?_;(try dsimp only [L2.KOf]);k_is)
  have y0:∃ u,mg "MOST_PLACES" = some u∧L2.RelV (L2.V.int (200)) u:=by
   refine' My.Qvq (K:=L2.KOf KX) KX G ?a
   (case a=>(try dsimp only [L2.KOf]);k_is)
  have y1:∃ u,mg "MOST_ROWS" = some u∧L2.RelV (L2.V.int (4)) u:=by
   refine' My.Qvq (K:=L2.KOf KX) KX G ?a
   (case a=>(try dsimp only [L2.KOf]);k_is)
  have y2:∃ u,mg "MOST_TABLES" = some u∧L2.RelV (L2.V.int (4)) u:=by
   refine' My.Qvq (K:=L2.KOf KX) KX G ?a
   (case a=>(try dsimp only [L2.KOf]);k_is)
  have tx:My.Txt (L2.KOf KX) mg:=⟨z0,z1,z2,z3,z4,z5,z6,z7,z8,z9,z10,z11,z12,z13,z14,y0,y1,y2⟩
  refine My.Qabw hmg tx d0 d1 fun d hd=>?_
  simp only [My.ds,mem_cons,not_mem_nil,or_false] at hd
  rcases hd with rfl | rfl | rfl | rfl | rfl | rfl | rfl | rfl | rfl | rfl | rfl | rfl | rfl | rfl | rfl | rfl | rfl | rfl | rfl | rfl | rfl | rfl | rfl | rfl | rfl | rfl | rfl | rfl | rfl | rfl | rfl | rfl | rfl | rfl | rfl | rfl | rfl | rfl | rfl | rfl | rfl
  ·exact d2
  ·exact d3
  ·exact d4
  ·exact d5
  ·exact d6
  ·exact d7
  ·exact d8
  ·exact d9
  ·exact d10
  ·exact d11
  ·exact d12
  ·exact d13
  ·exact d14
  ·exact d15
  ·exact d16
  ·exact d17
  ·exact d18
  ·exact d19
  ·exact d20
  ·exact d21
  ·exact d22
  ·exact d23
  ·exact d24
  ·exact d25
  ·exact d26
  ·exact d27
  ·exact d28
  ·exact d29
  ·exact d30
  ·exact d31
  ·exact d32
  ·exact d33
  ·exact d34
  ·exact d35
  ·exact d36
  ·exact d37
  ·exact d38
  ·exact d39
  ·exact d40
  ·exact d41
  ·exact d42
 case S=>exact fun K H a ns hl _ hS=>⟨a,ns,rfl,hS,hl,fun _=>rfl⟩
 case C=>exact fun _ _ _ _ z=>z
 case T=>exact fun w a q=>L2.Qaet (by first | kernel_rfl | exact rfl | decide) a q
